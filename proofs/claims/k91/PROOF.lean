import PyProof.Rows.All
import Wide.All
import OpenK.AllK
import Wide.FinOn
import Lean
import PyProof.EqAt
import PyProof.EqKinds
import PyProof.TupleCall
import PyProof.NeKinds
import KE.KDictOf
import PyProof.AttrMissHeap
import PyProof.WalksMore
import PyProof.MeetsDict
import KE.KDictList
import KE.KRevIter
import PyProof.DictItemsLoops
import PyProof.DictWalks
import KE.KSortTup
import KE.KDictSum
import PyProof.SumAny
import PyProof.Conv_int_bool
import PyProof.Conv_int
import KE.KRevSl
import PyProof.MeetsStr
import PyProof.StrCalls3
import PyProof.Rows.TupDisplay
import PyProof.ZipIter
import PyProof.Draws
import PyProof.EnumMake
import PyProof.PureStr
import PyProof.MeetsStr3
import PyProof.MeetsStr2
import PyProof.Rows.StrSplitMax
import KE.KIntText
import PyProof.Rows.StrKeys3
import PyProof.FString
import PyProof.StrBlock
import PyProof.StrReplace2
import PyProof.ReprRoads
import KE.IntBitsLaws
import PySem.Challenge.RW_copymeet_k91_a_deed_as_a_text
set_option compiler.extract_closed false
open PySem renaming wpAny_bind->ff,wpAny_pure->z8,sizeLine->OR,starEach->Pe,compareOp->Pn,mainGlobals->Pq,wpAny_newObj_type->Pw,wpAny_callSpecial?_slot->Pz,Spec->PK,wpAny_call_entry->PL,cellsFrom->P7,typeIs_str->P8,binaryOp->Qe,wpAny_holding->Qf,wpAny_mono->Qj,wpAny_ite_false->Qr,foldedSetIterable->Qw,sizeLine_eq->Qy,wpAny_field->Qz,sysModules->QI,wpAny_truthy_bool->QJ,wpAny_seqItems->QO,wpAny_isInstance->QV,codeAny_builtin->Q3,assignEach->Q6,bootBuiltins->Q7,FuncData->Q9,tupleKind_room_in1->Rb,SetTable->Rf,wpAny_setField_rec->Rg,wpAny_of_eq->Rk,wpAny_rule->Rn,wpAny_specialOf->Rp,wpAny_setState_of->Rr,wpAny_typeOf->Rt,call_meetsIn->Ru,mem_of_lookup->Rw,wpAny_setEntries_of->Rz,NameKind->RI,builtinLookup_eq_fast->RS,attributeBase->R5,call_meets->R6,plainId_quiet->R9,wpAny_pyIter_list->Sa,firstArgMember->Si,wpAny_askSetting->Sl
open PySem.Heap renaming get?_push_of_some->zz,get?_push_size->OQ,lt_size->OS,get?_update_other->Ql,size_push->Qp,get?_update_self->QQ,SameBut->RK,get?_push_ne->R8
open PySem.W renaming Frag->z9,mg_of->PN,nsIn->PU,kia_one->P6,fnOf->QF,keepIn->SH,codeIn->SJ
open List renaming getElem?_eq_some_iff->Io,mem_cons->KP,length_map->OP,prefix_rfl->OT,mem_map->OU,size_toArray->OV,mem_cons_of_mem->OX,length_cons->OZ,map_cons->Pa,mem_cons_self->Pb,length_append->Pf,lookup_cons->Pg,map_map->Ph,not_mem_nil->Pk,range->Pm,all_eq_true->Pp,mem_append->Pr,mem_append_right->PB,getElem?_map->PF,prefix_append->PP,getElem?_append_left->PQ,length_nil->P0,replicate->P3,mem_singleton->P4,getElem?_eq_getElem->Qc,getElem?_append_right->Qh,mem_of_getElem?->Qi,pairwise_iff_getElem->Qq,getElem_mem->Qt,getElem?_cons_succ->QA,getElem?_set_ne->QD,getElem?_set_self->QG,map_congr_left->QL,pairwise_map->QM,getElem?_eq_none_iff->QN,find?_cons->QR,pairwise_cons->QT,eq_nil_of_length_eq_zero->QU,mem_range->QX,nodup_cons->Q2,all_cons->Ra,toArray->Re,drop_eq_getElem_cons->Ri,mem_append_left->Rl,ext_getElem?->Rq,any_cons->Rx,filter_cons->RB,drop_eq_nil_of_le->RF,mem_iff_getElem?->RR,map_append->RW,getD_eq_getElem?_getD->Sd,mem_iff_getElem->Se,length_take->Sk,filterMap_cons->Sm,not_lt->So,length_set->Sy
open Nat renaming le_refl->OO,ne_of_lt->OW,lt_of_lt_of_le->Pd,zero_le->Pu,le_trans->PD,lt_irrefl->Qs,lt_or_eq_of_le->QB,ne_of_gt->QY,lt_succ_of_lt->Q1,lt_trans->RM,le_of_lt->Sr,toDigits->Sw
open PySem.Builtin.Int renaming intBits->OY
open Bool renaming false_ne_true->Pc,and_eq_true->Pj,false_eq_true->Qb,eq_iff_iff->QS,beq_eq_decide_eq->RX
open PySem.Builtin.Str renaming occurrences->Pi,strKind->Px,strSliceIndices->RN,partsBetween->Sv,strSub->SC
open Array renaming getElem?_eq_getElem->Po,getElem?_eq_none->QH,getD->SD
open Option.some renaming inj->Pv
open PySem.Value renaming ref->Py,none->PC,str->Qv,int->Rm,type->R1
open PySem.Str renaming ofString->PJ
open PySem.NameKind renaming free->PM,cell->Sz
open PySem.Builtin.SmallTypes renaming nextOf->PR,ownedTupleIsFree->Qu,ownedTupleHandOut->Sj
open PySem.F renaming slot_str_split->PY,slot_dict_get->P5,plainAttrs_str->Qa,entry_dict_get->Qo,entry_str_split->QC,slot_str_startswith->Q5,args_dict_get_2->Ry,plainAttrs_dict->RA,slot_zip_next->RY,slot_dict_getitem->Sg,called_set->Su
open PyProof.Rows renaming slot_tuple_getitem->PZ,callWith_type1->RL,mirror_perm->RQ
open PySem.Builtin.Tuple renaming tupleHashOf->P9,tupleExact->Ro,tupleItemsOf->Sb
open PySem.SetTable renaming fresh->Qd,below->Rj,grown->SK
open Classical renaming propDecidable->Qg
open PySem.Obj renaming mapSeq->Qk
open PySem.Calls renaming callWith_builtin->Qm,evalArgs_plain->QW,spliced_cons->Q8,Constant_str->RG,spliced_nil->R4
open Option renaming map_eq_some_iff->Qn,isSome_some->RJ
open Sum renaming inr->Qx
open PySem.Around renaming under_plainId->QE
open True renaming intro->QK
open PySem.Txt renaming startswith->QP,slice->Rc,replace->Sq
open PyProof.Rows.F renaming plain_set_update_loop->QZ
open PySem.Heap.SameBut renaming update->Q4
open PySem.Builtin.Slice renaming slicePlaces->Rh,sliceAdjust->Sf
open PySem.Paired renaming length->Rv
open List.Perm renaming refl->RC
open PySem.Builtin.List renaming listTouch->RD,listLengthHint->RT,listExtendWith->RU,listSameRef->Ss
open Array.Perm renaming refl->RP
open PySem.PyData renaming tuple->RZ,shownAll->R0
open False renaming elim->R3
open List.Pairwise renaming nil->R7
open Ne renaming symm->Sn
open Char renaming toNat->SF
set_option Elab.async false
set_option linter.all false
set_option maxRecDepth 1000000
set_option maxHeartbeats 4000000
set_option bootstrap.genMatcherCode false
set_option hygiene false
noncomputable section
set_option genSizeOf false
local macro_rules|`(tactic|omega)=>`(tactic|lia)
local macro_rules|`(def $i:declId $s:optDeclSig $v:declVal)=>`(noncomputable def $i:declId $s:optDeclSig $v:declVal)
set_option tactic.hygienic false
namespace L2
open PySem PySem.Spec PyProof.Rows
abbrev Key:=Sum Int Str
def rT:Key->Value->Bool
 |.inl k,v=>Value.isInt k v
 |.inr x,v=>Value.isStrOf x v
def Jq(w:World):Key->Int
 |.inl k=>hashInt k
 |.inr x=>hashStr w x
theorem bJ:∀{k:Key}{v:Value},rT k v=true->(∃i t,k=Sum.inl i/\v=Rm i t)\/(∃x t,k=Qx x/\v=Qv x t)
 |.inl i,v,h=>by
  obtain⟨t,e⟩:=Value.isInt_shape (k:=i) (v:=v) h;exact .inl ⟨i,t,rfl,e⟩
 |.inr x,v,h=>by
  obtain⟨t,e⟩:=Value.isStrOf_shape (x:=x) (v:=v) h;exact .inr ⟨x,t,rfl,e⟩
theorem Dz(i:Int)(t:Tok):rT (.inl i) (.int i t)=true:=by simp[rT,Value.isInt]
theorem DA(x:Str)(t:Tok):rT (.inr x) (.str x t)=true:=by simp[rT,Value.isStrOf]
theorem Jr(a b:Int):decide ((Sum.inl a:Key)=Sum.inl b)=(a == b):=by
 by_cases e:a=b
 ·subst e;simp
 ·have h:¬ (Sum.inl a:Key)=Sum.inl b:=λq=>e (Sum.inl.inj q);rw[decide_eq_false h];exact(beq_eq_false_iff_ne.mpr e).symm
theorem Js(a b:Str):decide ((Qx a:Key)=Qx b)=decide (a=b):=by
 by_cases e:a=b
 ·subst e;simp
 ·have h:¬ (Qx a:Key)=Qx b:=λq=>e (Sum.inr.inj q);rw[decide_eq_false h,decide_eq_false e]
theorem Jt(a:Int)(b:Str):decide ((Sum.inl a:Key)=Qx b)=false:=decide_eq_false (λq=>nomatch q)
theorem Ju(a:Str)(b:Int):decide ((Qx a:Key)=Sum.inl b)=false:=decide_eq_false (λq=>nomatch q)
def aQ(prog:Program)(w:World):PySem.KeyKind prog w Key where
 is:=rT
 hash:=Jq w
 inj:=λv a b ha hb=>by
  rcases bJ ha with⟨i,t,rfl,rfl⟩|⟨x,t,rfl,rfl⟩
  ·rcases bJ hb with⟨j,u,rfl,e⟩|⟨y,u,rfl,e⟩
   ·injection e with e1 _;rw[e1]
   ·exact nomatch e
  ·rcases bJ hb with⟨j,u,rfl,e⟩|⟨y,u,rfl,e⟩
   ·exact nomatch e
   ·injection e with e1 _;rw[e1]
 byValue:=λk v h=>by
  rcases bJ h with⟨i,t,rfl,rfl⟩|⟨x,t,rfl,rfl⟩ <;> rfl
 pyHash:=λhv h=>by
  rcases bJ hv with⟨i,t,rfl,rfl⟩|⟨x,t,rfl,rfl⟩
  ·exact wpAny_pyHash_int h
  ·exact wpAny_pyHash_str h
 eqBool:=λhu hv h=>by
  rcases bJ hu with⟨i,t,rfl,rfl⟩|⟨x,t,rfl,rfl⟩
  ·rcases bJ hv with⟨j,u,rfl,rfl⟩|⟨y,u,rfl,rfl⟩
   ·rw[Jr]at h;exact wpAny_eqBool_int h
   ·rw[Jt]at h;exact SeqAt.EqAt.int_str i t y u _ _ _ _ h
  ·rcases bJ hv with⟨j,u,rfl,rfl⟩|⟨y,u,rfl,rfl⟩
   ·rw[Ju]at h;exact SeqAt.EqAt.str_int x t j u _ _ _ _ h
   ·rw[Js]at h;exact wpAny_eqBool_str h
 «strs»:=λk x t v h=>by
  rcases bJ h with⟨i,u,rfl,e⟩|⟨y,u,rfl,e⟩
  ·exact nomatch e
  ·injection e with e1 _;subst e1;cases v <;> rfl
theorem A2(prog:Program)(w:World)(i:Int)(t:Tok):(aQ prog w).is (.inl i) (.int i t)=true:=Dz i t
theorem qH(prog:Program)(w:World)(x:Str)(t:Tok):(aQ prog w).is (.inr x) (.str x t)=true:=DA x t
inductive V where
 |non|bl (b:Bool)|int (i:Int)|str (x:Str)|byt (b:Array UInt8)|flt (b:UInt64)|ref (a:Addr)|ty (n:String)
 deriving DecidableEq
def RelV:V->Value->Prop
 |.non,u=>u=PC
 |.bl b,u=>u=Value.bool b
 |.int i,u=>∃t,u=Rm i t
 |.str x,u=>∃t,u=Qv x t
 |.byt b,u=>∃t,u=Value.bytes b t
 |.flt b,u=>∃t,u=Value.float b t
 |.ref a,u=>u=Py a
 |.ty n,u=>u=R1 n
abbrev aI:List V->List Value->Prop:=Paired RelV
variable{us:List Value}
theorem aI.length{xs:List V}(r:aI xs us):xs.length=us.length:=Rv r
theorem aI.get:∀{xs:List V}{us:List Value}{i:Nat}{x:V},aI xs us->xs[i]?=some x->∃u,us[i]?=some u/\RelV x u
 |_,_,_,_,.nil,e=>by simp at e
 |_,_,0,_,.cons r _,e=>by simp at e;subst e;exact⟨_,rfl,r⟩
 |_,_,i+1,x,.cons _ t,e=>by
  obtain⟨u,h1,h2⟩:=aI.get (i:=i) (x:=x) t (by simpa using e)
  exact⟨u,by simpa using h1,h2⟩
variable{u:Value}
theorem aI.set{x:V}(r:RelV x u):∀{xs:List V}{us:List Value}(i:Nat),aI xs us->aI (xs.set i x) (us.set i u)
 |_,_,_,.nil=>.nil
 |_,_,0,.cons _ t=>.cons r t
 |_,_,i+1,.cons q t=>.cons q (aI.set r i t)
theorem aI.append:∀{xs ys:List V}{us ws:List Value},aI xs us->aI ys ws->aI (xs++ys) (us++ws)
 |_,_,_,_,.nil,s=>s
 |_,_,_,_,.cons r t,s=>.cons r (aI.append t s)
theorem aI.take:∀{xs:List V}{us:List Value}(n:Nat),aI xs us->aI (xs.take n) (us.take n)
 |_,_,0,_=>.nil
 |_,_,_+1,.nil=>.nil
 |_,_,n+1,.cons r t=>.cons r (aI.take n t)
theorem aI.drop:∀{xs:List V}{us:List Value}(n:Nat),aI xs us->aI (xs.drop n) (us.drop n)
 |_,_,0,r=>r
 |_,_,_+1,.nil=>.nil
 |_,_,n+1,.cons _ t=>aI.drop n t
def nN:Option V->Option Value->Prop
 |some v,some u=>RelV v u
 |none,none=>True
 |_,_=>False
def KV{κ:Type}:List (κ×V)->List (κ×Value)->Prop:=Paired λ(p:κ×V)(q:κ×Value)=>p.1=q.1/\RelV p.2 q.2
def kV:Key->V
 |.inl i=>.int i
 |.inr x=>.str x
inductive HO where
 /-- a list -/
 |lst (xs:List V)
 /-- a tuple (never changes) -/
 |tup (xs:List V)
 /-- a dict whose keys are ints and texts;one whose keys are tuples of ints and texts (the empty one is both) -/
 |dK (kvs:List (Key×V))|dT (kvs:List (List Key×V))
 /-- a set of ints: its members,its size -/
 |set (S:Int->Bool) (n:Nat)
 /-- an instance of the class at C,its dict at dx,its attributes -/
 |ins (C dx:Addr) (fs:List (Str×V))
 /-- the dict of the instance at x -/
 |own (x:Addr)
 /-- the dict of an exception -/
 |xd (fs:List (Str×V))
 /-- a bound method,f of x -/
 |met (f x:Addr)
 /-- a range object lo,lo+1,.. below hi -/
 |rng (lo hi:Int)
 /-- a thing that is known to the object (the script;a dict while a loop walks it): read,never written while it is so -/
 |frz (o:Obj) (u:HO)
 /-- a code object's table -/
 |tbl (ps:Array Value)
 /-- any other thing,by what is true of its one object (a def of one's own: SetO a S n:=HO.ext λh=>..) -/
 |ext (φ:Heap->Prop)
abbrev Hp:=Addr->Option HO
def upd(H:Hp)(a:Addr)(o:HO):Hp:=λb=>if b=a then some o else H b
variable{H:Hp}{a:Addr}
theorem bC{o:HO}:upd H a o a=some o:=by unfold upd;rw[if_pos rfl]
theorem aW{b:Addr}{o:HO}(h:b≠a):upd H a o b=H b:=by unfold upd;rw[if_neg h]
theorem Ly{b:Addr}{o u:HO}(h:H a=some o)(h':H b=some u)(d:o≠u):a≠b:=by
 intro e;subst e;rw[h]at h';exact d (Pv h')
theorem cJ{b:Addr}{o:HO}(h:H a=some o)(h':H b=none):a≠b:=by
 intro e;subst e;rw[h]at h';cases h'
def nO(h:Heap)(a:Addr)(items:Array Value):Prop:=∃o,h.get? a=some o/\o.cls=.type "tuple" /\ (∃n,o.data=.seq items n)/\o.dict=none
variable{items:Array Value}
theorem nO.is{h:Heap}(x:nO h a items):PyProof.Rows.IsTup h a items:=let ⟨o,h1,h2,h3,_⟩:=x;⟨o,h1,h2,h3⟩
theorem nO.lt{h:Heap}(x:nO h a items):a<h.objs.size:=let ⟨_,h1,_⟩:=x;OS h1
theorem nO.new(h:Heap)(items:Array Value):nO (h.push { cls:=.type "tuple",data:=.seq items 0 }) h.objs.size items:=⟨_,OQ _ rfl,rfl,⟨_,rfl⟩,rfl⟩
section
variable(P:Program)(w:World)
def bS(H:Hp)(h:Heap)(a:Addr):HO->Prop
 |.lst xs=>xs.length<=OR/\∃(its:List Value)(n:Nat),aI xs its/\h.get? a=some { cls:=.type "list",data:=.seq its.toArray n }
 |.tup xs=>xs.length<=OR/\∃its:List Value,aI xs its/\nO h a its.toArray
 |.dK kvs=>kvs.length<=OR/\(a == QI)=false/\∃vs,KV kvs vs/\h.DictOf (aQ P w) a vs
 | .dT kvs=>kvs.length<=OR/\(a == QI)=false/\∃ xs:List (List Key×Addr×Value),
   Paired (λ(p:List Key×V)(q:List Key×Addr×Value)=>p.1=q.1/\H q.2.1=some (.tup (p.1.map kV))/\RelV p.2 q.2.2) kvs xs/\
   ∃o es ep,h.get? a=some o/\o.ExactDict/\o.data=.dict es ep/\es.toList=xs.map (entryOfKey (tupleKind (aQ P w)))/\(xs.map (·.1)).Nodup
 |.set S n=>h.SetOf (intKind P w) a S n
 | .ins C dx fs=>H dx=some (.own a)/\fs.length<=1000/\dx≠a/\h.get? a=some (PySem.W.instObj C dx)/\
   ∃mA,h.Ns1 dx mA/\(∀f,nN (fs.lookup f) (mA f))/\PySem.Within mA (fs.map (·.1))
 |.own _=>∃o,h.get? a=some o
 |.xd fs=>∃mA,h.Ns1 a mA/\∀f,nN (fs.lookup f) (mA f)
 |.rng lo hi=>∃t u v,h.get? a=some { cls:=.type "range",data:=.fields #[.int lo t,.int hi u,.int 1 v] }
 |.frz o u=>h.get? a=some o/\bS H h a u
 |.tbl ps=>h.get? a=some { cls:=.none,data:=.fields ps }
 |.met f x=>h.get? a=some (PySem.W.methodObj (.ref f) (.ref x))
 |.ext φ=>φ h/\(∃o,h.get? a=some o)/\∀h1 h2:Heap,φ h1->(∀o,h1.get? a=some o->h2.get? a=some o)->φ h2
def HOk(H:Hp)(h:Heap):Prop:=∀a o,H a=some o->bS P w H h a o
end
variable{P:Program}{w:World}
theorem bS.lt{h:Heap}{o:HO}(x:bS P w H h a o):a<h.objs.size:=by
 cases o with
 |lst xs=>obtain⟨_,_,_,_,e⟩:=x;exact OS e
 |tup xs=>obtain⟨_,_,_,p⟩:=x;exact nO.lt p
 |dK kvs=>obtain⟨_,_,_,_,o,_,_,e,_⟩:=x;exact OS e
 |dT kvs=>obtain⟨_,_,_,_,o,_,_,e,_⟩:=x;exact OS e
 |set S n=>obtain⟨o,_,_,_,e,_⟩:=x;exact OS e
 |ins C dx fs=>obtain⟨_,_,_,e,_⟩:=x;exact OS e
 |own y=>obtain⟨_,e⟩:=x;exact OS e
 |xd fs=>obtain⟨_,⟨_,_,_,e,_⟩,_⟩:=x;exact OS e
 |rng lo hi=>obtain⟨_,_,_,e⟩:=x;exact OS e
 |frz ob u=>obtain⟨e,_⟩:=x;exact OS e
 |tbl ps=>exact OS (show h.get? a=some _ from x)
 |met f y=>exact OS (show h.get? a=some _ from x)
 |ext φ=>obtain⟨_,⟨_,e⟩,_⟩:=x;exact OS e
theorem Paired.mapP{α β:Type}{F G:α->β->Prop}:∀{l₁:List α}{l₂:List β},Paired F l₁ l₂->(∀a b,F a b->G a b)->Paired G l₁ l₂
 |_,_,.nil,_=>.nil
 |_,_,.cons r t,f=>.cons (f _ _ r) (Paired.mapP t f)
variable{H':Hp}{h':Heap}
theorem bS.stay{h:Heap}{o:HO}(x:bS P w H h a o)(k:∀b u,(b=a\/H b=some (.own a))->h.get? b=some u->h'.get? b=some u)(ho:∀b,H b=some (.own a)->H' b=some (.own a))(ht:∀b xs,H b=some (.tup xs)->H' b=some (.tup xs)):bS P w H' h' a o:=by
 induction o with
 |lst xs=>obtain⟨z,its,n,r,e⟩:=x;exact⟨z,its,n,r,k _ _ (.inl rfl) e⟩
 |tup xs=>obtain⟨z,its,r,ob,e,c⟩:=x;exact⟨z,its,r,ob,k _ _ (.inl rfl) e,c⟩
 |dK kvs=>obtain⟨z,y,vs,r,ob,es,ep,e,c⟩:=x;exact⟨z,y,vs,r,ob,es,ep,k _ _ (.inl rfl) e,c⟩
 |dT kvs=>
  obtain⟨z,y,xs,r,ob,es,ep,e,c⟩:=x;exact⟨z,y,xs,Paired.mapP r λp q z=>⟨z.1,ht _ _ z.2.1,z.2.2⟩,ob,es,ep,k _ _ (.inl rfl) e,c⟩
 |set S n=>obtain⟨ob,es,ep,t,e,c⟩:=x;exact⟨ob,es,ep,t,k _ _ (.inl rfl) e,c⟩
 |ins C dx fs=>
  obtain⟨d,z,ne,e,mA,⟨od,es,ep,e2,c⟩,r⟩:=x;exact⟨ho _ d,z,ne,k _ _ (.inl rfl) e,mA,⟨od,es,ep,k _ _ (.inr d) e2,c⟩,r⟩
 |own y=>obtain⟨ob,e⟩:=x;exact⟨ob,k _ _ (.inl rfl) e⟩
 |xd fs=>obtain⟨mA,⟨od,es,ep,e,c⟩,r⟩:=x;exact⟨mA,⟨od,es,ep,k _ _ (.inl rfl) e,c⟩,r⟩
 |rng lo hi=>obtain⟨t,u,v,e⟩:=x;exact⟨t,u,v,k _ _ (.inl rfl) e⟩
 |frz ob u ih=>obtain⟨e,q⟩:=x;exact⟨k _ _ (.inl rfl) e,ih q⟩
 |tbl ps=>
  have e:h.get? a=some { cls:=.none,data:=.fields ps }:=x
  show h'.get? a=some { cls:=.none,data:=.fields ps }
  exact k a _ (.inl rfl) e
 |met f y=>
  have e:h.get? a=some (PySem.W.methodObj (.ref f) (.ref y)):=x
  show h'.get? a=some (PySem.W.methodObj (.ref f) (.ref y))
  exact k a _ (.inl rfl) e
 |ext φ=>obtain⟨p,⟨o,e⟩,st⟩:=x;exact⟨st _ _ p λo q=>k _ _ (.inl rfl) q,⟨o,k _ _ (.inl rfl) e⟩,st⟩
theorem HOk.lt{h:Heap}{o:HO}(x:HOk P w H h)(e:H a=some o):a<h.objs.size:=(x a o e).lt
theorem HOk.fresh{h:Heap}(x:HOk P w H h)(e:h.objs.size<=a):H a=none:=by
 cases q:H a with
 |none=>rfl
 |some u=>exact absurd (Pd (x.lt q) e) (Qs _)
theorem HOk.kept{h:Heap}(x:HOk P w H h)(k:∀b u,h.get? b=some u->h'.get? b=some u):HOk P w H h':=λa o e=>
 (x a o e).stay (λb u _ q=>k b u q) (λ_ q=>q) λ_ _ q=>q
theorem HOk.laid{h:Heap}{o:HO}(x:HOk P w H h)(k:∀b u,h.get? b=some u->h'.get? b=some u)(hp:h.objs.size<=a)(new:bS P w (upd H a o) h' a o):HOk P w (upd H a o) h':=λb u e=>by
 have hn:=x.fresh hp
 by_cases hb:b=a
 ·subst hb;rw[bC]at e;cases e;exact new
 ·rw[aW hb]at e;exact(x b u e).stay (λc v _ q=>k c v q) (λc q=>by rw[aW (cJ q hn)];exact q) λc xs q=>by rw[aW (cJ q hn)];exact q
def Rd(H:Hp)(a:Addr)(u:HO):Prop:=H a=some u\/∃o,H a=some (.frz o u)
theorem Rd.ok{h:Heap}{u:HO}(r:Rd H a u)(x:HOk P w H h):bS P w H h a u:=by
 rcases r with r|⟨o,r⟩
 ·exact x a u r
 ·obtain⟨_,q⟩:=x a _ r;exact q
def Mut:Option HO->Prop
 |some (.lst _)=>True
 |some (.dK _)=>True
 |some (.dT _)=>True
 |some (.set _ _)=>True
 |some (.ins _ _ _)=>True
 |some (.ext _)=>True
 |_=>False
section
variable{h:Heap}{x e:Addr}{o':HO}
theorem HOk.write(ok:HOk P w H h)(mu:Mut (H x))(he:e=x\/H e=some (.own x))(k:∀b u,b≠e->h.get? b=some u->h'.get? b=some u)(j5:∃u,h'.get? e=some u)
  (new:bS P w (upd H x o') h' x o'):HOk P w (upd H x o') h':=λb u q=>by
 have kr:∀c y,H c=some (.own y)->c≠x:=λc y r z=>by subst z;rw[r]at mu;exact mu
 have pq:∀c xs,H c=some (.tup xs)->c≠x:=λc xs r z=>by subst z;rw[r]at mu;exact mu
 by_cases hb:b=x
 ·subst hb;rw[bC]at q;cases q;exact new
 ·rw[aW hb]at q
  by_cases hbe:b=e
  ·have q':H b=some (.own x):=by
    rcases he with z|z
    ·exact absurd (hbe.trans z) hb
    ·rw[hbe];exact z
   rw[q]at q';cases q';obtain⟨v,hv⟩:=j5;exact⟨v,by rw[hbe];exact hv⟩
  ·refine(ok b u q).stay (λc v hc r=>k c v ?_ r) (λc r=>by rw[aW (kr c b r)];exact r) λc xs r=>by rw[aW (pq c xs r)];exact r
   rcases hc with rfl|hc
   ·exact hbe
   ·rintro rfl;rcases he with z|z
    ·exact kr c b hc z
    ·rw[hc]at z;cases z;exact hb rfl
end
structure Un(fs ex:List Addr)(H H':Hp)(h h':Heap):Prop where
 keep:∀b o,h.get? b=some o->H b=none->b∉fs->b∉ex->h'.get? b=some o
 slot:∀b o,h.get? b=some o->H b=none->b∈fs->b∉ex->∃sl,h'.get? b=some { o with slots:=sl }
 free:∀b o,h.get? b=some o->H b=none->b∉ex->H' b=none
 there:∀b o,h.get? b=some o->b∉ex->∃o',h'.get? b=some o'
 tups:∀b xs,H b=some (.tup xs)->H' b=some (.tup xs)
 frzs:∀b o u,H b=some (.frz o u)->H' b=some (.frz o u)
 tbls:∀b ps,H b=some (.tbl ps)->∃more,H' b=some (.tbl (ps++more))
variable{H1:Hp}{ex:List Addr}{ob:Obj}
section
variable{fs wu ex':List Addr}{h h1 h2:Heap}{x e:Addr}{o:HO}
theorem Un.any(u:Un fs ex H H1 h h1){b:Addr}(q:h.get? b=some ob)(n:H b=none)(hx:b∉ex):∃sl,h1.get? b=some { ob with slots:=sl }:=by
 by_cases hb:b∈fs
 ·exact u.slot b ob q n hb hx
 ·exact⟨ob.slots,u.keep b ob q n hb hx⟩
theorem Un.kept(k:∀b u,h.get? b=some u->h'.get? b=some u):Un fs ex H H h h':=
 ⟨λb ob q _ _ _=>k b ob q,λb ob q _ _ _=>⟨ob.slots,k b ob q⟩,λ_ _ _ n _=>n,λb ob q _=>⟨ob,k b ob q⟩,λ_ _ q=>q,λ_ _ _ q=>q,λ_ ps q=>⟨#[],by rw[q];simp⟩⟩
theorem Un.refl:Un fs ex H H h h:=Un.kept λ_ _ q=>q
theorem Un.laid(k:∀b u,h.get? b=some u->h'.get? b=some u)(hp:h.objs.size<=a)(hn:H a=none):Un fs ex H (upd H a o) h h' where
 keep:=λb u q _ _ _=>k b u q
 slot:=λb u q _ _ _=>⟨u.slots,k b u q⟩
 free:=λb u q n _=>by rw[aW (OW (Pd (OS q) hp))];exact n
 there:=λb u q _=>⟨u,k b u q⟩
 tups:=λb xs q=>by rw[aW (cJ q hn)];exact q
 frzs:=λb u xs q=>by rw[aW (cJ q hn)];exact q
 tbls:=λb ps q=>⟨#[],by rw[aW (cJ q hn),q];simp⟩
theorem Un.write(mu:Mut (H x))(he:e=x\/H e=some (.own x))(k:∀b u,b≠e->h.get? b=some u->h'.get? b=some u)(j5:∃u,h'.get? e=some u):Un fs ex H (upd H x o) h h':=by
 have hx:∀b,H b=none->b≠x:=λb n z=>by subst z;rw[n]at mu;exact mu
 have hb:∀b,H b=none->b≠e:=λb n z=>by
  subst z;rcases he with r|r
  ·exact hx b n r
  ·rw[n]at r;cases r
 have hm:∀b u,H b=some u->¬ Mut (some u)->b≠x:=λb u q nm z=>by subst z;rw[q]at mu;exact nm mu
 refine⟨λb u q n _ _=>k b u (hb b n) q,λb u q n _ _=>⟨u.slots,k b u (hb b n) q⟩,λb u q n _=>by rw[aW (hx b n)];exact n,λb u q _=>?_,
  λb xs q=>by rw[aW (hm b _ q λz=>z)];exact q,λb u xs q=>by rw[aW (hm b _ q λz=>z)];exact q,λb ps q=>⟨#[],by rw[aW (hm b _ q λz=>z),q];simp⟩⟩
 by_cases hbe:b=e
 ·subst hbe;exact j5
 ·exact⟨u,k b u hbe q⟩
end
def trk(h:Heap)(H:Hp):List Addr:=(Pm h.objs.size).filter λa=>(H a).isSome
def xM(h:Heap)(H:Hp):Heap:=PySem.W.hideAll h (trk h H)
theorem DB(h:Heap)(H:Hp):(xM h H).objs.size=h.objs.size:=PySem.W.hideAll_size _ _
variable{o:Obj}
theorem EM{h:Heap}{b:Addr}(e:h.get? b=some o)(n:H b=none):(xM h H).get? b=some o:=
 PySem.W.hideAll_get _ e λhm=>by
  have q:(H b).isSome=true:=(List.mem_filter.mp hm).2;rw[n]at q;simp at q
theorem He{h:Heap}{b:Addr}(e:(xM h H).get? b=some o):h.get? b=some o/\H b=none:=by
 have e':h.get? b=some o:=PySem.W.of_hideAll (trk h H) e;refine⟨e',?_⟩;cases q:H b with
 |none=>rfl
 |some x=>
  have hm:b∈trk h H:=List.mem_filter.mpr ⟨QX.mpr (OS e'),by simp[q]⟩;have z:(xM h H).get? b=none:=PySem.W.hideAll_none (trk h H) hm;rw[z]at e;cases e
def Hf(g h:Heap)(L:Addr):List (Addr×Obj):=(Pm h.objs.size).filterMap λa=>if a=L\/(g.get? a).isSome=true then none else(h.get? a).map λo=>(a,o)
def rest(g h:Heap)(L d:Addr):List (Addr×Obj):=(Hf g h L).filter λp=>decide (p.1≠d)
structure Mod(K:z9)(mg:Str->Option Value)(base:Heap):Prop where
 kin:K.In base
 glob:base.Ns Pq mg
 blt:∃mb,base.Ns builtinsNs mb/\∀x:Str,x≠"__name__" -> mb x=Q7 x
 nolimit:base.NoLimit
structure Cx where
 prog:Program
 w:World
 K:z9
 mg:Str->Option Value
 base:Heap
 A:Around
 N:List Str
 s₀:Shared
 H₀:Hp
 env:Env
 outer:List Env
 stack:List Env
 ex:List Addr
 fn:Str->Bool
 calm:Bool
 pn:List (Addr×Obj)
 xe:Value->Shared->Prop
def frs(l:List Env):List Addr:=l.filterMap (·.frame)
abbrev Cx.fs(X:Cx):List Addr:=frs X.outer
def Vis(sc:Scope)(x:Str):Prop:=sc.names.lookup x=some .local\/sc.names.lookup x=some .cell\/sc.names.lookup x=some .free
def Loc(sc:Scope)(x:Str):Prop:=sc.names.lookup x=some .local\/sc.names.lookup x=some .cell
def Look(env:Env)(h:Heap)(m:Str->Option Value)(x:Str)(u:Value):Prop:=
 (env.kindOf x=some .local/\m x=some u)\/((env.kindOf x=some .cell\/env.kindOf x=some .free)/\∃c,env.cells.lookup x=some c/\h.IsCell c (some u))
structure Cx.Ok(X:Cx):Prop where
 mod:Mod X.K X.mg X.base
 kind:X.env.scope.kind=.function
 glob:X.env.globals=Pq
 blt:X.env.builtins=builtinsNs
 above:X.s₀.heap.objs.size<=X.env.locals
 inj:∀x y c,X.env.cells.lookup x=some c->X.env.cells.lookup y=some c->x=y
 has:∀x,(X.env.kindOf x=some .cell\/X.env.kindOf x=some .free)->∃c,X.env.cells.lookup x=some c
 cab:∀x c,X.fn x=true->X.env.cells.lookup x=some c->X.s₀.heap.objs.size<=c
 hd:X.calm=true->X.A.handled=none
 frames:X.A.frames=some X.stack
 stk:X.stack=X.outer\/(X.stack=X.env::X.outer/\X.env.frame=some X.env.locals)
 exf:∀b∈X.ex,b≠X.env.locals/\∀x c,X.env.cells.lookup x=some c->c≠b
 bs:∀b o,X.base.get? b=some o->X.s₀.heap.get? b=some o/\X.H₀ b=none
 bsz:X.base.objs.size<=X.s₀.heap.objs.size
 noex:∀b o,X.base.get? b=some o->b∉X.ex
 exfs:∀b∈X.ex,b∉X.fs
 funs:X.s₀.heap.FunFrames X.base X.outer
 frf:∀b∈X.fs,X.H₀ b=none
structure Inv(X:Cx)(pins:List (Addr×Obj))(σ:List (Option V))(H:Hp)(s:Shared):Prop where
 ok:X.Ok
 os:s.os=X.s₀.os
 bare:AllBare s.gens
 base:Un X.fs X.ex X.H₀ H X.s₀.heap s.heap
 loc:∃m,s.heap.Ns X.env.locals m/\∀(i:Nat)(x:Str)(v:V),X.N[i]?=some x->σ[i]?=some (some v)->Vis X.env.scope x->∃u,RelV v u/\Look X.env s.heap m x u
 cell:∀x c,X.env.cells.lookup x=some c->∃v,s.heap.IsCell c v
 free:H X.env.locals=none
 freeC:∀x c,X.env.cells.lookup x=some c->H c=none
 pin:∀p∈X.pn++pins,s.heap.get? p.1=some p.2/\H p.1=none/\p.1≠X.env.locals/\p.1∉X.fs/\∀v,p.2.data≠.cell v
 hok:HOk X.prog X.w H s.heap
 len:σ.length=X.N.length
variable{X:Cx}
theorem Cx.Ok.nofr(ok:X.Ok){b:Addr}(e:X.base.get? b=some o):b∉X.fs:=λhb=>by
 have:=(ok.funs.mem hb).1;rw[e]at this;cases this
variable{pins:List (Addr×Obj)}{s:Shared}{σ:List (Option V)}
theorem Inv.bs(I:Inv X pins σ H s):∀b o,X.base.get? b=some o->s.heap.get? b=some o/\H b=none:=λb o e=>
 ⟨I.base.keep b o (I.ok.bs b o e).1 (I.ok.bs b o e).2 (I.ok.nofr e) (I.ok.noex b o e),I.base.free b o (I.ok.bs b o e).1 (I.ok.bs b o e).2 (I.ok.noex b o e)⟩
theorem Inv.bk(I:Inv X pins σ H s):∀b o,X.base.get? b=some o->s.heap.get? b=some o:=λb o e=>(I.bs b o e).1
theorem Inv.mod(I:Inv X pins σ H s):Mod X.K X.mg X.base:=I.ok.mod
theorem Inv.kIn(I:Inv X pins σ H s):X.K.In s.heap:=I.ok.mod.kin.keeps I.bk
theorem Inv.lt(I:Inv X pins σ H s):X.env.locals<s.heap.objs.size:=let ⟨_,hn,_⟩:=I.loc;hn.lt
theorem Inv.sz(I:Inv X pins σ H s):X.s₀.heap.objs.size<=s.heap.objs.size:=PD I.ok.above (Sr I.lt)
theorem Inv.nofs(I:Inv X pins σ H s)(h:s.heap.objs.size<=a):a∉X.fs:=λhb=>by
 obtain⟨_,o,ho,_⟩:=I.ok.funs.mem hb;exact absurd (Pd (OS ho) (PD I.sz h)) (Qs _)
theorem Inv.cne(I:Inv X pins σ H s):∀x c,X.env.cells.lookup x=some c->c≠X.env.locals:=λx c e z=>by
 obtain⟨v,o,ho,hd⟩:=I.cell x c e;obtain⟨m,⟨o',es,ep,b7,j4,_⟩,_⟩:=I.loc;rw[z,b7]at ho;cases ho;rw[j4]at hd;cases hd
theorem Inv.funs(I:Inv X pins σ H s):s.heap.FunFrames X.base X.outer:=by
 have all:∀(l:List Env),(∀b∈frs l,b∈X.fs)->X.s₀.heap.FunFrames X.base l->s.heap.FunFrames X.base l:=by
  intro l
  induction l with
  |nil=>intro _ _;trivial
  |cons env r ih=>
   intro hs hl;obtain⟨hk,⟨L,o,hf,hn,ho,hd⟩,hr⟩:=hl;have hL:L∈X.fs:=hs L (by unfold frs;rw[Sm,hf];exact Pb);obtain⟨sl,e⟩:=I.base.slot L o ho (I.ok.frf L hL) hL λz=>I.ok.exfs L z hL;exact⟨hk,⟨L,_,hf,hn,e,hd⟩,ih (λb hb=>hs b (by unfold frs;rw[Sm,hf];exact OX _ hb)) hr⟩
 exact all X.outer (λ_ hb=>hb) I.ok.funs
theorem Inv.stack(I:Inv X pins σ H s):s.heap.FunFrames X.base X.stack:=by
 rcases I.ok.stk with e|⟨e,hf⟩
 ·rw[e];exact I.funs
 ·rw[e];obtain⟨m,hn,_⟩:=I.loc;refine .cons (by rw[I.ok.kind];decide) hf hn ?_ I.funs;exact Heap.get?_none_of_le (PD I.ok.bsz I.ok.above)
theorem Inv.stkSub(I:Inv X pins σ H s):∀b∈frs X.stack,b∈X.env.locals::X.fs:=λb hb=>by
 rcases I.ok.stk with e|⟨e,hf⟩
 ·rw[e]at hb;exact OX _ hb
 ·rw[e]at hb;unfold frs at hb;rw[Sm,hf]at hb;exact hb
theorem Inv.stkFree(I:Inv X pins σ H s):∀b∈frs X.stack,H b=none:=λb hb=>by
 rcases KP.mp (I.stkSub b hb) with e|hb
 ·rw[e];exact I.free
 ·obtain⟨_,o,ho,_⟩:=I.ok.funs.mem hb;exact I.base.free b o ho (I.ok.frf b hb) λz=>I.ok.exfs b z hb
variable{ch:List Addr}{d':Drawn}{g':Array GenState}{t':Nat}
theorem Inv.step(I:Inv X pins σ H s)(fh:∀b∈ch,(b∈X.ex\/X.s₀.heap.objs.size<=b)/\b≠X.env.locals/\(∀x c,X.env.cells.lookup x=some c->c≠b)/\∀p∈X.pn++pins,p.1≠b)(keep:∀b o,b≠X.env.locals->b∉X.fs->b∉ch->s.heap.get? b=some o->H b=none->h'.get? b=some o)(slot:∀b o,b≠X.env.locals->b∈X.fs->b∉ch->s.heap.get? b=some o->H b=none->∃sl,h'.get? b=some { o with slots:=sl })(free:∀b o,b∉ch->s.heap.get? b=some o->H b=none->H' b=none)(there:∀b o,b∉ch->s.heap.get? b=some o->∃o',h'.get? b=some o')(tups:∀b xs,H b=some (.tup xs)->H' b=some (.tup xs))(frzs:∀b o u,H b=some (.frz o u)->H' b=some (.frz o u))(tbls:∀b ps,H b=some (.tbl ps)->∃more,H' b=some (.tbl (ps++more)))(ns:∀m,s.heap.Ns X.env.locals m->h'.Ns X.env.locals m)(hok:HOk X.prog X.w H' h')(hg:AllBare g'):
  Inv X pins σ H' { s with heap:=h',gens:=g',drawn:=d',toks:=t' }:=by
 have wg:∀b o,X.s₀.heap.get? b=some o->b≠X.env.locals:=λb o e=>OW (Pd (OS e) I.ok.above);have ng:∀b o,X.s₀.heap.get? b=some o->b∉X.ex->b∉ch:=λb o e hx hb=>by
  rcases(fh b hb).1 with z|z
  ·exact hx z
  ·exact absurd (Pd (OS e) z) (Qs _)
 have cellK:∀x c,X.env.cells.lookup x=some c->∀v,s.heap.IsCell c v->h'.IsCell c v:=λx c e v ⟨o,ho,hd⟩=>by
  have l7:c∉ch:=λz=>(fh c z).2.2.1 x c e rfl
  by_cases hc:c∈X.fs
  ·obtain⟨sl,q⟩:=slot c o (I.cne x c e) hc l7 ho (I.freeC x c e);exact⟨_,q,hd⟩
  ·exact⟨o,keep c o (I.cne x c e) hc l7 ho (I.freeC x c e),hd⟩
 refine⟨I.ok,I.os,hg,⟨λb o e n hb hx=>?_,λb o e n hb hx=>?_,λb o e n hx=>?_,λb o e hx=>?_,λb xs e=>tups b xs (I.base.tups b xs e),λb o xs e=>frzs b o xs (I.base.frzs b o xs e),λb ps e=>?_⟩,?_,λx c e=>?_,?_,λx c e=>?_,λp hp=>?_,hok,I.len⟩
 ·exact keep b o (wg b o e) hb (ng b o e hx) (I.base.keep b o e n hb hx) (I.base.free b o e n hx)
 ·obtain⟨sl,e1⟩:=I.base.slot b o e n hb hx;obtain⟨xl,e2⟩:=slot b _ (wg b o e) hb (ng b o e hx) e1 (I.base.free b o e n hx);exact⟨xl,e2⟩
 ·obtain⟨o',e1⟩:=I.base.there b o e hx;exact free b o' (ng b o e hx) e1 (I.base.free b o e n hx)
 ·obtain⟨o',e1⟩:=I.base.there b o e hx;exact there b o' (ng b o e hx) e1
 ·obtain⟨m1,e1⟩:=I.base.tbls b ps e;obtain⟨m2,e2⟩:=tbls b _ e1;exact⟨m1++m2,by rw[e2,Array.append_assoc]⟩
 ·obtain⟨m,hn,hl⟩:=I.loc;refine⟨m,ns m hn,λi x v e1 e2 e3=>?_⟩;obtain⟨u,r,l⟩:=hl i x v e1 e2 e3;refine⟨u,r,?_⟩;rcases l with l|⟨k,c,e,z⟩
  ·exact .inl l
  ·exact .inr ⟨k,c,e,cellK x c e _ z⟩
 ·obtain⟨v,z⟩:=I.cell x c e;exact⟨v,cellK x c e v z⟩
 ·obtain⟨m,⟨o,_,_,ho,_⟩,_⟩:=I.loc;exact free _ o (λz=>(fh _ z).2.1 rfl) ho I.free
 ·obtain⟨v,o,ho,hd⟩:=I.cell x c e;exact free c o (λz=>(fh c z).2.2.1 x c e rfl) ho (I.freeC x c e)
 ·obtain⟨e,n,ne,nf,d⟩:=I.pin p hp;have l7:p.1∉ch:=λz=>(fh p.1 z).2.2.2 p hp rfl;exact⟨keep p.1 p.2 ne nf l7 e n,free p.1 p.2 l7 e n,ne,nf,d⟩
theorem Inv.un(I:Inv X pins σ H s)(u:Un X.fs [] H H' s.heap h')(hok:HOk X.prog X.w H' h'):Inv X pins σ H' { s with heap:=h',toks:=t' }:=by
 obtain⟨m,⟨o,es,ep,ho,r⟩,_⟩:=id I.loc;obtain⟨sl,hL⟩:=u.any ho I.free (by simp);exact I.step (g':=s.gens) (d':=s.drawn) (ch:=[]) (λ_ z=>nomatch z) (λb o _ hb _ e n=>u.keep b o e n hb (by simp)) (λb o _ hb _ e n=>u.slot b o e n hb (by simp)) (λb o _ e n=>u.free b o e n (by simp)) (λb o _ e=>u.there b o e (by simp)) u.tups u.frzs u.tbls (λm' hm=>by
  obtain⟨o',es',ie,b7,r'⟩:=hm;rw[ho]at b7;cases b7;exact⟨_,es',ie,hL,r'⟩) hok I.bare
theorem Inv.call(I:Inv X pins σ H s)(u:Un (frs X.stack) ch H H' s.heap h')(hok:HOk X.prog X.w H' h')(hg:AllBare g')(fh:∀b∈ch,(b∈X.ex\/X.s₀.heap.objs.size<=b)/\b≠X.env.locals/\(∀x c,X.env.cells.lookup x=some c->c≠b)/\∀p∈X.pn++pins,p.1≠b):
  Inv X pins σ H' { s with heap:=h',gens:=g',drawn:=d',toks:=t' }:=by
 obtain⟨m,⟨o,es,ep,ho,r⟩,_⟩:=id I.loc;obtain⟨sl,hL⟩:=u.any ho I.free λz=>(fh _ z).2.1 rfl;exact I.step (ch:=ch) fh (λb o hL hb hc e n=>u.keep b o e n (λz=>(KP.mp (I.stkSub b z)).elim hL hb) hc) (λb o _ _ hc e n=>u.any e n hc) (λb o hc e n=>u.free b o e n hc) (λb o hc e=>u.there b o e hc) u.tups u.frzs u.tbls (λm' hm=>by
  obtain⟨o',es',ie,b7,r'⟩:=hm;rw[ho]at b7;cases b7;exact⟨_,es',ie,hL,r'⟩) hok hg
variable{it:Addr}
theorem Inv.turned(I:Inv X pins σ H s)(k:∀b o,b≠it->s.heap.get? b=some o->h'.get? b=some o)(hn:H it=none)(hL:it≠X.env.locals)(h1:it∈X.ex\/X.s₀.heap.objs.size<=it)(h2:∀x c,X.env.cells.lookup x=some c->c≠it)(h3:∀p∈X.pn++pins,p.1≠it):Inv X pins σ H { s with heap:=h',toks:=t' }:=by
 have iw:∀b u,H b=some u->b≠it:=λb u e z=>by rw[z,hn]at e;cases e
 refine I.step (g':=s.gens) (d':=s.drawn) (ch:=[it]) (λb hb=>?_) (λb o _ _ hc e _=>k b o (λz=>hc (by simp[z])) e) (λb o _ _ hc e _=>⟨o.slots,k b o (λz=>hc (by simp[z])) e⟩) (λ_ _ _ _ n=>n)
  (λb o hc e=>⟨o,k b o (λz=>hc (by simp[z])) e⟩) (λ_ _ e=>e) (λ_ _ _ e=>e) (λb ps e=>⟨#[],by rw[e];simp⟩) (λm hm=>?_) (λb u e=>?_) I.bare
 ·have e:b=it:=by simpa using hb
  subst e;exact⟨h1,hL,h2,h3⟩
 ·obtain⟨o,es,ep,ho,r⟩:=hm;exact⟨o,es,ep,k _ o (Sn hL) ho,r⟩
 ·refine(I.hok b u e).stay (λc v hc q=>k c v ?_ q) (λ_ q=>q) λ_ _ q=>q;rcases hc with z|z
  ·rw[z];exact iw b u e
  ·exact iw c _ z
theorem Inv.tok(I:Inv X pins σ H s)(t:Nat):Inv X pins σ H { s with toks:=t }:=I.un (h':=s.heap) (t':=t) Un.refl I.hok
theorem Inv.kept(I:Inv X pins σ H s)(k:∀b u,s.heap.get? b=some u->h'.get? b=some u):Inv X pins σ H { s with heap:=h',toks:=t' }:=I.un (Un.kept k) (I.hok.kept k)
theorem Inv.laid{o:HO}(I:Inv X pins σ H s)(k:∀b u,s.heap.get? b=some u->h'.get? b=some u)(hp:s.heap.objs.size<=a)(new:bS X.prog X.w (upd H a o) h' a o):
  Inv X pins σ (upd H a o) { s with heap:=h',toks:=t' }:=I.un (Un.laid k hp (I.hok.fresh hp)) (I.hok.laid k hp new)
theorem Inv.write{x e:Addr}{o:HO}(I:Inv X pins σ H s)(mu:Mut (H x))(he:e=x\/H e=some (.own x))(k:∀b u,b≠e->s.heap.get? b=some u->h'.get? b=some u)(j5:∃u,h'.get? e=some u)(new:bS X.prog X.w (upd H x o) h' x o):Inv X pins σ (upd H x o) { s with heap:=h',toks:=t' }:=I.un (Un.write mu he k j5) (I.hok.write mu he k j5 new)
variable{cp:List (Addr×Obj)}
theorem Inv.pins_of(I:Inv X pins σ H s)(h:∀p∈cp,s.heap.get? p.1=some p.2/\H p.1=none/\p.1≠X.env.locals/\p.1∉X.fs/\∀v,p.2.data≠.cell v):Inv X cp σ H s:=
 ⟨I.ok,I.os,I.bare,I.base,I.loc,I.cell,I.free,I.freeC,λp hp=>(Pr.mp hp).elim (λz=>I.pin p (Rl _ z)) (h p),I.hok,I.len⟩
variable{N:List Str}{i j:Nat}{x:Str}
theorem A3(hN:N.Nodup)(a:N[i]?=some x)(b:N[j]?=some x):i=j:=by
 obtain⟨h1,e1⟩:=Io.mp a;obtain⟨h2,e2⟩:=Io.mp b;exact(List.getElem_inj hN).mp (e1.trans e2.symm)
variable{A:Around}{E:Value->Shared->Prop}{M:Model}
theorem vJ{v:V}{Q:Unit->Shared->Prop}(I:Inv X pins σ H s)(hN:X.N.Nodup)(hi:X.N[i]?=some x)(hx:Loc X.env.scope x)(r:RelV v u)(h:∀s',Inv X pins (σ.set i (some v)) H s'->(∃a,RK a s.heap s'.heap/\(a=X.env.locals\/X.env.cells.lookup x=some a))->Q () s')(hf:X.fn x=true\/X.env.scope.names.lookup x=some .local:=by first|exact .inl rfl|exact .inr rfl|assumption):wpAny M A (storeName X.env x u) Q E s:=by
 obtain⟨m,hn,hl⟩:=id I.loc;have p9:(X.env.scope.kind == .class || (X.env.scope.kind == .module&&X.env.locals != X.env.globals))=false:=by rw[I.ok.kind];rfl
 have u0:i<σ.length:=by rw[I.len];exact(Io.mp hi).1
 have cne:=I.cne;have tracked:∀{a:Addr}{h':Heap},(∃o,s.heap.get? a=some o/\H a=none)->RK a s.heap h'->HOk X.prog X.w H h':=λ{a h'} ha hs b ob e=>by
  obtain⟨_,_,ik⟩:=ha;refine(I.hok b ob e).stay (λc w' hc q=>(hs.2 c ?_).trans q) (λ_ q=>q) λ_ _ q=>q;rintro rfl;rcases hc with rfl|hc
  ·rw[ik]at e;cases e
  ·rw[ik]at hc;cases hc
 rcases hx with hk|hk
 ·refine wpAny_storeName_local hk hn (λh' nu hs=>?_) p9;obtain⟨oL,_,_,j8,_⟩:=id hn;refine h _ ⟨I.ok,I.os,I.bare,⟨λb o e n hb hx=>?_,λb o e n hb hx=>?_,I.base.free,λb o e hx=>?_,I.base.tups,I.base.frzs,I.base.tbls⟩,⟨_,nu,λj y v' e1 e2 e3=>?_⟩,λy c e=>?_,I.free,I.freeC,λp hp=>?_,tracked ⟨oL,j8,I.free⟩ hs,by simpa using I.len⟩ ⟨_,hs,.inl rfl⟩
  ·exact(hs.2 b (OW (Pd (OS e) I.ok.above))).trans (I.base.keep b o e n hb hx)
  ·obtain⟨sl,e1⟩:=I.base.slot b o e n hb hx;exact⟨sl,(hs.2 b (OW (Pd (OS e) I.ok.above))).trans e1⟩
  ·obtain⟨o',e1⟩:=I.base.there b o e hx;exact⟨o',(hs.2 b (OW (Pd (OS e) I.ok.above))).trans e1⟩
  ·by_cases hj:j=i
   ·subst hj;rw[hi]at e1;cases e1;rw[QG u0]at e2;cases e2
    exact⟨u,r,.inl ⟨hk,by simp⟩⟩
   ·rw[QD (Sn hj)]at e2;obtain⟨u',r',q⟩:=hl j y v' e1 e2 e3;refine⟨u',r',?_⟩;rcases q with⟨k,e⟩|⟨k,c,e,z⟩
    ·refine .inl ⟨k,?_⟩;have:y≠x:=λe=>hj (A3 hN e1 (e▸hi));simp[this,e]
    ·exact .inr ⟨k,c,e,z.sameBut hs (cne y c e)⟩
  ·obtain⟨w',z⟩:=I.cell y c e;exact⟨w',z.sameBut hs (cne y c e)⟩
  ·obtain⟨e,n,ne,nf,d⟩:=I.pin p hp;exact⟨(hs.2 p.1 ne).trans e,n,ne,nf,d⟩
 ·have uf:X.fn x=true:=by
   rcases hf with z|z
   ·exact z
   ·rw[z]at hk;cases hk
  obtain⟨c,hc⟩:=I.ok.has x (.inl hk);obtain⟨w',z⟩:=I.cell x c hc;refine wpAny_storeName_cell I.ok.kind hk hc z (λh' mm hs=>?_);obtain⟨oc,u3,rg⟩:=id z;refine h { s with heap:=h' } ⟨I.ok,I.os,I.bare,⟨λb o e n hb hx=>?_,λb o e n hb hx=>?_,I.base.free,λb o e hx=>?_,I.base.tups,I.base.frzs,I.base.tbls⟩,⟨m,hn.sameBut hs (Sn (cne x c hc)),λj y v' e1 e2 e3=>?_⟩,λy c' e=>?_,I.free,I.freeC,λp hp=>?_,tracked ⟨oc,u3,I.freeC x c hc⟩ hs,by simpa using I.len⟩ ⟨c,hs,.inr hc⟩
  ·exact(hs.2 b (OW (Pd (OS e) (I.ok.cab x c uf hc)))).trans (I.base.keep b o e n hb hx)
  ·obtain⟨sl,e1⟩:=I.base.slot b o e n hb hx;exact⟨sl,(hs.2 b (OW (Pd (OS e) (I.ok.cab x c uf hc)))).trans e1⟩
  ·obtain⟨o',e1⟩:=I.base.there b o e hx;exact⟨o',(hs.2 b (OW (Pd (OS e) (I.ok.cab x c uf hc)))).trans e1⟩
  ·by_cases hj:j=i
   ·subst hj;rw[hi]at e1;cases e1;rw[QG u0]at e2;cases e2
    exact⟨u,r,.inr ⟨.inl hk,c,hc,mm⟩⟩
   ·rw[QD (Sn hj)]at e2;obtain⟨u',r',q⟩:=hl j y v' e1 e2 e3;refine⟨u',r',?_⟩;rcases q with q|⟨k,c',e,z'⟩
    ·exact .inl q
    ·refine .inr ⟨k,c',e,z'.sameBut hs ?_⟩;rintro rfl;exact hj (A3 hN e1 (I.ok.inj _ _ _ e hc▸hi))
  ·by_cases hcc:c'=c
   ·subst hcc;exact⟨_,mm⟩
   ·obtain⟨w2,z2⟩:=I.cell y c' e;exact⟨w2,z2.sameBut hs hcc⟩
  ·obtain⟨e,n,ne,nf,d⟩:=I.pin p hp;refine⟨(hs.2 p.1 ?_).trans e,n,ne,nf,d⟩;intro q;rw[q,u3]at e;have q':oc=p.2:=Pv e;exact d w' (by rw[<-q'];exact rg)
theorem kA{v:V}{Q:Unit->Shared->Prop}(I:Inv X pins σ H s)(hN:X.N.Nodup)(hi:X.N[i]?=some x)(hx:Loc X.env.scope x)(r:RelV v u)(h:∀s',Inv X pins (σ.set i (some v)) H s'->Q () s')(hf:X.fn x=true\/X.env.scope.names.lookup x=some .local:=by first|exact .inl rfl|exact .inr rfl|assumption):wpAny M A (storeName X.env x u) Q E s:=
 vJ I hN hi hx r (λs' I' _=>h s' I') hf
variable{s':Shared}
theorem Inv.call'(I:Inv X pins σ H s)(ho:s'.os=s.os)(u:Un (frs X.stack) ch H H' s.heap s'.heap)(hok:HOk X.prog X.w H' s'.heap)(hg:AllBare s'.gens)(fh:∀b∈ch,(b∈X.ex\/X.s₀.heap.objs.size<=b)/\b≠X.env.locals/\(∀x c,X.env.cells.lookup x=some c->c≠b)/\∀p∈X.pn++pins,p.1≠b):Inv X pins σ H' s':=by
 obtain⟨h',g',d',t',o'⟩:=s';have e:o'=s.os:=ho;subst e;exact I.call (g':=g') (t':=t') (d':=d') u hok hg fh
abbrev XK:=Value->Option Addr->Hp->Prop
abbrev St:=List (Option V)
abbrev VK:=V->Hp->Prop
abbrev TE:=St->Hp->VK->Prop
abbrev TT:=St->Hp->(Bool->Hp->Prop)->Prop
abbrev TA:=St->Hp->(List V->Hp->Prop)->Prop
structure Ends where
 nx:St->Hp->Prop
 rt:VK
 bk:St->Hp->Prop:=λ_ _=>False
 ct:St->Hp->Prop:=λ_ _=>False
abbrev TS:=Ends->St->Hp->Prop
def EP(X:Cx)(pins:List (Addr×Obj))(σ:St)(Q:VK)(u:Value)(s':Shared):Prop:=∃v H',Inv X pins σ H' s'/\RelV v u/\Q v H'
def TP(X:Cx)(pins:List (Addr×Obj))(σ:St)(Q:Bool->Hp->Prop)(b:Bool)(s':Shared):Prop:=∃H',Inv X pins σ H' s'/\Q b H'
def AP(X:Cx)(pins:List (Addr×Obj))(σ:St)(Q:List V->Hp->Prop)(us:List Value)(s':Shared):Prop:=∃vs H',Inv X pins σ H' s'/\aI vs us/\Q vs H'
def SP(X:Cx)(pins:List (Addr×Obj))(D:Ends)(f:Flow)(s':Shared):Prop:=
 match f with
 |.next=>∃σ' H',Inv X pins σ' H' s'/\D.nx σ' H'
 |.brk=>∃σ' H',Inv X pins σ' H' s'/\D.bk σ' H'
 |.cont=>∃σ' H',Inv X pins σ' H' s'/\D.ct σ' H'
 |.ret u=>∃v σ' H',Inv X pins σ' H' s'/\RelV v u/\D.rt v H'
def PE(X:Cx)(e:Expr)(t:TE):Prop:=
 ∀(pins:List (Addr×Obj))(s:Shared)(σ:St)(H:Hp)(Q:VK),Inv X pins σ H s->t σ H Q->wpAny (model X.prog X.w) X.A (eval e X.env) (EP X pins σ Q) X.xe s
def PT(X:Cx)(e:Expr)(t:TT):Prop:=
 ∀(pins:List (Addr×Obj))(s:Shared)(σ:St)(H:Hp)(Q:Bool->Hp->Prop),Inv X pins σ H s->t σ H Q->wpAny (model X.prog X.w) X.A (isTrue e X.env (eval e X.env)) (TP X pins σ Q) X.xe s
def PW(X:Cx)(e:Expr)(t:TT):Prop:=
 ∀(whole:Sem Value)(pins:List (Addr×Obj))(s:Shared)(σ:St)(H:Hp)(Q:Bool->Hp->Prop),Inv X pins σ H s->t σ H Q->wpAny (model X.prog X.w) X.A (isTrue e X.env whole) (TP X pins σ Q) X.xe s
variable{e:Expr}
theorem PW.pt{t:TT}(h:PW X e t):PT X e t:=h _
def PA(X:Cx)(es:List Expr)(t:TA):Prop:=
 ∀(pos:Pos)(pins:List (Addr×Obj))(s:Shared)(σ:St)(H:Hp)(Q:List V->Hp->Prop),Inv X pins σ H s->t σ H Q->wpAny (model X.prog X.w) X.A (spliced (backTo pos (Pe es X.env))) (AP X pins σ Q) X.xe s
def PS(X:Cx)(st:Stmt)(t:TS):Prop:=
 ∀(pins:List (Addr×Obj))(s:Shared)(σ:St)(H:Hp)(D:Ends),Inv X pins σ H s->t D σ H->wpAny (model X.prog X.w) X.A (exec st X.env) (SP X pins D) X.xe s
def PSs(X:Cx)(st:List Stmt)(t:TS):Prop:=
 ∀(pins:List (Addr×Obj))(s:Shared)(σ:St)(H:Hp)(D:Ends),Inv X pins σ H s->t D σ H->wpAny (model X.prog X.w) X.A (execs st X.env) (SP X pins D) X.xe s
theorem thn{α:Type}{t:Sem α}{Q Q':α->Shared->Prop}(h:wpAny M A t Q E s)(hQ:∀a s,Q a s->Q' a s):wpAny M A t Q' E s:=Qj h hQ λ_ _ x=>x
def Lz(i:Nat):TE:=λσ H Q=>∃v,σ[i]?=some (some v)/\Q v H
def tC(v:V):TE:=λ_ H Q=>Q v H
variable{pos:Pos}
theorem EN(hN:X.N[i]?=some x)(hv:Vis X.env.scope x)(hd:(x == ("__debug__" : Str))=false:=by decide)(cj:(x == ("__classdict__" : Str))=false:=by decide):PE X (.Name x pos) (Lz i):=by
 intro pins s σ H Q I h;obtain⟨v,e,h⟩:=h;obtain⟨m,hn,hl⟩:=I.loc;obtain⟨u,r,l⟩:=hl i x v hN e hv;have fin:EP X pins σ Q u s:=⟨v,H,I,r,h⟩;rcases l with⟨hk,hm⟩|⟨hk,c,hc,bo⟩
 ·exact wpAny_Name (wpAny_loadName_local I.ok.kind hk hn hm fin) hd
 ·rcases hk with hk|hk
  ·exact wpAny_Name (wpAny_loadName_cell I.ok.kind hk hc bo fin) hd
  ·exact wpAny_Name (wpAny_loadName_free I.ok.kind hk hc bo fin cj) hd
theorem Jv{i j pos}:PE X (.Constant (.int i) j pos) (tC (.int i)):=λ_ _ _ H _ I h=>wpAny_Constant_int ⟨.int i,H,I.tok _,⟨_,rfl⟩,h⟩
variable{b:Expr}
theorem LA{b j pos}:PE X (.Constant (.bool b) j pos) (tC (.bl b)):=λ_ _ _ H _ I h=>Constant_bool ⟨.bl b,H,I,rfl,h⟩
theorem Jw{j pos}:PE X (.Constant .none j pos) (tC .non):=λ_ _ _ H _ I h=>Constant_none ⟨.non,H,I,rfl,h⟩
theorem Jx{x j pos}:PE X (.Constant (.str x) j pos) (tC (.str x)):=λ_ _ _ H _ I h=>RG ⟨.str x,H,I.tok _,⟨_,rfl⟩,h⟩
def Gl(X:Cx)(x:Str):Prop:=X.env.kindOf x=some .globalImplicit
variable{Q:Value->Shared->Prop}
theorem CA{σ:St}(I:Inv X pins σ H s)(hg:Gl X x)(hm:X.mg x=some u)(h:Q u s)(hd:(x == ("__debug__" : Str))=false:=by decide):wpAny (model X.prog X.w) X.A (eval (.Name x pos) X.env) Q E s:=
 Calls.Name_function_global I.ok.kind hg (Calls.loadGlobal_global (by rw[I.ok.glob];exact I.mod.glob.keeps I.bk) hm h) hd
theorem rV{σ:St}(I:Inv X pins σ H s)(hg:Gl X x)(hm:X.mg x=none)(hv:Q7 x=some u)(h:Q u s)(hn:x≠"__name__" := by decide)(hd:(x == ("__debug__" : Str))=false:=by decide):wpAny (model X.prog X.w) X.A (eval (.Name x pos) X.env) Q E s:=by
 obtain⟨mb,h1,h2⟩:=I.mod.blt;exact Calls.Name_function_global I.ok.kind hg (Calls.loadGlobal_builtin (by rw[I.ok.glob];exact I.mod.glob.keeps I.bk) hm (by rw[I.ok.blt];exact h1.keeps I.bk) ((h2 x hn).trans hv) h) hd
theorem nP{v:V}(hg:Gl X x)(hm:X.mg x=some u)(r:RelV v u)(hd:(x == ("__debug__" : Str))=false:=by decide):PE X (.Name x pos) (tC v):=
 λ_ _ _ H _ I h=>CA I hg hm ⟨v,H,I,r,h⟩ hd
theorem Hg{v:V}(hg:Gl X x)(hm:X.mg x=none)(hv:Q7 x=some u)(r:RelV v u)(hn:x≠"__name__" := by decide)(hd:(x == ("__debug__" : Str))=false:=by decide):PE X (.Name x pos) (tC v):=
 λ_ _ _ H _ I h=>rV I hg hm hv ⟨v,H,I,r,h⟩ hn hd
def NI(t u:TT):TT:=λσ H Q=>t σ H λc H1=>if c=true then u σ H1 Q else Q false H1
def tOr(t u:TT):TT:=λσ H Q=>t σ H λc H1=>if c=true then Q true H1 else u σ H1 Q
def NJ(t:TT):TT:=λσ H Q=>t σ H λc H1=>Q (!c) H1
variable{tA:TT}
theorem Hh{a:Expr}(ha:PT X a tA):PW X (.BoolOp .And [a] pos) tA:=by
 intro wh pins s σ H Q I h;refine isTrue_and (thn (ha pins s σ H Q I h) λc s1 e=>?_);cases c with
 |true=>exact isTrue_and_nil e
 |false=>exact e
theorem Jy{a:Expr}(ha:PT X a tA):PW X (.BoolOp .Or [a] pos) tA:=by
 intro wh pins s σ H Q I h;refine isTrue_or (thn (ha pins s σ H Q I h) λc s1 e=>?_);cases c with
 |false=>exact isTrue_or_nil e
 |true=>exact e
variable{nj:TT}
theorem Jz{a:Expr}{rest:List Expr}(ha:PT X a tA)(hb:PW X (.BoolOp .And (b::rest) pos) nj):PW X (.BoolOp .And (a::b::rest) pos) (NI tA nj):=by
 intro wh pins s σ H Q I h;refine isTrue_and (thn (ha pins s σ H _ I h) λc s1 ⟨H1,I1,q1⟩=>?_);cases c with
 |true=>exact hb wh pins s1 σ H1 Q I1 q1
 |false=>exact⟨H1,I1,q1⟩
theorem LB{a:Expr}{rest:List Expr}(ha:PT X a tA)(hb:PW X (.BoolOp .Or (b::rest) pos) nj):PW X (.BoolOp .Or (a::b::rest) pos) (tOr tA nj):=by
 intro wh pins s σ H Q I h;refine isTrue_or (thn (ha pins s σ H _ I h) λc s1 ⟨H1,I1,q1⟩=>?_);cases c with
 |true=>exact⟨H1,I1,q1⟩
 |false=>exact hb wh pins s1 σ H1 Q I1 q1
theorem JA{a:Expr}(ha:PT X a tA):PT X (.UnaryOp .Not a pos) (NJ tA):=by
 intro pins s σ H Q I h;exact isTrue_not (ha pins s σ H (λc H1=>Q (!c) H1) I h)
def tIf(t:TT)(ta tb:TE):TE:=λσ H Q=>t σ H λc H1=>if c=true then ta σ H1 Q else tb σ H1 Q
variable{ta tb:TE}
theorem EO{a:Expr}{c:Expr}(hc:PT X c tA)(ha:PE X a ta)(hb:PE X b tb):PE X (.IfExp c a b pos) (tIf tA ta tb):=by
 intro pins s σ H Q I h;refine wpAny_IfExp (thn (hc pins s σ H _ I h) λd s1 ⟨H1,I1,q1⟩=>?_);cases d with
 |true=>exact ha pins s1 σ H1 Q I1 q1
 |false=>exact hb pins s1 σ H1 Q I1 q1
def SqL(K:z9)(H:Hp)(a:Addr)(xs:List V):Prop:=
 Rd H a (.lst xs)\/
  ∃(o:Obj)(its:Array Value)(n:Nat),K.lookup a=some o/\o.cls=.type "list" /\ o.dict=none/\o.data=.seq its n/\its.size<=OR/\aI xs its.toList
def SqT(K:z9)(H:Hp)(a:Addr)(xs:List V):Prop:=
 Rd H a (.tup xs)\/
  ∃(o:Obj)(its:Array Value)(n:Nat),K.lookup a=some o/\o.cls=.type "tuple" /\ o.data=.seq its n/\its.size<=OR/\aI xs its.toList/\o.dict=none
def NK:Value->Option V
 |.none=>some .non
 |.bool b=>some (.bl b)
 |.int i _=>some (.int i)
 |.str x _=>some (.str x)
 |.bytes b _=>some (.byt b)
 |.float b _=>some (.flt b)
 |.ref a=>some (.ref a)
 |.type n=>some (.ty n)
 |_=>none
theorem RelV.abs{x:V}(r:RelV x u):NK u=some x:=by
 cases x with
 |non=>cases r;rfl
 |bl _=>cases r;rfl
 |int _=>obtain⟨t,rfl⟩:=r;rfl
 |str _=>obtain⟨t,rfl⟩:=r;rfl
 |byt _=>obtain⟨t,rfl⟩:=r;rfl
 |flt _=>obtain⟨t,rfl⟩:=r;rfl
 |ref _=>cases r;rfl
 |ty _=>cases r;rfl
variable{y:V}
theorem RelV.inj{x:V}(r:RelV x u)(q:RelV y u):x=y:=Pv (r.abs.symm.trans q.abs)
theorem aI.inj:∀{xs ys:List V}{us:List Value},aI xs us->aI ys us->xs=ys
 |_,_,_,.nil,.nil=>rfl
 |_,_,_,.cons r t,.cons r' t'=>by rw[r.inj r',aI.inj t t']
variable{K:z9}
section
variable{σ:St}{xs ys:List V}
theorem SqL.of(h:H a=some (.lst xs)):SqL K H a xs:=.inl (.inl h)
theorem SqT.of(h:H a=some (.tup xs)):SqT K H a xs:=.inl (.inl h)
theorem Inv.list(I:Inv X pins σ H s)(h:SqL X.K H a xs):∃its:List Value,aI xs its/\PlainL s.heap a its.toArray/\xs.length<=OR:=by
 rcases h with h|⟨o,its,n,hk,hc,hd,hs,hz,r⟩
 ·obtain⟨z,its,n,r,e⟩:=h.ok I.hok;exact⟨its,r,⟨_,n,e,rfl,rfl,rfl⟩,z⟩
 ·refine⟨its.toList,r,⟨o,n,I.kIn a o hk,hc,hd,by simpa using hs⟩,?_⟩
  have e:=r.length;simp only[Array.length_toList]at e;omega
theorem Inv.tuple(I:Inv X pins σ H s)(h:SqT X.K H a xs):∃its:List Value,aI xs its/\IsTup s.heap a its.toArray/\xs.length<=OR:=by
 rcases h with h|⟨o,its,n,hk,hc,hs,hz,r,_⟩
 ·obtain⟨z,its,r,p⟩:=h.ok I.hok;exact⟨its,r,p.is,z⟩
 ·refine⟨its.toList,r,⟨o,I.kIn a o hk,hc,n,by simpa using hs⟩,?_⟩
  have e:=r.length;simp only[Array.length_toList]at e;omega
theorem Inv.list_inj(I:Inv X pins σ H s)(h:SqL X.K H a xs)(h':SqL X.K H a ys):xs=ys:=by
 obtain⟨its,r,⟨o,n,e,_,_,d⟩,_⟩:=I.list h;obtain⟨its',r',⟨o',n',e',_,_,d'⟩,_⟩:=I.list h';rw[e]at e';cases e';rw[d]at d';injection d' with d1 _;have:its=its':=by simpa using congrArg Array.toList d1
 subst this;exact r.inj r'
theorem Inv.tuple_inj(I:Inv X pins σ H s)(h:SqT X.K H a xs)(h':SqT X.K H a ys):xs=ys:=by
 obtain⟨its,r,⟨o,e,_,n,d⟩,_⟩:=I.tuple h;obtain⟨its',r',⟨o',e',_,n',d'⟩,_⟩:=I.tuple h';rw[e]at e';cases e';rw[d]at d';injection d' with d1 _;have:its=its':=by simpa using congrArg Array.toList d1
 subst this;exact r.inj r'
end
abbrev Cx.wish(X:Cx)(E:Value->Shared->Prop):Cx:={ X with xe:=E }
abbrev Cx.nox(X:Cx):Cx:=X.wish λ_ _=>False
theorem Cx.Ok.wish(ok:X.Ok)(E:Value->Shared->Prop):(X.wish E).Ok:=
 ⟨ok.mod,ok.kind,ok.glob,ok.blt,ok.above,ok.inj,ok.has,ok.cab,ok.hd,ok.frames,ok.stk,ok.exf,ok.bs,ok.bsz,ok.noex,ok.exfs,ok.funs,ok.frf⟩
theorem Cx.Ok.unwish(ok:(X.wish E).Ok):X.Ok:=
 ⟨ok.mod,ok.kind,ok.glob,ok.blt,ok.above,ok.inj,ok.has,ok.cab,ok.hd,ok.frames,ok.stk,ok.exf,ok.bs,ok.bsz,ok.noex,ok.exfs,ok.funs,ok.frf⟩
section
variable{σ:St}
theorem Inv.wish(I:Inv X pins σ H s)(E:Value->Shared->Prop):Inv (X.wish E) pins σ H s:=⟨I.ok.wish E,I.os,I.bare,I.base,I.loc,I.cell,I.free,I.freeC,I.pin,I.hok,I.len⟩
theorem Inv.unwish(I:Inv (X.wish E) pins σ H s):Inv X pins σ H s:=⟨I.ok.unwish,I.os,I.bare,I.base,I.loc,I.cell,I.free,I.freeC,I.pin,I.hok,I.len⟩
theorem SP.unwish{D:Ends}{f:Flow}(h:SP (X.wish E) pins D f s'):SP X pins D f s':=by
 cases f with
 |next=>obtain⟨σ',H',I,q⟩:=h;exact⟨σ',H',I.unwish,q⟩
 |brk=>obtain⟨σ',H',I,q⟩:=h;exact⟨σ',H',I.unwish,q⟩
 |cont=>obtain⟨σ',H',I,q⟩:=h;exact⟨σ',H',I.unwish,q⟩
 |ret u=>obtain⟨v,σ',H',I,r,q⟩:=h;exact⟨v,σ',H',I.unwish,r,q⟩
theorem PSs.nox{st:List Stmt}{t:TS}(h:PSs X.nox st t):PSs X st t:=λpins s σ H D I hw=>
 Qj (h pins s σ H D (I.wish _) hw) (λ_ _ q=>q.unwish) λ_ _ z=>R3 z
end
variable{st:Stmt}{te:TE}
section
variable{rest:List Stmt}{t u:TS}
def LC:TS:=λD σ H=>D.nx σ H
def NL(t u:TS):TS:=λD σ H=>t { D with nx:=u D } σ H
theorem Hi:PSs X [] LC:=λ_ _ σ H _ I h=>wpAny_execs_nil ⟨σ,H,I,h⟩
theorem ER(h1:PS X st t)(h2:PSs X rest u):PSs X (st::rest) (NL t u):=by
 intro pins s σ H D I h;refine wpAny_execs_cons (thn (h1 pins s σ H { D with nx:=u D } I h) λf s1 q=>?_);cases f with
 |next=>
  obtain⟨σ',H',I',q⟩:=q;exact h2 pins s1 σ' H' D I' q
 |ret v=>exact q
 |brk=>exact q
 |cont=>exact q
theorem Hj(h1:PS X st t):PSs X [st] t:=by
 intro pins s σ H D I h;refine wpAny_execs_cons (thn (h1 pins s σ H D I h) λf s1 q=>?_);cases f with
 |next=>exact wpAny_execs_nil q
 |ret v=>exact q
 |brk=>exact q
 |cont=>exact q
theorem Inv.quiet{σ:St}(I:Inv X pins σ H s):interactive X.env=false:=by simp[interactive,I.ok.kind]
def LD(te:TE):TS:=λD σ H=>te σ H λ_ H1=>D.nx σ H1
theorem Hk(he:PE X e te)(hs:swapsWith e none pos.line X.env=pure false:=by rfl):PS X (.Expr e pos) (LD te):=by
 intro pins s σ H D I h;exact wpAny_Expr_any (thn (he pins s σ H _ I h) λv s1 ⟨x,H1,I1,r1,q1⟩=>⟨σ,H1,I1,q1⟩) I.quiet hs
def NM(te:TE):TS:=λD σ H=>te σ H D.rt
theorem JB(he:PE X e te):PS X (.Return (some e) pos) (NM te):=by
 intro pins s σ H D I h;exact wpAny_Return_some (thn (he pins s σ H _ I h) λv s1 ⟨x,H1,I1,r1,q1⟩=>⟨x,σ,H1,I1,r1,q1⟩)
def NN(c:TT)(t u:TS):TS:=λD σ H=>c σ H λb H1=>if b=true then t D σ H1 else u D σ H1
theorem LF{c:Expr}{a b:List Stmt}{tc:TT}(hc:PT X c tc)(ha:PSs X a t)(hb:PSs X b u):PS X (.If c a b pos) (NN tc t u):=by
 intro pins s σ H D I h;refine wpAny_If (thn (hc pins s σ H _ I h) λd s1 ⟨H1,I1,q1⟩=>?_);cases d with
 |true=>exact ha pins s1 σ H1 D I1 q1
 |false=>exact hb pins s1 σ H1 D I1 q1
end
abbrev TG:=V->St->Hp->(St->Hp->Prop)->Prop
abbrev TGs:=List V->St->Hp->(St->Hp->Prop)->Prop
def PG(X:Cx)(target:Expr)(t:TG):Prop:=
 ∀(pins:List (Addr×Obj))(s:Shared)(σ:St)(H:Hp)(v:V)(u:Value)(Q:St->Hp->Prop),Inv X pins σ H s->RelV v u->t v σ H Q->
  wpAny (model X.prog X.w) X.A (assign target X.env u) (λ_ s'=>∃σ' H',Inv X pins σ' H' s'/\Q σ' H') X.xe s
def PGs(X:Cx)(ts:List Expr)(t:TGs):Prop:=
 ∀(pins:List (Addr×Obj))(s:Shared)(σ:St)(H:Hp)(vs:List V)(us:List Value)(Q:St->Hp->Prop),Inv X pins σ H s->aI vs us->t vs σ H Q->
  wpAny (model X.prog X.w) X.A (assignInOrder ((Q6 ts X.env).map (·.2)) us) (λ_ s'=>∃σ' H',Inv X pins σ' H' s'/\Q σ' H') X.xe s
abbrev NO:=V->V->V->Hp->(Hp->Prop)->Prop
def NP(X:Cx)(t:NO):Prop:=
 ∀(pins:List (Addr×Obj))(s:Shared)(σ:St)(H:Hp)(o i v:V)(ov iv u:Value)(Q:Hp->Prop),Inv X pins σ H s->RelV o ov->RelV i iv->RelV v u->t o i v H Q->
  wpAny (model X.prog X.w) X.A (setItem ov iv u) (λ_ s'=>∃H',Inv X pins σ H' s'/\Q H') X.xe s
def ES(i:Nat):TG:=λv σ H Q=>Q (σ.set i (some v)) H
theorem Hl(hN:X.N.Nodup)(hi:X.N[i]?=some x)(hx:Loc X.env.scope x)(hf:X.fn x=true\/X.env.scope.names.lookup x=some .local:=by first|exact .inl rfl|exact .inr rfl|assumption):PG X (.Name x pos) (ES i):=by
 intro pins s σ H v u Q I r h;exact wpAny_assign_Name (kA I hN hi hx r (λs' I'=>⟨_,H,I',h⟩) hf)
def NQ:TGs:=λvs σ H Q=>vs=[]/\Q σ H
def LG(t:TG)(u:TGs):TGs:=λvs σ H Q=>∃v r,vs=v::r/\t v σ H λσ' H'=>u r σ' H' Q
theorem Hm:PGs X [] NQ:=by
 intro pins s σ H vs us Q I r h;obtain⟨e,h⟩:=h;subst e;cases r
 exact assignInOrder_nil ⟨σ,H,I,h⟩
variable{es:List Expr}
theorem ET{t:TG}{u:TGs}(h1:PG X e t)(h2:PGs X es u)(hs:(Q6 (e::es) X.env).map (·.2)=assign e X.env::(Q6 es X.env).map (·.2):=by rfl):PGs X (e::es) (LG t u):=by
 intro pins s σ H vs us Q I r h;obtain⟨v,vr,e1,h⟩:=h;subst e1;cases r with
 |cons r rr=>
  rw[hs];refine assignInOrder_cons (thn (h1 pins s σ H _ _ _ I r h) λ_ s1 ⟨σ1,H1,I1,q1⟩=>?_);exact h2 pins s1 σ1 H1 _ _ Q I1 rr q1
def LH(K:z9)(n:Nat)(t:TGs):TG:=λv σ H Q=>∃a xs,v=.ref a/\SqT K H a xs/\xs.length=n/\t xs σ H Q
variable{n:Nat}
theorem JC{k:Nat}{t:TGs}(hc:X.calm=true)(h:PGs X es t)(hn:(Q6 es X.env).length=n:=by rfl)(cz:(Q6 es X.env).findIdx? (·.1)=none:=by rfl):PG X (.Tuple es k pos) (LH X.K n t):=by
 intro pins s σ H v u Q I r hw;obtain⟨a,xs,e1,hq,hl,hw⟩:=hw;subst e1;cases r
 obtain⟨its,rv,ht,hz⟩:=I.tuple hq;refine assign_Tuple_tuple (I.ok.hd hc) ht (by simp[hn,<-hl,rv.length]) cz λh' hx=>?_;have I1:Inv X pins σ H { s with heap:=h' }:=I.kept (t':=s.toks) λb o e=>hx b o (OW (OS e)) e;exact h pins _ σ H xs _ Q I1 (by simpa using rv) hw
def JD(te:TE)(g:TG):TS:=λD σ H=>te σ H λx H1=>g x σ H1 D.nx
variable{tg:Expr}
theorem JE{g:TG}(he:PE X e te)(hg:PG X tg g)(hs:swapsWithSole [tg] e pos.line X.env=pure false:=by rfl)(hw:swappedStores [tg] e X.env=pure none:=by rfl)(h1:(Q6 [tg] X.env).map (·.2)=[assign tg X.env]:=by rfl):PS X (.Assign [tg] e pos) (JD te g):=by
 intro pins s σ H D I h;refine wpAny_Assign_stores (thn (he pins s σ H _ I h) λv s1 hz=>?_) hs hw;obtain⟨x,H1,I1,r1,q1⟩:=hz;rw[h1];exact thn (hg pins s1 σ H1 x v _ I1 r1 q1) λ_ s2 q=>q
variable{pos':Pos}
theorem JF(hN:X.N.Nodup)(hi:X.N[i]?=some x)(hx:Loc X.env.scope x)(he:PE X e te)(hs:swapsWith e (some (.Name x pos')) pos.line X.env=pure false:=by rfl)(hf:X.fn x=true\/X.env.scope.names.lookup x=some .local:=by first|exact .inl rfl|exact .inr rfl|assumption):
  PS X (.Assign [.Name x pos'] e pos) (JD te (ES i)):=by
 intro pins s σ H D I h;refine wpAny_Assign_Name (thn (he pins s σ H _ I h) λv s1 hz=>?_) hs;obtain⟨y,H1,I1,r1,q1⟩:=hz;exact kA I1 hN hi hx r1 (λs2 I2=>⟨_,H1,I2,q1⟩) hf
def NR(i j:Nat)(ta:TA):TS:=λD σ H=>ta σ H λvs H1=>∃v w,vs=[v,w]/\D.nx ((σ.set i (some v)).set j (some w)) H1
variable{px py:Pos}
theorem JG{y:Str}{a:Expr}{ta:TA}{pt:Pos}{kt k2 jh}(hc:X.calm=true)(hN:X.N.Nodup)(hi:X.N[i]?=some x)(hj:X.N[j]?=some y)(az:i≠j)(hx:X.env.scope.names.lookup x=some .local)(hy:X.env.scope.names.lookup y=some .local)(ha:PA X [a,b] ta)(hw:swappedStores [.Tuple [.Name x px,.Name y py] kt pt] (.Tuple [a,b] k2 jh) X.env=pure (some [x,y]))(hs:swapsWithSole [.Tuple [.Name x px,.Name y py] kt pt] (.Tuple [a,b] k2 jh) pos.line X.env=pure false:=by rfl):
  PS X (.Assign [.Tuple [.Name x px,.Name y py] kt pt] (.Tuple [a,b] k2 jh) pos) (NR i j ta):=by
 intro pins s σ H D I h
 rw[exec_Assign_arm]
 refine ff (wpAny_standAt ?_)
 rw[hs]
 refine ff (z8 ?_)
 rw[if_neg (by decide)]
 refine ff (Tuple_ (thn (ha _ pins s σ H _ I h) λus s1 hz=>?_))
 obtain⟨vs,H1,I1,r1,q1⟩:=hz
 obtain⟨v,w,e1,q1⟩:=q1
 subst e1
 obtain⟨u1,u2,rfl,rv,ay⟩:∃u1 u2,us=[u1,u2]/\RelV v u1/\RelV w u2:=by
  cases r1 with
  |cons p q=>
   cases q with
   |cons p' q'=>
    cases q'
    exact⟨_,_,rfl,p,p'⟩
 refine Pw ?_ (by show 2<=OR;decide)
 have I2:Inv X pins σ H1 { s1 with heap:=s1.heap.push { cls:=.type "tuple",data:=.seq [u1,u2].toArray } }:=I1.kept (t':=s1.toks) λb o e=>zz _ e
 rw[hw]
 refine ff (z8 ?_)
 show wpAny (model X.prog X.w) X.A (do rule "assign.swapped-stores";let items <-unpackItems (.ref s1.heap.objs.size) 2 none;assignInOrder [λv=>bindName X.env y v,λv=>bindName X.env x v] items.reverse;pure Flow.next) _ _ _
 refine ff (Rn (ff (unpackItems_tuple (items:=#[u1,u2]) (I.ok.hd hc) (IsTup.new s1.heap _) λh' cf=>?_)))
 have I3:=I2.kept (h':=h') (t':=s1.toks) λb o e=>cf b o (OW (OS e)) e
 show wpAny _ _ (assignInOrder [λv=>bindName X.env y v,λv=>bindName X.env x v] [u2,u1] >>= λ_=>pure Flow.next) _ _ _
 refine ff (assignInOrder_cons (wpAny_bindName (kA I3 hN hj (.inl hy) ay (λs2 I4=>?_) (.inr hy))))
 refine assignInOrder_cons (wpAny_bindName (kA I4 hN hi (.inl hx) rv (λs3 I5=>assignInOrder_nil (z8 ?_)) (.inr hx)))
 rw[List.set_comm _ _ (Sn az)]at I5
 exact⟨_,H1,I5,q1⟩
structure It where
 go:Nat->Hp->Prop
 yld:Nat->Hp->V->Hp->Prop
 stop:Nat->Hp->Prop
def xN(X:Cx)(pins:List (Addr×Obj))(H:Hp)(b:Addr):Prop:=
 H b=none/\b≠X.env.locals/\b∉X.fs/\(b∈X.ex\/X.s₀.heap.objs.size<=b)/\(∀x c,X.env.cells.lookup x=some c->c≠b)/\∀p∈X.pn++pins,p.1≠b
theorem Inv.fpOk{σ:St}{b:Addr}(I:Inv X pins σ H s)(hb:s.heap.objs.size<=b)(hn:H' b=none):xN X pins H' b:=by
 refine⟨hn,QY (Pd I.lt hb),I.nofs hb,.inr (PD I.sz hb),λx c e z=>?_,λp hp z=>?_⟩
 ·obtain⟨v,q⟩:=I.cell x c e;exact absurd (Pd q.lt (by rw[z];exact hb)) (Qs _)
 ·exact absurd (Pd (OS (I.pin p hp).1) (by rw[z];exact hb)) (Qs _)
structure Turn(P:Program)(w:World)(K:z9)(tg:Expr)(J:It)(fp:List Addr)(it:Addr)(tn:Nat->Heap->Prop):Prop where
 mem:it∈fp
 obj:∀i h,tn i h->∀b∈fp,∃o,h.get? b=some o/\∀v,o.data≠.cell v
 keep:∀i h h',tn i h->(∀b∈fp,∀o,h.get? b=some o->h'.get? b=some o)->tn i h'
 item:∀(X:Cx),X.prog=P->X.w=w->X.K=K->X.calm=true->∀(i:Nat)(pins:List (Addr×Obj))(s:Shared)(σ:St)(H:Hp)(E:Value->Shared->Prop),Inv X pins σ H s->(∀b∈fp,xN X pins H b)->tn i s.heap->J.go i H->
  wpAny (model P w) X.A (pyNext (.ref it)) (λr s1=>∃u,r=some u/\
   wpAny (model P w) X.A (letOwnedTupleGo tg (.ref it) u) (λ_ s2=>∃x H',Inv X pins σ H' s2/\RelV x u/\J.yld i H x H'/\tn (i+1) s2.heap/\∀b∈fp,H' b=none) E s1) E s
 done:∀(X:Cx),X.prog=P->X.w=w->X.K=K->X.calm=true->∀(i:Nat)(pins:List (Addr×Obj))(s:Shared)(σ:St)(H:Hp)(E:Value->Shared->Prop),Inv X pins σ H s->(∀b∈fp,xN X pins H b)->tn i s.heap->J.stop i H->
  wpAny (model P w) X.A (pyNext (.ref it)) (λr s1=>r=none/\Inv X pins σ H s1) E s
 self:∀(A:Around)(i:Nat)(s:Shared)(Q:Value->Shared->Prop)(E:Value->Shared->Prop),tn i s.heap->Q (.ref it) s->wpAny (model P w) A (pyIter (.ref it)) Q E s
abbrev TI:=St->Hp->(It->Hp->Prop)->Prop
def PIE(X:Cx)(pins:List (Addr×Obj))(σ:St)(tg:Expr)(R:It->Hp->Prop)(p7:Value)(s2:Shared):Prop:=
 ∃(it:Addr)(fp:List Addr)(tn:Nat->Heap->Prop)(J:It)(H':Hp),p7=.ref it/\Inv X pins σ H' s2/\Turn X.prog X.w X.K tg J fp it tn/\tn 0 s2.heap/\(∀b∈fp,xN X pins H' b)/\R J H'
def PI(X:Cx)(tg iter:Expr)(wi:TI):Prop:=
 ∀(pins:List (Addr×Obj))(s:Shared)(σ:St)(H:Hp)(R:It->Hp->Prop),Inv X pins σ H s->wi σ H R->
  wpAny (model X.prog X.w) X.A (eval iter X.env) (λv s1=>wpAny (model X.prog X.w) X.A (pyIter v) (PIE X pins σ tg R) X.xe s1) X.xe s
theorem CB{n:String}{vs:Array Value}{Q:Unit->Shared->Prop}(ho:s.heap.get? it=some o)(hc:o.cls=.type n)(hd:o.data=.fields vs)(hn:["enumerate","zip","dict_itemiterator","dict_reverseitemiterator","odict_iterator","itertools.zip_longest","itertools.pairwise"].contains n=false)(hQ:Q () s):wpAny M A (letOwnedTupleGo tg (.ref it) u) Q E s:=by
 unfold letOwnedTupleGo;cases tg <;> first
  |exact z8 hQ
  | (cases u <;> first
    |exact z8 hQ
    | (refine ff (wpAny_load ho ?_)
       rw[hc,hd]
       show wpAny M A (if(["enumerate","zip","dict_itemiterator","dict_reverseitemiterator","odict_iterator","itertools.zip_longest","itertools.pairwise"].contains n&&vs[0]? == some (rawInt _))=true then _ else _) Q E s
       rw[if_neg (by intro h;rw[hn,Bool.false_and]at h;cases h)];exact z8 hQ))
def Itl(K:z9)(a:Addr):It:=
 ⟨λi H=>∃xs x,SqL K H a xs/\xs[i]?=some x,λi H x H'=>H'=H/\∀xs,SqL K H a xs->xs[i]?=some x,λi H=>∃xs,SqL K H a xs/\xs.length<=i⟩
def Itt(K:z9)(a:Addr):It:=
 ⟨λi H=>∃xs x,SqT K H a xs/\xs[i]?=some x,λi H x H'=>H'=H/\∀xs,SqT K H a xs->xs[i]?=some x,λi H=>∃xs,SqT K H a xs/\xs.length<=i⟩
def Itr(lo:Int)(n:Nat):It:=⟨λi _=>i<n,λi H x H'=>H'=H/\x=.int (lo+i),λi _=>n<=i⟩
theorem vK(a it:Addr):Turn P w K tg (Itl K a) [it] it (λi h=>h.IsListIter it a i) where
 mem:=by simp
 obj:=λi h st b hb=>by
  have e:b=it:=by simpa using hb
  subst e;obtain⟨o,e,c,d⟩:=st;exact⟨o,e,λv z=>by rw[d]at z;cases z⟩
 keep:=λi h h' st k=>st.at λo e=>k it (by simp) o e
 item:=by
  intro X hP hw hK hc i pins s σ H E I hf st hg;subst hP hw hK;obtain⟨xs,x,hq,hx⟩:=hg;obtain⟨its,rv,p,hz⟩:=I.list hq;obtain⟨u,hu,ru⟩:=rv.get hx;obtain⟨f0,f1,f2,f3,f4,f5⟩:=hf it (by simp);refine wpAny_pyNext_list_item st p.isList (x:=u) (by simpa using hu) λh' cw sb=>?_
  have I1:Inv X pins σ H { s with heap:=h' }:=I.turned (t':=s.toks) (λb o hb e=>(sb.2 b hb).trans e) f0 f1 f3 f4 f5;obtain⟨o,e,c,d⟩:=id cw;exact⟨u,rfl,CB (s:={ s with heap:=h' }) e c d (by decide) ⟨x,H,I1,ru,⟨rfl,λys hy=>by rw[I.list_inj hy hq];exact hx⟩,cw,λb hb=>(hf b hb).1⟩⟩
 done:=by
  intro X hP hw hK hc i pins s σ H E I hf st hg;subst hP hw hK;obtain⟨xs,hq,hx⟩:=hg;obtain⟨its,rv,p,hz⟩:=I.list hq;obtain⟨f0,f1,f2,f3,f4,f5⟩:=hf it (by simp);have hl:=rv.length;exact wpAny_pyNext_list_end (I.ok.hd hc) st p.isList (by simp;omega) λh' eb=>⟨rfl,I.turned (t':=s.toks) (λb o hb e=>eb b o hb e) f0 f1 f3 f4 f5⟩
 self:=λ_ _ _ _ _ st h=>wpAny_pyIter_listiter st h
theorem Bt(a it:Addr):Turn P w K tg (Itt K a) [it] it (λi h=>h.IsTupleIter it a i) where
 mem:=by simp
 obj:=λi h st b hb=>by
  have e:b=it:=by simpa using hb
  subst e;obtain⟨o,e,c,d⟩:=st;exact⟨o,e,λv z=>by rw[d]at z;cases z⟩
 keep:=λi h h' st k=>st.at λo e=>k it (by simp) o e
 item:=by
  intro X hP hw hK hc i pins s σ H E I hf st hg;subst hP hw hK;obtain⟨xs,x,hq,hx⟩:=hg;obtain⟨its,rv,p,hz⟩:=I.tuple hq;obtain⟨u,hu,ru⟩:=rv.get hx;obtain⟨f0,f1,f2,f3,f4,f5⟩:=hf it (by simp);refine wpAny_pyNext_tuple_item st (show s.heap.IsTuple a its.toArray from p) (x:=u) (by simpa using hu) λh' cw sb=>?_
  have I1:Inv X pins σ H { s with heap:=h' }:=I.turned (t':=s.toks) (λb o hb e=>(sb.2 b hb).trans e) f0 f1 f3 f4 f5;obtain⟨o,e,c,d⟩:=id cw;exact⟨u,rfl,CB (s:={ s with heap:=h' }) e c d (by decide) ⟨x,H,I1,ru,⟨rfl,λys hy=>by rw[I.tuple_inj hy hq];exact hx⟩,cw,λb hb=>(hf b hb).1⟩⟩
 done:=by
  intro X hP hw hK hc i pins s σ H E I hf st hg;subst hP hw hK;obtain⟨xs,hq,hx⟩:=hg;obtain⟨its,rv,p,hz⟩:=I.tuple hq;obtain⟨f0,f1,f2,f3,f4,f5⟩:=hf it (by simp);have hl:=rv.length;exact wpAny_pyNext_tuple_end (I.ok.hd hc) st (show s.heap.IsTuple a its.toArray from p) (by simp;omega) λh' eb=>⟨rfl,I.turned (t':=s.toks) (λb o hb e=>eb b o hb e) f0 f1 f3 f4 f5⟩
 self:=λ_ _ _ _ _ st h=>wpAny_pyIter_tupleiter st h
theorem Bu(it:Addr)(lo:Int)(n:Nat):Turn P w K tg (Itr lo n) [it] it (λi h=>IsRangeIter h it (lo+(i:Nat)*1) ((n:Int)-(i:Nat)) 1) where
 mem:=by simp
 obj:=λi h st b hb=>by
  have e:b=it:=by simpa using hb
  subst e;exact⟨_,st,λv z=>by
   have z':Data.fields _=Data.cell v:=z;cases z'⟩
 keep:=λi h h' st k=>k it (by simp) _ st
 item:=by
  intro X hP hw hK hc i pins s σ H E I hf st hg;subst hP hw hK;obtain⟨f0,f1,f2,f3,f4,f5⟩:=hf it (by simp);have W:=Walks.range (prog:=X.prog) (w:=X.w) (I.ok.hd hc) it lo 1 n;refine W.item i s _ _ hg st λv h' tk hv cw kk=>?_;obtain⟨t,rfl⟩:=hv;have I1:Inv X pins σ H { s with heap:=h',toks:=tk }:=I.turned (λb o hb e=>kk b o (by simpa using hb) e) f0 f1 f3 f4 f5
  refine⟨_,rfl,CB (s:={ s with heap:=h',toks:=tk }) (n:="range_iterator") cw rfl rfl (by decide) ⟨.int (lo+i),H,I1,⟨t,?_⟩,⟨rfl,rfl⟩,cw,λb hb=>(hf b hb).1⟩⟩;rw[Int.mul_one]
 done:=by
  intro X hP hw hK hc i pins s σ H E I hf st hg;subst hP hw hK;obtain⟨f0,f1,f2,f3,f4,f5⟩:=hf it (by simp);exact wpAny_pyNext_range_end (I.ok.hd hc) st (by have:n<=i:=hg;omega) λh' eb=>⟨rfl,I.turned (t':=s.toks) (λb o hb e=>eb b o hb e) f0 f1 f3 f4 f5⟩
 self:=λ_ _ _ _ _ st h=>wpAny_pyIter_rangeiter st h
theorem EU{σ:St}{R:It->Hp->Prop}{lo hi:Int}{t u v:Tok}{tk:Nat}(I:Inv X pins σ H s)(h1:-(2 ^ 62)<=lo)(h2:lo<2 ^ 62)(h3:-(2 ^ 62)<=hi)(h4:hi<2 ^ 62)(q:R (Itr lo (hi-lo).toNat) H):wpAny (model X.prog X.w) X.A (pyIter (.ref s.heap.objs.size)) (PIE X pins σ tg R) E { s with heap:=s.heap.push { cls:=.type "range",data:=.fields #[.int lo t,.int hi u,.int 1 v] },toks:=tk }:=by
 refine wpAny_pyIter_range (IsRange.new ..) (small_one h1 h2 h3 h4) ?_;have I1:Inv X pins σ H { s with heap:=s.heap.push { cls:=.type "range",data:=.fields #[.int lo t,.int hi u,.int 1 v] },toks:=tk }:=I.kept λb o e=>zz _ e;refine⟨(s.heap.push { cls:=.type "range",data:=.fields #[.int lo t,.int hi u,.int 1 v] }).objs.size,[(s.heap.push { cls:=.type "range",data:=.fields #[.int lo t,.int hi u,.int 1 v] }).objs.size],_,_,H,rfl,
  I1.kept (t':=tk) λb o e=>zz _ e,Bu _ lo (hi-lo).toNat,?_,λb hb=>?_,q⟩
 ·have e1:lo+((0:Nat):Int)*1=lo:=by simp
  have e2:(((hi-lo).toNat:Nat):Int)-((0:Nat):Int)=Builtin.Range.rangeSize lo hi 1:=by rw[rangeSize_one];split <;> omega
  show IsRangeIter _ _ (lo+((0:Nat):Int)*1) ((((hi-lo).toNat:Nat):Int)-((0:Nat):Int)) 1
  rw[e1,e2];exact OQ _ rfl
 ·have e:b=(s.heap.push { cls:=.type "range",data:=.fields #[.int lo t,.int hi u,.int 1 v] }).objs.size:=by simpa using hb
  subst e;exact I1.fpOk (OO _) (I1.hok.fresh (OO _))
def NS(wi:TI)(g:TG)(tb:TS):TS:=λD σ H=>wi σ H λJ H1=>∃W:Nat->Nat->St->Hp->Prop,(∃m,W 0 m σ H1)/\∀i m σ H,W i m σ H->
 (J.stop i H/\D.nx σ H)\/(J.go i H/\∃N:St->Hp->Prop,(∀σ' H',N σ' H'->∃m',m'<m/\W (i+1) m' σ' H')/\∀x H',J.yld i H x H'->g x σ H' λσ2 H2=>tb { D with nx:=N,ct:=N,bk:=D.nx } σ2 H2)
def rW(fp:List Addr)(h:Heap):List (Addr×Obj):=fp.filterMap λb=>(h.get? b).map λo=>(b,o)
variable{fp:List Addr}
theorem iQ{h:Heap}{b:Addr}(hb:b∈fp)(e:h.get? b=some o):(b,o)∈rW fp h:=List.mem_filterMap.mpr ⟨b,hb,by rw[e];rfl⟩
theorem DC{h:Heap}{p:Addr×Obj}(hp:p∈rW fp h):p.1∈fp/\h.get? p.1=some p.2:=by
 obtain⟨b,hb,e⟩:=List.mem_filterMap.mp hp;cases q:h.get? b with
 |none=>rw[q]at e;cases e
 |some o=>
  rw[q]at e;have e':(b,o)=p:=Pv e;subst e';exact⟨hb,q⟩
theorem Inv.pinned{σ:St}(I:Inv X pins σ H s)(hf:∀b∈fp,xN X pins H b)(ho:∀b∈fp,∃o,s.heap.get? b=some o/\∀v,o.data≠.cell v):Inv X (pins++rW fp s.heap) σ H s:=
 I.pins_of λp hp=>(Pr.mp hp).elim (λz=>I.pin p (PB _ z)) λz=>by
  obtain⟨hb,e⟩:=DC z;obtain⟨f0,f1,f2,_⟩:=hf p.1 hb;obtain⟨o,e',d⟩:=ho p.1 hb;rw[e]at e';cases e';exact⟨e,f0,f1,f2,d⟩
theorem Inv.unpinned{pl:List (Addr×Obj)}{σ:St}(I:Inv X (pins++pl) σ H s):Inv X pins σ H s:=I.pins_of λp hp=>I.pin p (PB _ (Rl _ hp))
variable{iter:Expr}
theorem JH{body:List Stmt}{wi:TI}{g:TG}{tb:TS}(hp:PassesOwn (model X.prog X.w) X.A X.env X.xe)(hc:X.calm=true)(hi:PI X tg iter wi)(hg:PG X tg g)(hb:PSs X body tb)(hs:∀x,Qw iter X.env x=pure x:=by intro _;rfl):PS X (.For tg iter body [] pos) (NS wi g tb):=by
 intro pins s σ H D I h;refine wpAny_For (thn (hi pins s σ H _ I h) λv s1 h1=>thn h1 λp7 s2 h2=>?_) hs;obtain⟨it,fp,tn,J,H2,e,I2,T,j6,f2,W,⟨m0,w0⟩,turn⟩:=h2;subst e
 -- what stays true of the iterator's objects through the loop
 have jq:∀{H':Hp},(∀b∈fp,H' b=none)->∀b∈fp,xN X pins H' b:=λhn b hb=>⟨hn b hb,(f2 b hb).2⟩;refine codeAny_forLoop_any (λn s'=>∃i σ' H',Inv X pins σ' H' s'/\tn i s'.heap/\(∀b∈fp,H' b=none)/\W i n σ' H') ?_ m0 ⟨0,σ,H2,I2,j6,λb hb=>(f2 b hb).1,w0⟩;rintro n s3 ⟨i,σ3,H3,I3,l5,fr3,w3⟩;rcases turn i n σ3 H3 w3 with⟨stop,qn⟩|⟨go,N,hN,step⟩
 ·refine wpAny_passesOwn hp (thn (T.done X rfl rfl rfl hc i pins s3 σ3 H3 X.xe I3 (jq fr3) l5 stop) λr s4 ⟨hr,I4⟩=>?_);subst hr;exact wpAny_execs_nil ⟨σ3,H3,I4,qn⟩
 ·refine wpAny_passesOwn hp (thn (T.item X rfl rfl rfl hc i pins s3 σ3 H3 X.xe I3 (jq fr3) l5 go) λr s4 ⟨u,hr,h4⟩=>?_);subst hr;refine wpAny_passesOwn hp (thn h4 λ_ s5 hz=>?_);obtain⟨x,H5,I5,r5,y5,j7,n6⟩:=hz;have ze:=I5.pinned (jq n6) (T.obj _ _ j7);refine wpAny_passesOwn hp (thn (hg _ s5 σ3 H5 x u _ ze r5 (step x H5 y5)) λ_ s6 ⟨σ6,H6,I6,q6⟩=>?_);refine wpAny_passesOwn hp (thn (hb _ s6 σ6 H6 _ I6 q6) λf s7 q7=>?_);have again:∀{σ7:St}{H7:Hp},Inv X (pins++rW fp s5.heap) σ7 H7 s7->N σ7 H7->∃m,m<n/\∃i σ' H',Inv X pins σ' H' s7/\tn i s7.heap/\(∀b∈fp,H' b=none)/\W i m σ' H':=λ{σ7 H7} I7 n7=>by
   obtain⟨m',hm,w7⟩:=hN σ7 H7 n7;refine⟨m',hm,i+1,σ7,H7,I7.unpinned,T.keep _ _ _ j7 λb hb o e=>(I7.pin (b,o) (PB _ (PB _ (iQ hb e)))).1,λb hb=>?_,w7⟩;obtain⟨o,e,d⟩:=T.obj _ _ j7 b hb;exact(I7.pin (b,o) (PB _ (PB _ (iQ hb e)))).2.1
  cases f with
  |next=>obtain⟨σ7,H7,I7,n7⟩:=q7;exact again I7 n7
  |cont=>obtain⟨σ7,H7,I7,n7⟩:=q7;exact again I7 n7
  |brk=>obtain⟨σ7,H7,I7,q7⟩:=q7;exact⟨σ7,H7,I7.unpinned,q7⟩
  |ret v=>obtain⟨x7,σ7,H7,I7,r7,q7⟩:=q7;exact⟨x7,σ7,H7,I7.unpinned,r7,q7⟩
abbrev R2:=V->V->Hp->VK->Prop
def OpR(X:Cx)(f:Value->Value->Sem Value)(r:R2):Prop:=
 ∀(pins:List (Addr×Obj))(s:Shared)(σ:St)(H:Hp)(x y:V)(v u:Value)(Q:VK),Inv X pins σ H s->RelV x v->RelV y u->r x y H Q->
  wpAny (model X.prog X.w) X.A (f v u) (EP X pins σ Q) X.xe s
def UnR(X:Cx)(f:Value->Sem Value)(r:V->Hp->VK->Prop):Prop:=
 ∀(pins:List (Addr×Obj))(s:Shared)(σ:St)(H:Hp)(x:V)(v:Value)(Q:VK),Inv X pins σ H s->RelV x v->r x H Q->
  wpAny (model X.prog X.w) X.A (f v) (EP X pins σ Q) X.xe s
def cG(X:Cx)(f:Value)(r:List V->Hp->VK->Prop):Prop:=
 ∀(pins:List (Addr×Obj))(s:Shared)(σ:St)(H:Hp)(xs:List V)(us:List Value)(Q:VK),Inv X pins σ H s->aI xs us->r xs H Q->
  wpAny (model X.prog X.w) X.A (call f us) (EP X pins σ Q) X.xe s
def NT(X:Cx)(r:V->Hp->(Bool->Hp->Prop)->Prop):Prop:=
 ∀(pins:List (Addr×Obj))(s:Shared)(σ:St)(H:Hp)(x:V)(v:Value)(Q:Bool->Hp->Prop),Inv X pins σ H s->RelV x v->r x H Q->
  wpAny (model X.prog X.w) X.A (truthy v) (TP X pins σ Q) X.xe s
def tOp(r:R2)(ta tb:TE):TE:=λσ H Q=>ta σ H λx H1=>tb σ H1 λy H2=>r x y H2 Q
def tUn(r:V->Hp->VK->Prop)(ta:TE):TE:=λσ H Q=>ta σ H λx H1=>r x H1 Q
def rI(C:Int->Int->Prop)(g:Int->Int->V):R2:=λx y H Q=>∃i j,x=.int i/\y=.int j/\C i j/\Q (g i j) H
def rI0(g:Int->Int->V):R2:=λx y H Q=>∃i j,x=.int i/\y=.int j/\Q (g i j) H
def rU(g:Int->V):V->Hp->VK->Prop:=λx H Q=>∃i,x=.int i/\Q (g i) H
variable{f:Value->Value->Sem Value}
theorem JI{a:Expr}(ha:PE X a ta)(hb:PE X b tb){σ:St}{R:V->V->Hp->Prop}(I:Inv X pins σ H s)(h:ta σ H λx H1=>tb σ H1 λy H2=>R x y H2)(hf:∀v u s2 x y H2,Inv X pins σ H2 s2->RelV x v->RelV y u->R x y H2->wpAny (model X.prog X.w) X.A (f v u) Q X.xe s2):
  wpAny (model X.prog X.w) X.A (eval a X.env) (λv s₁=>wpAny (model X.prog X.w) X.A (eval b X.env) (λu s₂=>wpAny (model X.prog X.w) X.A (f v u) Q X.xe s₂) X.xe s₁) X.xe s:=by
 refine thn (ha pins s σ H _ I h) λv s1 hz=>?_;obtain⟨x,H1,I1,r1,q1⟩:=hz;refine thn (hb pins s1 σ H1 _ I1 q1) λu s2 hz=>?_;obtain⟨y,H2,I2,r2,q2⟩:=hz;exact hf v u s2 x y H2 I2 r1 r2 q2
theorem LI{a:Expr}{op:Operator}{r:R2}(ho:OpR X (Qe op) r)(ha:PE X a ta)(hb:PE X b tb):PE X (.BinOp a op b pos) (tOp r ta tb):=by
 intro pins s σ H Q I h;exact wpAny_BinOp (JI ha hb I h λv u s2 x y H2 I2 rx ry q=>ho pins s2 σ H2 x y v u Q I2 rx ry q)
theorem LJ{a:Expr}{op:UnaryOp}{r:V->Hp->VK->Prop}(ho:UnR X (unaryOp op) r)(ha:PE X a ta):PE X (.UnaryOp op a pos) (tUn r ta):=by
 intro pins s σ H Q I h;exact UnaryOp_ (thn (ha pins s σ H _ I h) λv s1 ⟨x,H1,I1,r1,q1⟩=>ho pins s1 σ H1 x v Q I1 r1 q1)
theorem opI{C:Int->Int->Prop}{g:Int->Int->Int}(rule:∀(i j:Int)(t u:Tok)(s:Shared)(Q:Value->Shared->Prop)(E:Value->Shared->Prop),C i j->Q (.int (g i j) s.toks) { s with toks:=s.toks+1 }->wpAny (model X.prog X.w) X.A (f (.int i t) (.int j u)) Q E s):
  OpR X f (rI C λi j=>.int (g i j)):=by
 intro pins s σ H x y v u Q I rx ry h;obtain⟨i,j,rfl,rfl,hc,q⟩:=h;obtain⟨t,rfl⟩:=rx;obtain⟨t',rfl⟩:=ry;exact rule i j t t' s _ _ hc ⟨.int (g i j),H,I.tok _,⟨_,rfl⟩,q⟩
theorem LK{g:Int->Int->Int}(rule:∀(i j:Int)(t u:Tok)(s:Shared)(Q:Value->Shared->Prop)(E:Value->Shared->Prop),Q (.int (g i j) s.toks) { s with toks:=s.toks+1 }->wpAny (model X.prog X.w) X.A (f (.int i t) (.int j u)) Q E s):
  OpR X f (rI0 λi j=>.int (g i j)):=by
 intro pins s σ H x y v u Q I rx ry h;obtain⟨i,j,rfl,rfl,q⟩:=h;obtain⟨t,rfl⟩:=rx;obtain⟨t',rfl⟩:=ry;exact rule i j t t' s _ _ ⟨.int (g i j),H,I.tok _,⟨_,rfl⟩,q⟩
theorem JJ{g:Int->Int->Bool}(rule:∀(i j:Int)(t u:Tok)(s:Shared)(Q:Value->Shared->Prop)(E:Value->Shared->Prop),Q (.bool (g i j)) s->wpAny (model X.prog X.w) X.A (f (.int i t) (.int j u)) Q E s):
  OpR X f (rI0 λi j=>.bl (g i j)):=by
 intro pins s σ H x y v u Q I rx ry h;obtain⟨i,j,rfl,rfl,q⟩:=h;obtain⟨t,rfl⟩:=rx;obtain⟨t',rfl⟩:=ry;exact rule i j t t' s _ _ ⟨.bl (g i j),H,I,rfl,q⟩
def EV(i j:Int):Prop:=0<j/\j<1073741824
def DD(i j:Int):Prop:=0<=j/\j<=1000000/\i.natAbs<2 ^ 64
def A4(i j:Int):Prop:=(-(2 ^ 64)<i/\i<2 ^ 64)\/(-(2 ^ 64)<j/\j<2 ^ 64)
theorem A4.ok{i j:Int}(h:A4 i j):IntMulOk i j:=by
 rcases h with⟨h1,h2⟩|⟨h1,h2⟩
 ·exact .of_left (intBits_le_64 h1 h2)
 ·exact .of_right (intBits_le_64 h1 h2)
theorem JK:OpR X (Qe .Add) (rI0 λi j=>.int (i+j)):=LK λ_ _ _ _ _ _ _ q=>add_int q
theorem JL:OpR X (Qe .Sub) (rI0 λi j=>.int (i-j)):=LK λ_ _ _ _ _ _ _ q=>sub_int q
theorem JM:OpR X (Qe .Mult) (rI A4 λi j=>.int (i*j)):=opI λ_ _ _ _ _ _ _ hc q=>mul_int q hc.ok
theorem Hn:OpR X (Qe .FloorDiv) (rI EV λi j=>.int (i/j)):=opI λi j _ _ _ _ _ hc q=>by
 have h1:(0:Int)<j:=hc.1;have h2:j<1073741824:=hc.2;exact floordiv_int (by omega) (by rw[Int.fdiv_eq_ediv_of_nonneg i (by omega)];exact q) (.inl (PyProof.noPylong_small (by omega)))
theorem JN:OpR X (Qe .Mod) (rI (λ_ j=>0<j) λi j=>.int (i%j)):=opI λi j _ _ _ _ _ hc q=>by
 have h1:(0:Int)<j:=hc;exact mod_int' (by omega) (by rw[Int.fmod_eq_emod_of_nonneg i (by omega)];exact q)
theorem JO:OpR X (Qe .Pow) (rI DD λi j=>.int (i ^ j.toNat)):=opI λ_ _ _ _ _ _ _ hc q=>pow_int_small hc.1 hc.2.1 hc.2.2 q
theorem unI{f:Value->Sem Value}{g:Int->Int}
  (rule:∀(i:Int)(t:Tok)(s:Shared)(Q:Value->Shared->Prop)(E:Value->Shared->Prop),Q (.int (g i) s.toks) { s with toks:=s.toks+1 }->wpAny (model X.prog X.w) X.A (f (.int i t)) Q E s):
  UnR X f (rU λi=>.int (g i)):=by
 intro pins s σ H x v Q I rx h;obtain⟨i,rfl,q⟩:=h;obtain⟨t,rfl⟩:=rx;exact rule i t s _ _ ⟨.int (g i),H,I.tok _,⟨_,rfl⟩,q⟩
theorem JP:UnR X (unaryOp .USub) (rU λi=>.int (-i)):=unI λ_ _ _ _ _ q=>neg_int q
theorem xO{σ:St}{Q:VK}{k k':Bool}(I:Inv X pins σ H s)(q:Q (.bl k) H)(e:k=k'):EP X pins σ Q (.bool k') s:=by
 subst e;exact⟨.bl k,H,I,rfl,q⟩
theorem LL:OpR X (Pn .Lt) (rI0 λi j=>.bl (decide (i<j))):=JJ λ_ _ _ _ _ _ _ q=>lt_int q
theorem LM:OpR X (Pn .LtE) (rI0 λi j=>.bl (decide (i<=j))):=JJ λ_ _ _ _ _ _ _ q=>le_int q
theorem LN:OpR X (Pn .Gt) (rI0 λi j=>.bl (decide (j<i))):=JJ λ_ _ _ _ _ _ _ q=>gt_int q
theorem DE:OpR X (Pn .Lt) (λx y H Q=>∃i j,x=.str i/\y=.str j/\Q (.bl (decide (i.cps.toList<j.cps.toList))) H):=by
 intro pins s σ H x y v u Q I rx ry h;obtain⟨i,j,rfl,rfl,q⟩:=h;obtain⟨t,rfl⟩:=rx;obtain⟨t',rfl⟩:=ry;exact lt_str (xO I q rfl)
theorem JQ:OpR X (Pn .Is) (λx y H Q=>y=.non/\Q (.bl (decide (x=.non))) H):=by
 intro pins s σ H x y v u Q I rx ry h;obtain⟨rfl,q⟩:=h;cases ry
 refine is_none_gen (xO I q ?_);cases x <;> first
  |(cases rx;rfl)
  |(obtain⟨t,rfl⟩:=rx;rfl)
theorem OpR.or{r r':R2}(h:OpR X f r)(h':OpR X f r'):OpR X f (λx y H Q=>r x y H Q\/r' x y H Q):=by
 intro pins s σ H x y v u Q I rx ry q;rcases q with q|q
 ·exact h pins s σ H x y v u Q I rx ry q
 ·exact h' pins s σ H x y v u Q I rx ry q
variable{op:CmpOp}
theorem EW(b:Expr)(h:op≠.In:=by decide)(h2:op≠.NotIn:=by decide):behindInMarks op b=false:=by
 have e1:(op == CmpOp.In)=false:=by cases op <;> first|rfl|exact absurd rfl h
 have e2:(op == CmpOp.NotIn)=false:=by cases op <;> first|rfl|exact absurd rfl h2
 cases b <;> simp[behindInMarks,e1,e2]
theorem Ho{a:Expr}{r:R2}(ho:OpR X (Pn op) r)(ha:PE X a ta)(hb:PE X b tb)(hm:behindInMarks op b=false):PE X (.Compare a [op] [b] pos) (tOp r ta tb):=by
 intro pins s σ H Q I h;exact wpAny_Compare1 (JI ha hb I h λv u s2 x y H2 I2 rx ry q=>ho pins s2 σ H2 x y v u Q I2 rx ry q) hm
def LO(t:TE):TT:=λσ H Q=>t σ H λx H'=>∃k,x=.bl k/\Q k H'
def Bv(r r':R2)(ta tb tc:TE):TE:=λσ H Q=>ta σ H λx H1=>tb σ H1 λy H2=>r x y H2 λz H3=>∃k,z=.bl k/\
 (if k=true then tc σ H3 λw' H4=>r' y w' H4 Q else Q (.bl false) H3)
variable{c8:CmpOp}{tc:TE}
theorem EX{a:Expr}{c:Expr}{r r':R2}(ho:OpR X (Pn op) r)(b7:OpR X (Pn c8) r')(ha:PE X a ta)(hb:PE X b tb)(hc:PE X c tc)(hm:lastMarks [op,c8] [b,c]=false:=by with_unfolding_all rfl):PE X (.Compare a [op,c8] [b,c] pos) (Bv r r' ta tb tc):=by
 intro pins s σ H Q I h;refine Compare_chain (thn (ha pins s σ H _ I h) λv s1 ⟨x,H1,I1,r1,q1⟩=>chain_link (thn (hb pins s1 σ H1 _ I1 q1) λu s2 ⟨y,H2,I2,r2,q2⟩=>
  thn (ho pins s2 σ H2 x y v u _ I2 r1 r2 q2) λd s3 ⟨z,H3,I3,r3,k,e,q3⟩=>?_)) hm
 subst e;cases r3
 refine QJ ?_;cases k with
 |false=>exact ite_ff ⟨.bl false,H3,I3,rfl,q3⟩
 |true=>exact ite_tt (chain_last (thn (hc pins s3 σ H3 _ I3 q3) λw' s4 ⟨z',H4,I4,r4,q4⟩=>b7 pins s4 σ H4 y z' u w' Q I4 r2 r4 q4))
theorem EY{a:Expr}{c:Expr}{r r':R2}(ho:OpR X (Pn op) r)(b7:OpR X (Pn c8) r')(ha:PE X a ta)(hb:PE X b tb)(hc:PE X c tc)(hm:lastMarks [op,c8] [b,c]=false:=by with_unfolding_all rfl):PT X (.Compare a [op,c8] [b,c] pos) (LO (Bv r r' ta tb tc)):=by
 intro pins s σ H Q I h;refine isTrue_chain (thn (ha pins s σ H _ I h) λv s1 ⟨x,H1,I1,r1,q1⟩=>test_link (thn (hb pins s1 σ H1 _ I1 q1) λu s2 ⟨y,H2,I2,r2,q2⟩=>
  thn (ho pins s2 σ H2 x y v u _ I2 r1 r2 q2) λd s3 ⟨z,H3,I3,r3,k,e,q3⟩=>?_)) hm
 subst e;cases r3
 refine QJ ?_;cases k with
 |false=>
  obtain⟨k',e',q'⟩:=q3;cases e'
  exact ite_ff ⟨H3,I3,q'⟩
 |true=>
  refine ite_tt (test_last (thn (hc pins s3 σ H3 _ I3 q3) λw' s4 ⟨z',H4,I4,r4,q4⟩=>thn (b7 pins s4 σ H4 y z' u w' _ I4 r2 r4 q4) λd' s5 hz=>?_));obtain⟨z2,H5,I5,r5,k2,e2,q5⟩:=hz;subst e2;cases r5
  exact QJ ⟨H5,I5,q5⟩
def Bw(K:z9)(x:V)(H:Hp)(k:Bool):Prop:=
 match x with
 |.non=>k=false
 |.bl b=>k=b
 |.int i=>k=(i != 0)
 |.str y=>y.length<=OR/\k=((y.length:Int) != 0)
 |.byt y=>y.size<=OR/\k=((y.size:Int) != 0)
 |.ref p=>(∃xs,SqL K H p xs/\k=!xs.isEmpty)\/(∃xs,SqT K H p xs/\k=!xs.isEmpty)\/∃kvs,H p=some (.dK kvs)/\k=!kvs.isEmpty
 |_=>False
theorem Bx{κ:Type}{kvs:List (κ×V)}{vs:List (κ×Value)}(r:KV kvs vs):(!vs.isEmpty)=!kvs.isEmpty:=by
 cases r <;> rfl
variable{its:List Value}
theorem rX{xs:List V}(r:aI xs its):(!its.toArray.isEmpty)=!xs.isEmpty:=by
 cases r <;> simp
theorem mM:(OR:Nat)<2 ^ 63:=by rw[Qy];decide
theorem EZ:NT X (λx H Q=>∃k,Bw X.K x H k/\Q k H):=by
 intro pins s σ H x v Q I rx h;obtain⟨k,e,q⟩:=h;have hl:=mM;have hs:OR=16777216:=Qy;cases x with
 |non=>
  cases rx
  have e':k=false:=e;subst e';exact truthy_none ⟨H,I,q⟩
 |bl b=>
  cases rx
  have e':k=b:=e;subst e';exact QJ ⟨H,I,q⟩
 |int i=>
  obtain⟨t,rfl⟩:=rx;have e':k=(i != 0):=e;subst e';exact PySem.P.truthy_int ⟨H,I,q⟩
 |str y=>
  obtain⟨t,rfl⟩:=rx;obtain⟨hy,e'⟩:y.length<=OR/\k=((y.length:Int) != 0):=e;subst e';exact PySem.P.truthy_str (by omega) ⟨H,I.tok _,q⟩
 |byt y=>
  obtain⟨t,rfl⟩:=rx;obtain⟨hy,e'⟩:y.size<=OR/\k=((y.size:Int) != 0):=e;subst e';exact PySem.W.truthy_bytes (by omega) ⟨H,I.tok _,q⟩
 |ref p=>
  cases rx
  have e':(∃xs,SqL X.K H p xs/\k=!xs.isEmpty)\/(∃xs,SqT X.K H p xs/\k=!xs.isEmpty)\/∃kvs,H p=some (.dK kvs)/\k=!kvs.isEmpty:=e;rcases e' with⟨xs,hx,e'⟩|⟨xs,hx,e'⟩|⟨kvs,hx,e'⟩
  ·subst e';obtain⟨its,r,pl,hz⟩:=I.list hx;have hlen:=r.length;exact wpAny_truthy_list pl.isList (by simp only[OV];omega) ⟨H,I.tok _,by rw[rX r];exact q⟩
  ·subst e';obtain⟨its,r,pl,hz⟩:=I.tuple hx;have hlen:=r.length;exact truthy_tuple pl (by simp only[OV];omega) ⟨H,I.tok _,by rw[rX r];exact q⟩
  ·subst e';obtain⟨hz,hS,vs,r,m⟩:kvs.length<=OR/\(p == QI)=false/\∃vs,KV kvs vs/\s.heap.DictOf (aQ X.prog X.w) p vs:=I.hok p _ hx;have hlen:kvs.length=vs.length:=Rv r;exact wpAny_truthy_dict hS m (by omega) ⟨H,I.tok _,by rw[Bx r];exact q⟩
 |_=>exact(show False from e).elim
theorem F0{a:Expr}(ha:PE X a ta)(he:∀whole,isTrue a X.env whole=(do let v <-whole;standAt a.pos;holding [v] (truthy v))):
  PT X a (λσ H Q=>ta σ H λx H'=>∃k,Bw X.K x H' k/\Q k H'):=by
 intro pins s σ H Q I h
 exact isTrue_plain (thn (ha pins s σ H _ I h) λv s1 ⟨x,H1,I1,r1,q1⟩=>EZ pins s1 σ H1 x v Q I1 r1 q1) (he _)
theorem By:OpR X (Qe .Add) (λx y H Q=>∃i j,x=.str i/\y=.str j/\i.length+j.length<=OR/\Q (.str (i++j)) H):=by
 intro pins s σ H x y v u Q I rx ry h;obtain⟨i,j,rfl,rfl,hz,q⟩:=h;obtain⟨t,rfl⟩:=rx;obtain⟨t',rfl⟩:=ry;exact add_str (λt' tk=>⟨.str (i++j),H,I.tok _,⟨_,rfl⟩,q⟩) hz
theorem vals1{x:V}(r:aI [x] us):∃u,us=[u]/\RelV x u:=by
 cases r with
 |cons r1 r2=>cases r2;exact⟨_,rfl,r1⟩
theorem vals2{x:V}(r:aI [x,y] us):∃u w',us=[u,w']/\RelV x u/\RelV y w':=by
 cases r with
 |cons r1 r2=>
  cases r2 with
  |cons r3 r4=>cases r4;exact⟨_,_,rfl,r1,r3⟩
def NU(K:z9)(x:V)(H:Hp)(n:Nat):Prop:=
 match x with
 |.str y=>y.length<=OR/\n=y.length
 |.byt y=>y.size<=OR/\n=y.size
 |.ref p=>(∃xs,SqL K H p xs/\n=xs.length)\/∃xs,SqT K H p xs/\n=xs.length
 |_=>False
theorem F1:cG X (.builtin "len") (λxs H Q=>∃x n,xs=[x]/\NU X.K x H n/\Q (.int n) H):=by
 intro pins s σ H xs us Q I r h;obtain⟨x,n,rfl,e,q⟩:=h;obtain⟨u,rfl,rx⟩:=vals1 r;have hl:=mM;have hs:OR=16777216:=Qy;cases x with
 |str y=>
  obtain⟨t,rfl⟩:=rx;obtain⟨hy,e'⟩:y.length<=OR/\n=y.length:=e;subst e';exact len_str (by omega) ⟨.int _,H,I.tok _,⟨_,rfl⟩,q⟩
 |byt y=>
  obtain⟨t,rfl⟩:=rx;obtain⟨hy,e'⟩:y.size<=OR/\n=y.size:=e;subst e';exact PySem.W.len_bytes (by omega) ⟨.int _,H,I.tok _,⟨_,rfl⟩,q⟩
 |ref p=>
  cases rx
  have e':(∃xs,SqL X.K H p xs/\n=xs.length)\/∃xs,SqT X.K H p xs/\n=xs.length:=e;rcases e' with⟨xs,hx,e'⟩|⟨xs,hx,e'⟩
  ·subst e';obtain⟨its,r',pl,hz⟩:=I.list hx;have hlen:=r'.length;exact Calls.call_len_list pl.isList (by simp only[OV];omega) ⟨.int xs.length,H,I.tok _,⟨_,by simp only[OV];rw[hlen]⟩,q⟩
  ·subst e';obtain⟨its,r',pl,hz⟩:=I.tuple hx;have hlen:=r'.length;exact len_tuple pl (by simp only[OV];omega) ⟨.int xs.length,H,I.tok _,⟨_,by simp only[OV];rw[hlen]⟩,q⟩
 |_=>exact(show False from e).elim
structure JR(h:Heap)(x dx C:Addr)(mA:Str->Option Value):Prop where
 obj:h.get? x=some (PySem.W.instObj C dx)
 ns:h.Ns1 dx mA
 ne:dx≠x
variable{dx:Addr}{mA:Str->Option Value}
set_option tactic.hygienic true in
theorem DF{h:Heap}(n:h.Ns1 dx mA):∃od,h.get? dx=some od/\∀name,PySem.W.lookIn name od=some (mA name):=by
 obtain⟨o,es,ep,ho,hd,hk,_,hm⟩:=n;refine⟨o,ho,λname=>?_⟩;have e:=hm name;unfold nsFind findBy at e;rw[<-Array.find?_toList]at e;unfold PySem.W.lookIn;rw[hd];dsimp only;split
 ·rename_i y q;rw[q]at e;exact congrArg some e
 ·rename_i q;rw[q]at e;have a:es.toList.any (·.refKey)=false:=by
   rw[List.any_eq_false];intro y hy;obtain⟨z,t,c6⟩:=hk y (Array.mem_toList_iff.mp hy);simp[DictEntry.refKey,c6]
  have a':¬ es.toList.any (·.refKey)=true:=by rw[a];exact Pc
  rw[if_neg a'];exact congrArg some e
theorem JR.look{h:Heap}{x C:Addr}(I:JR h x dx C mA):∃od,PySem.W.InstAt h x (PySem.W.instObj C dx) C (some od)/\∀name,PySem.W.lookIn name od=some (mA name):=
 let ⟨od,ho,hl⟩:=DF I.ns
 ⟨od,⟨I.obj,rfl,rfl,ho⟩,hl⟩
theorem nN.some_of{v:V}{o:Option Value}(r:nN (some v) o):∃u,o=some u/\RelV v u:=by
 cases o with
 |none=>exact(show False from r).elim
 |some u=>exact⟨u,rfl,r⟩
section
variable{h:Heap}{C:Addr}{fs wu:List (Str×V)}
theorem Hq(hok:HOk P w H h)(e:H a=some (.ins C dx fs)):∃mA,JR h a dx C mA/\(∀f,nN (fs.lookup f) (mA f))/\PySem.Within mA (fs.map (·.1))/\fs.length<=1000/\H dx=some (.own a):=by
 obtain⟨d,z,ne,ob,mA,n,r,q⟩:=(show bS P w H h a (.ins C dx fs) from hok a _ e)
 exact⟨mA,⟨ob,n,ne⟩,r,q,z,d⟩
end
structure Cls(K:z9)(C:Addr):Prop where
 pg:PySem.W.plainGet K C Str.empty=true
 hd:PySem.W.hasDictIn K C=true
 po:PySem.W.plainOver K C=true
 sa:PySem.W.findIn K (.ref C) "__setattr__" = some (some (.builtin "object.__setattr__"))
theorem Cls.get{C:Addr}(c:Cls K C)(f:Str):PySem.W.plainGet K C f=true:=c.pg
section
variable{σ:St}{c:Value}{b:Bool}
inductive pH(K:z9)(H:Hp):V->Value->Prop where
 |non:pH K H .non (.type "NoneType")
 |bl (x:Bool):pH K H (.bl x) (.type "bool")
 |int (i:Int):pH K H (.int i) (.type "int")
 |str (x:Str):pH K H (.str x) (.type "str")
 |flt (x:UInt64):pH K H (.flt x) (.type "float")
 |lst {a:Addr} {xs:List V} (e:H a=some (.lst xs)):pH K H (.ref a) (.type "list")
 |frz {a:Addr} {o:Obj} {xs:List V} (e:H a=some (.frz o (.lst xs))):pH K H (.ref a) (.type "list")
 |tup {a:Addr} {xs:List V} (e:H a=some (.tup xs)):pH K H (.ref a) (.type "tuple")
 |dK {a:Addr} {kvs:List (Key×V)} (e:H a=some (.dK kvs)):pH K H (.ref a) (.type "dict")
 |dT {a:Addr} {kvs:List (List Key×V)} (e:H a=some (.dT kvs)):pH K H (.ref a) (.type "dict")
 | ins {a C dx:Addr} {fs:List (Str×V)} (e:H a=some (.ins C dx fs)) (cl:Cls K C) (ha:PySem.W.findIn K (.ref C) "__class__" = some (some (.builtin "object.__class__")))
   (hn:PySem.W.specialIn K (.builtin "object.__class__") "__get__" = some (some (.builtin "getset_descriptor.__get__"))) (htk:PySem.W.takesIn K (.builtin "object.__class__")=some true)
   (hm:PySem.W.mroIn K C (.type "object")=some true):pH K H (.ref a) (.ref C)
theorem DG{x:V}{t:Value}(I:Inv X pins σ H s)(rx:RelV x u)(ty:pH X.K H x t)(e:PySem.W.kitOne X.K t c=some b)(h:∀tk,Q (.bool b) { s with toks:=tk }):
  wpAny (model X.prog X.w) A (call (.builtin "isinstance") [u,c]) Q E s:=by
 cases ty with
 |non=>cases(show u=PC from rx);exact P6 PySem.W.kitx_none I.kIn QK e (λz=>nomatch z) h
 |bl y=>cases(show u=Value.bool y from rx);exact P6 PySem.W.kitx_bool I.kIn QK e (λz=>nomatch z) h
 |int i=>obtain⟨t,q⟩:=(show ∃t,u=Rm i t from rx);cases q;exact P6 PySem.W.kitx_int I.kIn QK e (λz=>nomatch z) h
 |str y=>obtain⟨t,q⟩:=(show ∃t,u=Qv y t from rx);cases q;exact P6 PySem.W.kitx_str I.kIn QK e (λz=>nomatch z) h
 |flt y=>obtain⟨t,q⟩:=(show ∃t,u=Value.float y t from rx);cases q;exact P6 PySem.W.kitx_float I.kIn QK e (λz=>nomatch z) h
 | @lst a xs ea=>
  cases(show u=Py a from rx)
  obtain⟨_,_,n,_,h1⟩:=(show bS X.prog X.w H s.heap a (.lst xs) from I.hok a _ ea)
  exact P6 PySem.W.kitx_list I.kIn ⟨_,h1,rfl⟩ e (λz=>nomatch z) h
 | @frz a ob xs ea=>
  cases(show u=Py a from rx)
  obtain⟨_,_,_,n,_,h1⟩:=(show bS X.prog X.w H s.heap a (.frz ob (.lst xs)) from I.hok a _ ea)
  exact P6 PySem.W.kitx_list I.kIn ⟨_,h1,rfl⟩ e (λz=>nomatch z) h
 | @tup a xs ea=>
  cases(show u=Py a from rx)
  obtain⟨_,_,_,p⟩:=(show bS X.prog X.w H s.heap a (.tup xs) from I.hok a _ ea)
  obtain⟨o,h1,h2,_⟩:=p;exact P6 PySem.W.kitx_tuple I.kIn ⟨o,h1,h2⟩ e (λz=>nomatch z) h
 | @dK a kvs ea=>
  cases(show u=Py a from rx)
  obtain⟨_,_,vs,_,p⟩:=(show bS X.prog X.w H s.heap a (.dK kvs) from I.hok a _ ea)
  obtain⟨o,es,ep,h1,h2,_⟩:=p;exact P6 PySem.W.kitx_dict I.kIn ⟨o,h1,h2.1⟩ e (λz=>nomatch z) h
 | @dT a kvs ea=>
  cases(show u=Py a from rx)
  obtain⟨_,_,xs,_,o,es,ep,h1,h2,_⟩:=(show bS X.prog X.w H s.heap a (.dT kvs) from I.hok a _ ea)
  exact P6 PySem.W.kitx_dict I.kIn ⟨o,h1,h2.1⟩ e (λz=>nomatch z) h
 | @ins a C dx fs ea cl ha hn htk hm=>
  cases(show u=Py a from rx)
  obtain⟨mA,O,_⟩:=Hq I.hok ea;obtain⟨od,J,_⟩:=O.look;exact P6 (PySem.W.kitx_own (cl.get _) cl.hd ha hn htk hm) I.kIn J e (λz=>nomatch z) h
end
structure iB(k:Nat)(A:Around):Prop where
 hd:A.handled=none
 dp:A.depth+3*k+5<recursionLimit
 un:A.units+16*k+200<cLine
 gd:A.guards=some []
theorem iB.mono{k:Nat}(r:iB k A)(h:j<=k):iB j A:=⟨r.hd,by have:=r.dp;omega,by have:=r.un;omega,r.gd⟩
theorem iB.deeper{k:Nat}(r:iB (k+1) A)(env:Env):iB k (A.deeper env):=
 ⟨r.hd,by have:=r.dp;show A.depth+1+3*k+5<_;omega,by have:=r.un;show A.units+3+16*k+200<_;omega,r.gd⟩
theorem iB.depth{k:Nat}(r:iB k A):A.depth<recursionLimit:=by have:=r.dp;omega
theorem iB.units{k:Nat}(r:iB k A):A.units+64<cLine:=by have:=r.un;omega
def NV:TA:=λ_ H Q=>Q [] H
def LP(ta:TE)(tr:TA):TA:=λσ H Q=>ta σ H λx H1=>tr σ H1 λxs H2=>Q (x::xs) H2
section
variable{t:TA}
theorem Bz:PA X [] NV:=λ_ _ _ _ H Q I h=>R4 ⟨[],H,I,.nil,h⟩
theorem xP(ha:PE X e te)(hr:PA X es t)(hs:Pe (e::es) X.env=(false,eval e X.env)::Pe es X.env:=by rfl):PA X (e::es) (LP te t):=by
 intro pos pins s σ H Q I h;rw[hs]
 show wpAny _ _ (spliced ((false,eval e X.env)::backTo pos (Pe es X.env))) _ _ s
 refine Q8 (thn (ha pins s σ H _ I h) λu s1 hz=>?_);obtain⟨x,H1,I1,r1,q1⟩:=hz;exact thn (hr pos pins s1 σ H1 _ I1 q1) λus s2 ⟨xs,H2,I2,r2,q2⟩=>⟨x::xs,H2,I2,.cons r1 r2,q2⟩
def NW(t:TA):TE:=λσ H Q=>t σ H λxs H1=>xs.length<=OR/\∀p,H1 p=none->Q (.ref p) (upd H1 p (.tup xs))
def NX(t:TA):TE:=λσ H Q=>t σ H λxs H1=>xs.length<=OR/\∀p,H1 p=none->Q (.ref p) (upd H1 p (.lst xs))
theorem JS{x1}(h:PA X es t):PE X (.Tuple es x1 pos) (NW t):=by
 intro pins s σ H Q I hq;refine wpAny_Tuple_spliced (thn (h pos pins s σ H _ I hq) λus s1 ⟨xs,H1,I1,r,z,q⟩=>⟨by rw[<-r.length];exact z,?_⟩);have hf:H1 s1.heap.objs.size=none:=I1.hok.fresh (OO _);refine⟨.ref s1.heap.objs.size,upd H1 s1.heap.objs.size (.tup xs),I1.laid (t':=s1.toks) (λb u e=>zz _ e) (OO _) ?_,rfl,q _ hf⟩;exact⟨z,us,r,⟨_,OQ _ rfl,rfl,⟨_,rfl⟩,rfl⟩⟩
theorem JT(h:PA X es t):PE X (.List es pos) (NX t):=by
 intro pins s σ H Q I hq;refine wpAny_List_spliced (thn (h pos pins s σ H _ I hq) λus s1 ⟨xs,H1,I1,r,z,q⟩=>⟨by rw[<-r.length];exact z,?_⟩);have hf:H1 s1.heap.objs.size=none:=I1.hok.fresh (OO _);refine⟨.ref s1.heap.objs.size,upd H1 s1.heap.objs.size (.lst xs),I1.laid (t':=s1.toks) (λb u e=>zz _ e) (OO _) ?_,rfl,q _ hf⟩;exact⟨z,us,0,r,OQ _ rfl⟩
end
abbrev Sp:=List V->Hp->VK->XK->Prop
abbrev CXT:=List Env->Hp->Shared->XK->Value->Shared->Prop
structure Hr(P:Program)(w:World)(K:z9)(mg:Str->Option Value)(base:Heap)(A:Around)(outer:List Env)(s:Shared)(H:Hp):Prop where
 frames:A.frames=some outer
 mod:Mod K mg base
 bs:∀b o,base.get? b=some o->s.heap.get? b=some o/\H b=none
 bsz:base.objs.size<=s.heap.objs.size
 funs:s.heap.FunFrames base outer
 frf:∀b∈frs outer,H b=none
 hok:HOk P w H s.heap
 bare:AllBare s.gens
def CE(outer:List Env)(P:Program)(w:World)(H:Hp)(s:Shared)(Q:VK)(u:Value)(s':Shared):Prop:=
 ∃v H',s'.os=s.os/\AllBare s'.gens/\Un (frs outer) [] H H' s.heap s'.heap/\HOk P w H' s'.heap/\RelV v u/\Q v H'
def CR(CX:CXT)(outer:List Env)(P:Program)(w:World)(H:Hp)(s:Shared)(Q:VK)(E:XK)(r:Result)(s':Shared):Prop:=
 match r with
 |.ok (.ret u)=>CE outer P w H s Q u s'
 |.ok _=>False
 |.error e=>CX outer H s E e s'
structure iC(P:Program)(w:World)(K:z9)(mg:Str->Option Value)(base:Heap)(CX:CXT)(k:Nat)(f:Addr)(fd:Q9)(ps:List Str)(sp:Sp):Prop where
 len:∀vs H Q E,sp vs H Q E->vs.length=ps.length
 run:∀(A:Around)(outer:List Env)(s:Shared)(H:Hp)(args:Args)(us:List Value)(vs:List V)(Q:VK)(E:XK),iB k A->Hr P w K mg base A outer s H->BindsTo s fd args (ps.zip us)->aI vs us->sp vs H Q E->
  codeAny (model P w) A (.call (.ref f) args) (CR CX outer P w H s Q E) s
variable{CX:CXT}{base:Heap}{fd:Q9}{mg:Str->Option Value}{ps:List Str}{sp:Sp}
theorem iC.imp{k:Nat}{f:Addr}{uq:Sp}(F:iC P w K mg base CX k f fd ps sp)(h:∀vs H Q E,uq vs H Q E->sp vs H Q E):iC P w K mg base CX k f fd ps uq:=
 ⟨λvs H Q E q=>F.len vs H Q E (h _ _ _ _ q),λA outer s H args us vs Q E hr he hb hv hs=>F.run A outer s H args us vs Q E hr he hb hv (h _ _ _ _ hs)⟩
section
variable{σ:St}
theorem Inv.env0(I:Inv X pins σ H s):Hr X.prog X.w X.K X.mg X.base X.A X.stack s H:=
 ⟨I.ok.frames,I.ok.mod,I.bs,PD I.ok.bsz I.sz,I.stack,I.stkFree,I.hok,I.bare⟩
theorem Inv.after{Q:VK}(I:Inv X pins σ H s)(h:CE X.stack X.prog X.w H s Q u s'):EP X pins σ Q u s':=by
 obtain⟨v,H',os,bare,un,hok,r,q⟩:=h;obtain⟨hh,g,d,t,zl⟩:=s';obtain rfl:zl=s.os:=os;exact⟨v,H',I.call (h':=hh) (g':=g) (d':=d) (t':=t) (ch:=[]) un hok bare (λb z=>absurd z (by simp)),r,q⟩
end
def J9(sp:Sp)(iz:List V)(E:XK)(t:TA):TE:=λσ H Q=>t σ H λvs H1=>sp (vs++iz) H1 Q E
def Binds(K:z9)(fd:Q9)(ps:List Str)(ds:List Value):Prop:=
 ∀(s:Shared)(us:List Value),K.In s.heap->(us++ds).length=ps.length->BindsTo s fd ⟨us,[]⟩ (ps.zip (us++ds))
theorem Binds.all(h:∀us:List Value,us.length=ps.length->bindArgs fd ⟨us,[]⟩=pure (ps.zip us)):Binds K fd ps []:=λs us _ hl=>by
 rw[List.append_nil]at hl⊢;exact .of_eq (h us hl)
def BA(CX:CXT)(X:Cx)(E:XK):Prop:=∀(pins:List (Addr×Obj))(σ:St)(H:Hp)(s:Shared)(e:Value)(s':Shared),Inv X pins σ H s->CX X.stack H s E e s'->X.xe e s'
variable{iz vs:List V}
section
variable{k:Nat}{f C:Addr}{ds:List Value}{E:XK}{m:Str}{p:Pos}{o:Expr}{t:TA}
theorem F2{σ:St}{Q:VK}(F:iC X.prog X.w X.K X.mg X.base CX k f fd ps sp)(hr:iB k X.A)(hb:Binds X.K fd ps ds)(hd:aI iz ds)(hx:BA CX X E)(I:Inv X pins σ H s)(r:aI vs us)(h:sp (vs++iz) H Q E):wpAny (model X.prog X.w) X.A (call (.ref f) us) (EP X pins σ Q) X.xe s:=by
 have r2:aI (vs++iz) (us++ds):=r.append hd;have hl:(us++ds).length=ps.length:=by rw[<-r2.length];exact F.len _ _ _ _ h
 refine wpAny_call (codeAny_mono (F.run X.A X.stack s H ⟨us,[]⟩ (us++ds) (vs++iz) Q E hr I.env0 (hb s us I.kIn hl) r2 h) λr s' hq=>?_);cases r with
 |error e=>exact hx pins σ H s e s' I hq
 |ok fl=>
  cases fl with
  |ret u=>exact I.after hq
  |next=>exact R3 hq
  |brk=>exact R3 hq
  |cont=>exact R3 hq
theorem Hs(F:iC X.prog X.w X.K X.mg X.base CX k f fd ps sp)(hr:iB k X.A)(hg:Gl X x)(hm:X.mg x=some (.ref f))(hk:SH X.K (.ref f)=true)(hb:Binds X.K fd ps ds)(hd:aI iz ds)(hx:BA CX X E)
  (ha:PA X (e::es) t) (fe:(x == ("__debug__" : Str))=false:=by decide) (he:Pe (e::es) X.env=(false,eval e X.env)::Pe es X.env:=by rfl) (bx:(backTo pos (Pe es X.env)).any (·.1)=false:=by rfl):
  PE X (.Call (.Name x p) (e::es) [] pos) (J9 sp iz E t):=by
 intro pins s σ H Q I h;refine wpAny_Call_Name_kw (CA I hg hm ?_ fe);refine PySem.W.callWith_K (h₀:=X.base) I.ok.mod.kin hk (thn (ha pos pins s σ H _ I h) λus s1 ⟨vs,H1,I1,r,q⟩=>⟨I1.kIn,?_⟩) he bx;exact F2 F hr hb hd hx I1 r q
end
structure nQ(N P:List Str)(sc:Scope):Prop where
 kind:sc.kind=.function
 co:sc.isCoroutine=false
 gen:sc.isGenerator=false
 nd:N.Nodup
 pre:N.take P.length=P
 par:∀x∈P,sc.names.lookup x=some .local\/sc.names.lookup x=some .cell
 nofree:∀y∈sc.names,y.2≠.free
theorem vL{kindOf:Str->Option RI}{x:Str}:∀{binds:List (Str×Value)}{m:Str->Option Value},(∀v,(x,v)∉binds)->bindL kindOf binds m x=m x
 |[],_,_=>rfl
 |(n,v)::r,m,h=>by
  unfold bindL;rw[vL λw hw=>h w (OX _ hw)];split
  ·have:x≠n:=by rintro rfl;exact h v Pb
   simp[this]
  ·rfl
theorem vM{kindOf:Str->Option RI}{x:Str}:∀{binds:List (Str×Value)}{m:Str->Option Value},(∀v,(x,v)∉binds)->bindC kindOf binds m x=m x
 |[],_,_=>rfl
 |(n,v)::r,m,h=>by
  unfold bindC;rw[vM λw hw=>h w (OX _ hw)];split
  ·rfl
  ·have:x≠n:=by rintro rfl;exact h v Pb
   simp[this]
theorem vN{kindOf:Str->Option RI}{x:Str}{v:Value}:∀{P:List Str}{vs:List Value}{i:Nat}{m:Str->Option Value},P.Nodup->P[i]?=some x->vs[i]?=some v->kindOf x=some .local->
  bindL kindOf (P.zip vs) m x=some v
 |[],_,_,_,_,h,_,_=>by simp at h
 |_::_,[],_,_,_,_,h,_=>by simp at h
 |p::P,w::vs,0,m,nd,h1,h2,hk=>by
  simp at h1 h2;subst h1;subst h2
  show bindL kindOf ((p,w)::P.zip vs) m p=_
  unfold bindL;rw[vL λv hv=>(Q2.mp nd).1 (List.of_mem_zip hv).1,if_pos hk];simp
 |p::P,w::vs,i+1,m,nd,h1,h2,hk=>by
  show bindL kindOf ((p,w)::P.zip vs) m x=_
  unfold bindL;exact vN (i:=i) (Q2.mp nd).2 (by simpa using h1) (by simpa using h2) hk
theorem vO{kindOf:Str->Option RI}{x:Str}{v:Value}:∀{P:List Str}{vs:List Value}{i:Nat}{m:Str->Option Value},P.Nodup->P[i]?=some x->vs[i]?=some v->kindOf x≠some .local->
  bindC kindOf (P.zip vs) m x=some v
 |[],_,_,_,_,h,_,_=>by simp at h
 |_::_,[],_,_,_,_,h,_=>by simp at h
 |p::P,w::vs,0,m,nd,h1,h2,hk=>by
  simp at h1 h2;subst h1;subst h2
  show bindC kindOf ((p,w)::P.zip vs) m p=_
  unfold bindC;rw[vM λv hv=>(Q2.mp nd).1 (List.of_mem_zip hv).1,if_neg hk];simp
 |p::P,w::vs,i+1,m,nd,h1,h2,hk=>by
  show bindC kindOf ((p,w)::P.zip vs) m x=_
  unfold bindC;exact vO (i:=i) (Q2.mp nd).2 (by simpa using h1) (by simpa using h2) hk
def start(N:List Str)(vs:List V):St:=vs.map some++P3 (N.length-vs.length) none
def A5(CX:CXT)(P:Program)(w:World)(K:z9)(mg:Str->Option Value)(base:Heap)(N:List Str)(qual:Str)(scope:Scope)(f:Addr)(cd:Value)(A:Around)(outer:List Env)(s:Shared)(H:Hp)(E:XK):Cx where
 prog:=P
 w:=w
 K:=K
 mg:=mg
 base:=base
 A:=A.deeper (envOfC qual scope s.heap.objs.size f cd)
 N:=N
 s₀:=s
 H₀:=H
 env:=envOfC qual scope s.heap.objs.size f cd
 outer:=outer
 stack:=envOfC qual scope s.heap.objs.size f cd::outer
 ex:=[]
 calm:=true
 fn:=λ_=>true
 pn:=[]
 xe:=λe s'=>wpAny (model P w) (A.deeper (envOfC qual scope s.heap.objs.size f cd)) (leaving (envOfC qual scope s.heap.objs.size f cd) e) (λ_ l9=>CX outer H s E e l9) (λe' l9=>CX outer H s E e' l9) s'
variable{sc:Scope}
theorem A6(h:sc.names.lookup x=some .cell):∃c,(P7 n sc.names []).lookup x=some c:=by
 have q:=PySem.W.cellsFrom_some sc.names n [] (.inl h);exact Option.isSome_iff_exists.mp q
variable{cd:Value}{outer:List Env}{qual:Str}{s1:Shared}{scope:Scope}
theorem DH{f:Addr}{E:XK}(S:nQ N ps scope)(hd:A.handled=none)(e0:Hr P w K mg base A outer s H)(hl:vs.length=ps.length)(r:aI vs us)(x:InCallC s s.heap.objs.size (bindL (envOfC qual scope s.heap.objs.size f cd).kindOf (ps.zip us) λ_=>none) (P7 (s.heap.objs.size+1) scope.names []) (bindC (envOfC qual scope s.heap.objs.size f cd).kindOf (ps.zip us) λ_=>none) s1):
  Inv (A5 CX P w K mg base N qual scope f cd A outer s H E) [] (start N vs) H s1:=by
 have bx:ps.length<=N.length:=by have:=congrArg List.length S.pre;rw[Sk]at this;omega
 obtain⟨h1,tk,rfl,hk⟩:=x.done;have ly:∀b:Addr,b∉(A5 CX P w K mg base N qual scope f cd A outer s H E).ex:=λb z=>absurd (show b∈([]:List Addr) from z) (by simp)
 refine⟨⟨e0.mod,S.kind,rfl,rfl,OO _,λy z c h1 h2=>?_,λy hy=>?_,λy c _ h=>?_,λ_=>hd,Around.frames_deeper e0.frames,.inr ⟨rfl,rfl⟩,λb z=>absurd z (ly b),e0.bs,e0.bsz,λb _ _=>ly b,λb z=>absurd z (ly b),e0.funs,e0.frf⟩,
  rfl,e0.bare,Un.kept hk,⟨_,x.toInCall.ns,λi y v h1 h2 h3=>?_⟩,λy c h=>⟨_,x.cell y c h⟩,e0.hok.fresh (OO _),λy c h=>?_,λp hp=>absurd (show p∈([]:List (Addr×Obj)) from hp) (by simp),e0.hok.kept hk,?_⟩
 ·exact name_of_addr x.apart (Rw h1) (Rw h2)
 ·have hy:scope.names.lookup y=some .cell\/scope.names.lookup y=some .free:=hy;rcases hy with hy|hy
  ·exact A6 hy
  ·exact absurd rfl (S.nofree _ (Rw hy))
 ·exact Sr (x.above y c (Rw h))
 ·have hi:i<vs.length:=by
   unfold start at h2
   by_cases hi:i<vs.length
   ·exact hi
   ·rw[Qh (by simpa using hi)]at h2
    rw[List.getElem?_replicate]at h2;split at h2 <;> cases h2
  have ha:vs[i]?=some v:=by
   unfold start at h2;rw[PQ (by simpa using hi),PF]at h2
   cases e:vs[i]? with
   |none=>rw[e]at h2;cases h2
   |some a=>rw[e]at h2;cases h2;rfl
  obtain⟨u,hu,rv⟩:=r.get ha;have hp:ps[i]?=some y:=by
   rw[<-S.pre,List.getElem?_take_of_lt (by omega)];exact h1
  have vx:ps.Nodup:=by rw[<-S.pre];exact S.nd.sublist (List.take_sublist _ _)
  refine⟨u,rv,?_⟩;rcases S.par y (Qi hp) with k|k
  ·exact .inl ⟨k,vN vx hp hu k⟩
  ·obtain⟨c,e⟩:=A6 (n:=s.heap.objs.size+1) k;refine .inr ⟨.inl k,c,e,?_⟩;have q:=x.cell y c e;rw[vO vx hp hu (by show scope.names.lookup y≠_;rw[k];decide)]at q;exact q
 ·exact e0.hok.fresh (Sr (x.above y c (Rw h)))
 ·unfold start
  show _=N.length
  rw[Pf,OP,List.length_replicate];omega
variable{an od:Option Addr}{cdv ct doc oc pm:Value}{name:Str}{osl:Array (Option Value)}{params:Arguments}
theorem LQ{k:Nat}{f:Addr}{body:List Stmt}{dV kV:Value}(lk:K.lookup f=some ⟨oc,od,.func (QF name qual params body scope dV kV doc pm an cdv ct),osl⟩)(cj:SJ K cdv qual=true)(S:nQ N ps scope)(len:∀vs H Q E,sp vs H Q E->vs.length=ps.length)(f6:∀(A:Around)(outer:List Env)(s:Shared)(H:Hp)(vs:List V)(Q:VK)(E:XK),iB k (A.deeper (envOfC qual scope s.heap.objs.size f cdv))->sp vs H Q E->
   ∃t,PSs (A5 CX P w K mg base N qual scope f cdv A outer s H E) body t/\t { nx:=λ_ H'=>Q .non H',rt:=Q } (start N vs) H):
  iC P w K mg base CX (k+1) f (QF name qual params body scope dV kV doc pm an cdv ct) ps sp:=by
 refine⟨len,λA outer s H args us vs Q E hr e0 hb r iy=>?_⟩;have hl:=len _ _ _ _ iy;have KX:K.In s.heap:=e0.mod.kin.keeps λb o e=>(e0.bs b o e).1;have lim:s.heap.NoLimit:=e0.mod.nolimit.keeps λb o e=>(e0.bs b o e).1;have m3:∀y∈ps.zip us,scope.names.lookup y.1=some .local\/(scope.names.lookup y.1=some .cell/\((P7 (s.heap.objs.size+1) scope.names []).lookup y.1).isSome=true):=λ⟨n,v⟩ hy=>by
  rcases S.par n (List.of_mem_zip hy).1 with q|q
  ·exact .inl q
  ·exact .inr ⟨q,PySem.W.cellsFrom_some _ _ _ (.inl q)⟩
 refine codeAny_call_function hr.depth (KX _ _ lk) rfl S.co S.gen rfl (PySem.W.codeRec_of KX cj) (hb _ _ _ _ ?_);refine wpAny_newFunctionEnv_cells S.kind m3 λenv he s1 x=>?_;subst he;refine⟨lim.keeps x.toInCall.keep,codeAny_func ?_⟩;obtain⟨t,ht,hq⟩:=f6 A outer s H vs Q E (hr.deeper _) iy;have I:Inv (A5 CX P w K mg base N qual scope f cdv A outer s H E) [] (start N vs) H s1:=DH S hr.hd e0 hl r x;refine Qj (ht [] s1 (start N vs) H _ I hq) (λfl s' hs=>?_) λe s' hs=>hs;have fin:∀{σ':St}{H':Hp}{v:V}{u:Value},Inv (A5 CX P w K mg base N qual scope f cdv A outer s H E) [] σ' H' s'->RelV v u->Q v H'->CE outer P w H s Q u s':=
  λ{σ' H' v u} J rv q=>⟨v,H',J.os,J.bare,J.base,J.hok,rv,q⟩
 cases fl with
 |ret u=>
  obtain⟨v,σ',H',J,rv,q⟩:=hs;exact fin J rv q
 |next=>
  obtain⟨σ',H',J,q⟩:=hs;exact fin (v:=V.non) (u:=PC) J rfl q
 |brk=>
  obtain⟨_,_,_,q⟩:=hs;exact R3 q
 |cont=>
  obtain⟨_,_,_,q⟩:=hs;exact R3 q
variable{T:String}
section
variable{p:Pos}{t:TA}{id:String}{r:List V->Hp->VK->Prop}
def tCB(r:List V->Hp->VK->Prop)(t:TA):TE:=λσ H Q=>t σ H λvs H1=>r vs H1 Q
theorem A7(hc:cG X (.builtin id) r)(hg:Gl X x)(hm:X.mg x=none)(hv:Q7 x=some (.builtin id))(ha:PA X (e::es) t)(hn:x≠"__name__" := by decide)(fe:(x == ("__debug__" : Str))=false:=by decide)
  (he:Pe (e::es) X.env=(false,eval e X.env)::Pe es X.env:=by rfl) (bx:(backTo pos (Pe es X.env)).any (·.1)=false:=by rfl):PE X (.Call (.Name x p) (e::es) [] pos) (tCB r t):=by
 intro pins s σ H Q I h;refine wpAny_Call_Name_kw (rV I hg hm hv ?_ hn fe);exact PyProof.Rows.callWith_builtin1 (thn (ha pos pins s σ H _ I h) λus s1 ⟨vs,H1,I1,r1,q1⟩=>hc pins s1 σ H1 vs us Q I1 r1 q1) he bx
theorem vP(hc:cG X (.type T) r)(hg:Gl X x)(hm:X.mg x=none)(hv:Q7 x=some (.type T))(ha:PA X (e::es) t)(hn:x≠"__name__" := by decide)(fe:(x == ("__debug__" : Str))=false:=by decide)
  (he:Pe (e::es) X.env=(false,eval e X.env)::Pe es X.env:=by rfl) (bx:(backTo pos (Pe es X.env)).any (·.1)=false:=by rfl):PE X (.Call (.Name x p) (e::es) [] pos) (tCB r t):=by
 intro pins s σ H Q I h;refine wpAny_Call_Name_kw (rV I hg hm hv ?_ hn fe);exact RL (thn (ha pos pins s σ H _ I h) λus s1 ⟨vs,H1,I1,r1,q1⟩=>hc pins s1 σ H1 vs us Q I1 r1 q1) he bx
end
end L2
namespace HT
open PySem PyProof.Rows
variable{A:Around}{E Q:Value->Shared->Prop}{prog:Program}{s:Shared}{vs ws:List Value}{w:World}
theorem cat_tup{t b:Addr}(ht:IsTup s.heap t vs.toArray)(hb:IsTup s.heap b ws.toArray)(hv:vs≠[])(h1:ws=[]->Q (.ref t) s)(h2:ws≠[]->Q (.ref s.heap.objs.size) { s with heap:=s.heap.push { cls:=.type "tuple",data:=.seq (vs++ws).toArray } })(hsz:vs.length+ws.length<=OR):wpAny (model prog w) A (Qe .Add (.ref t) (.ref b)) Q E s:=by
 obtain⟨⟨cls,dd,data,sl⟩,ho,hc,n,hd⟩:=id ht;obtain⟨⟨qx,nr,data2,o5⟩,i5,ko,n2,hd2⟩:=id hb;simp only at hc hd ko hd2;subst hc hd ko hd2;have e:vs.toArray++ws.toArray=(vs++ws).toArray:=by simp
 by_cases hw:ws=[]
 ·exact concat_meets ⟨_,ho,rfl⟩ ⟨_,i5,rfl⟩ noFill_tuple_add seq_tuple_add PySem.F.slot_tuple_add PySem.F.entry_tuple_add (PySem.F.args_tuple_add_2 _ _)
   (tuple_addW1 t b vs.toArray ws.toArray n n2 dd nr sl o5 (by simpa using hv) (by simp[hw])) ⟨ho,i5,h1 hw⟩
 ·refine concat_meets ⟨_,ho,rfl⟩ ⟨_,i5,rfl⟩ noFill_tuple_add seq_tuple_add PySem.F.slot_tuple_add PySem.F.entry_tuple_add (PySem.F.args_tuple_add_2 _ _)
   (tuple_addW2 t b vs.toArray ws.toArray n n2 dd nr sl o5 (by simpa using hv) (by simpa using hw) (by rw[OV,OV];exact hsz)) ⟨ho,i5,?_⟩
  rw[e];exact h2 hw
def sIx(n d:Nat):Option Int->Nat
 |none=>d
 |some v=>if v<0 then(v+(n:Int)).toNat else min v.toNat n
theorem JU(n d:Nat)(hd:d<=n)(o:Option Int):sIx n d o<=n:=by
 cases o with
 |none=>exact hd
 |some v=>
  show(if v<0 then(v+(n:Int)).toNat else min v.toNat n)<=n
  by_cases hv:v<0
  ·rw[if_pos hv];omega
  ·rw[if_neg hv];exact Nat.min_le_right _ _
theorem CC(v:Int)(n d:Nat):(if v<0 then max (v+(n:Int)) 0 else min v (n:Int))=((sIx n d (some v):Nat):Int):=by
 show(if v<0 then max (v+(n:Int)) 0 else min v (n:Int))=(((if v<0 then(v+(n:Int)).toNat else min v.toNat n):Nat):Int)
 by_cases hv:v<0
 ·simp only[if_pos hv];omega
 ·simp only[if_neg hv];omega
theorem BB(lo hi:Option Int)(n:Nat):Sf lo hi 1 (n:Int)=(((sIx n 0 lo:Nat):Int),((sIx n n hi:Nat):Int)):=by
 have h1:¬ ((1:Int)<0):=by omega
 unfold Sf;simp only[h1,if_false];refine Prod.ext ?_ ?_
 ·cases lo with
  |none=>rfl
  |some v=>exact CC v n 0
 ·cases hi with
  |none=>rfl
  |some v=>exact CC v n n
theorem BC(i j:Nat):Rh (i:Int) (j:Int) 1=j-i:=by
 unfold Rh;have h1:(1:Int)>0:=by omega
 simp only[h1,if_true,Int.ediv_one];split <;> omega
variable{o:Option Int}
theorem rY{v:Value}{Q:Option Int->Shared->Prop}(p:IsPart v o)(h:Q o s):wpAny (model prog w) A (Builtin.Slice.slicePartIndex v) Q E s:=by
 cases p with
 |none=>exact slicePart_none h
 |int i t=>exact slicePart_int h
variable{hi lo:Option Int}{n:Nat}{sl:Addr}{vl vu:Value}
theorem sliceApplied_gen{Q:Int×Int×Nat->Shared->Prop}(hs:s.heap.IsSliceOf sl vl vu .none)(pl:IsPart vl lo)(pu:IsPart vu hi)(h:Q (((sIx n 0 lo:Nat):Int),1,sIx n n hi-sIx n 0 lo) s):wpAny (model prog w) A (Builtin.Slice.sliceApplied (.ref sl) (pure (n:Int))) Q E s:=by
 obtain⟨os,gu,nq,ju⟩:=id hs;unfold Builtin.Slice.sliceApplied Builtin.Slice.sliceFields;refine ff (ff (Qz gu ju (x:=vl) rfl (ff (Qz gu ju (x:=vu) rfl (ff (Qz gu ju (x:=.none) rfl (z8 ?_)))))));refine ff (slicePart_none ?_)
 show wpAny _ _ (if((1:Int) == 0)=true then _ else _) _ _ s
 rw[if_neg (by decide)];refine ff (rY pl (ff (rY pu (ff (z8 ?_)))))
 show wpAny _ _ (match Sf lo hi 1 (n:Int) with|(lo,hi)=>pure (lo,(1:Int),Rh lo hi 1)) _ _ s
 rw[BB lo hi n]
 show wpAny _ _ (pure (((sIx n 0 lo:Nat):Int),(1:Int),Rh ((sIx n 0 lo:Nat):Int) ((sIx n n hi:Nat):Int) 1)) _ _ s
 rw[BC];exact z8 h
theorem F3(xs:Array Value)(i k:Nat):((Pm k).filterMap λ(m:Nat)=>xs[((i:Int)+(m:Int)*1).toNat]?).toArray=((xs.toList.drop i).take k).toArray:=by
 have e:(λ(m:Nat)=>xs[((i:Int)+(m:Int)*1).toNat]?)=λm=>xs[i+m]?:=by
  funext m
  have:((i:Int)+(m:Int)*1).toNat=i+m:=by omega
  rw[this]
 rw[e];have:=pick_run xs i k;rw[List.filterMap_map]at this;have e2:((λx=>xs[x]?)∘λx=>i+x)=λm=>xs[i+m]?:=rfl;rw[e2]at this;rw[this]
variable{items:Array Value}
theorem getItem_tuple_cut{t:Addr}(ht:IsTup s.heap t items)(hs:s.heap.IsSliceOf sl vl vu .none)(pl:IsPart vl lo)(pu:IsPart vu hi)(hw:¬ (sIx items.size 0 lo=0/\sIx items.size items.size hi=items.size))(h:Q (.ref s.heap.objs.size) { s with heap:=s.heap.push { cls:=.type "tuple",data:=.seq ((items.toList.drop (sIx items.size 0 lo)).take (sIx items.size items.size hi-sIx items.size 0 lo)).toArray } })(hsz:items.size<=OR):wpAny (model prog w) A (getItem (.ref t) (.ref sl)) Q E s:=by
 have di:sizeOk (.seq ((items.toList.drop (sIx items.size 0 lo)).take (sIx items.size items.size hi-sIx items.size 0 lo)).toArray):=by
  show((items.toList.drop (sIx items.size 0 lo)).take (sIx items.size items.size hi-sIx items.size 0 lo)).toArray.size<=OR
  rw[OV,Sk,List.length_drop,Array.length_toList];omega
 have hj:sIx items.size items.size hi<=items.size:=JU _ _ (OO _) hi;obtain⟨os,gu,nq,ju⟩:=id hs;have uh:s.TypeIs (.ref sl) "slice" := ⟨os,gu,nq⟩;unfold getItem
 try with_reducible refine Qf ?_
 first|refine ff (z8 ?_)|skip
 refine ff (wpAny_sequenceKey ht.typeIs (by decide) ?_);refine ff (Pz (name:=PJ "__getitem__") ht.typeIs PZ
  (PL PZ ht.typeIs entry_tuple_getitem ?_ (args_tuple_getitem _ _)))
 show wpAny _ _ (Sb (.ref t) >>= _) _ _ s
 refine ff (tupleItemsOf_ ht ?_);refine ff (Rt uh ?_);rw[if_pos (by decide)];refine ff (sliceApplied_gen hs pl pu ?_);have qt:¬ ((((sIx items.size 0 lo:Nat):Int) == 0&&(1:Int) == 1&&(sIx items.size items.size hi-sIx items.size 0 lo) == items.size)=true):=by
  intro q;rw[Pj,Pj]at q;have q1:((sIx items.size 0 lo:Nat):Int)=0:=eq_of_beq q.1.1;have q2:sIx items.size items.size hi-sIx items.size 0 lo=items.size:=eq_of_beq q.2;exact hw ⟨by omega,by omega⟩
 show wpAny _ _ (if(((sIx items.size 0 lo:Nat):Int) == 0&&(1:Int) == 1&&(sIx items.size items.size hi-sIx items.size 0 lo) == items.size)=true then _ else _) _ _ s
 rw[if_neg qt,F3]
 first
  |exact ff (m:=Ro _) (Pw (z8 ⟨_,rfl,z8 h⟩) di)
  |exact ff (m:=Ro _) (Pw (ff (z8 (z8 ⟨_,rfl,z8 h⟩))) di)
  |exact ff (ff (m:=Ro _) (Pw (z8 (z8 ⟨_,rfl,z8 h⟩)) di))
  |exact ff (ff (m:=Ro _) (Pw (z8 ⟨_,rfl,z8 h⟩) di))
end HT
namespace L2
open PySem PySem.Spec PyProof.Rows
abbrev TO:=St->Hp->(Option Int->Hp->Prop)->Prop
def PO(X:Cx)(e:Option Expr)(t:TO):Prop:=
 ∀(pins:List (Addr×Obj))(s:Shared)(σ:St)(H:Hp)(Q:Option Int->Hp->Prop),Inv X pins σ H s->t σ H Q->
  wpAny (model X.prog X.w) X.A (evalPart e X.env) (λu s'=>∃o H',Inv X pins σ H' s'/\IsPart u o/\Q o H') X.xe s
def Ht:TO:=λ_ H Q=>Q none H
variable{X:Cx}{r r':V->Option Int->Option Int->Hp->VK->Prop}{e:Expr}{p2 pos:Pos}{te:TE}{us:List Value}
section
variable{lo hi:Option Expr}{tl th:TO}
theorem Hu:PO X none Ht:=by
 intro pins s σ H Q I h;rw[evalPart_none];exact z8 ⟨none,H,I,.none,h⟩
def SlR(X:Cx)(r:V->Option Int->Option Int->Hp->VK->Prop):Prop:=
 ∀(pins:List (Addr×Obj))(s:Shared)(σ:St)(H:Hp)(x:V)(v vl vu:Value)(lo hi:Option Int)(sl:Addr)(Q:VK),Inv X pins σ H s->RelV x v->s.heap.IsSliceOf sl vl vu .none->IsPart vl lo->IsPart vu hi->r x lo hi H Q->
  ∃T id,typeLookup (.type T) "__getitem__" = pure (some (.builtin id))/\s.TypeIs v T/\wpAny (model X.prog X.w) X.A (getItem v (.ref sl)) (EP X pins σ Q) X.xe s
theorem SlR.or(h:SlR X r)(h':SlR X r'):SlR X (λx lo hi H Q=>r x lo hi H Q\/r' x lo hi H Q):=by
 intro pins s σ H x v vl vu lo hi sl Q I rx hs pl pu q;rcases q with q|q
 ·exact h pins s σ H x v vl vu lo hi sl Q I rx hs pl pu q
 ·exact h' pins s σ H x v vl vu lo hi sl Q I rx hs pl pu q
def tSl(r:V->Option Int->Option Int->Hp->VK->Prop)(te:TE)(tl th:TO):TE:=λσ H Q=>te σ H λx H1=>tl σ H1 λl H2=>th σ H2 λu H3=>r x l u H3 Q
theorem F4(hr:SlR X r)(he:PE X e te)(hl:PO X lo tl)(hu:PO X hi th):PE X (.Subscript e (.Slice lo hi none p2) pos) (tSl r te tl th):=by
 intro pins s σ H Q I h;refine Subscript_ (thn (he pins s σ H _ I h) λv s1 hz=>?_);obtain⟨x,H1,I1,r1,q1⟩:=hz;refine wpAny_Slice (thn (hl pins s1 σ H1 _ I1 q1) λvl s2 ⟨l,H2,I2,pl,q2⟩=>thn (hu pins s2 σ H2 _ I2 q2) λvu s3 hz=>?_);obtain⟨u,H3,I3,pu,q3⟩:=hz;rw[evalPart_none];refine z8 ?_;have I4:Inv X pins σ H3 { s3 with heap:=s3.heap.push { cls:=.type "slice",data:=.fields #[vl,vu,.none] } }:=I3.kept (t':=s3.toks) λb ob q=>zz _ q;obtain⟨T,id,hT,ht,hg⟩:=hr pins { s3 with heap:=s3.heap.push { cls:=.type "slice",data:=.fields #[vl,vu,.none] } } σ H3 x v vl vu l u s3.heap.objs.size Q I4 r1 (Heap.IsSliceOf.new ..) pl pu q3
 show wpAny (model X.prog X.w) X.A (subscriptTail e (.Slice lo hi none p2) v (.ref s3.heap.objs.size)) (EP X pins σ Q) X.xe { s3 with heap:=s3.heap.push { cls:=.type "slice",data:=.fields #[vl,vu,.none] } }
 exact tail_any (ops:=[.ref s3.heap.objs.size,v]) ht hT hg (by with_unfolding_all rfl)
def A8(xs:List V)(lo hi:Option Int):List V:=(xs.drop (HT.sIx xs.length 0 lo)).take (HT.sIx xs.length xs.length hi-HT.sIx xs.length 0 lo)
theorem qI(xs:List V)(lo hi:Option Int):(A8 xs lo hi).length<=xs.length:=by
 unfold A8;rw[Sk,List.length_drop];omega
def LR(K:z9):V->Option Int->Option Int->Hp->VK->Prop:=λx lo hi H Q=>∃a xs,x=.ref a/\SqT K H a xs/\
 ¬ (HT.sIx xs.length 0 lo=0/\HT.sIx xs.length xs.length hi=xs.length)/\∀p,H p=none->Q (.ref p) (upd H p (.tup (A8 xs lo hi)))
theorem JV:SlR X (LR X.K):=by
 intro pins s σ H x v vl vu lo hi sl Q I rx hs pl pu h;obtain⟨a,xs,rfl,hx,hw,q⟩:=h;cases rx
 obtain⟨its,r,ht,hz⟩:=I.tuple hx;have hlen:its.toArray.size=xs.length:=by rw[OV];exact r.length.symm
 refine⟨"tuple",_,PZ.lookup,ht.typeIs,?_⟩;refine HT.getItem_tuple_cut ht hs pl pu (by rw[hlen];exact hw) ?_ (by rw[hlen];exact hz);rw[hlen];refine⟨.ref s.heap.objs.size,_,I.laid (t':=s.toks) (o:=.tup (A8 xs lo hi)) (λb ob q=>zz _ q) (OO _) ?_,rfl,q _ (I.hok.fresh (OO _))⟩;exact⟨PD (qI xs lo hi) hz,_,(r.drop (HT.sIx xs.length 0 lo)).take (HT.sIx xs.length xs.length hi-HT.sIx xs.length 0 lo),nO.new _ _⟩
def J'(K:z9):R2:=λx y H Q=>∃a b xs ys,x=.ref a/\y=.ref b/\SqT K H a xs/\SqT K H b ys/\xs≠[]/\xs.length+ys.length<=OR/\
 (ys=[]->Q (.ref a) H)/\(ys≠[]->∀p,H p=none->Q (.ref p) (upd H p (.tup (xs++ys))))
theorem aI.nil_iff{xs:List V}(r:aI xs us):us=[]↔xs=[]:=by
 cases r with
 |nil=>simp
 |cons _ _=>simp
theorem Hv:OpR X (Qe .Add) (J' X.K):=by
 intro pins s σ H x y v u Q I rx ry h;obtain⟨a,b,xs,ys,rfl,rfl,ha,hb,hx,hz,q1,q2⟩:=h;cases rx
 cases ry
 obtain⟨its,r1,p1,_⟩:=I.tuple ha;obtain⟨gf,r2,p2,_⟩:=I.tuple hb;refine HT.cat_tup p1 p2 (λz=>hx (r1.nil_iff.mp z)) (λz=>⟨.ref a,H,I,rfl,q1 (r2.nil_iff.mp z)⟩) (λz=>?_) (by rw[<-r1.length,<-r2.length];exact hz);refine⟨.ref s.heap.objs.size,_,I.laid (t':=s.toks) (o:=.tup (xs++ys)) (λb ob q=>zz _ q) (OO _) ?_,rfl,q2 (λw=>z (r2.nil_iff.mpr w)) _ (I.hok.fresh (OO _))⟩;exact⟨by rw[Pf];exact hz,_,r1.append r2,nO.new _ _⟩
end
def ixN(n:Nat)(i:Int):Option Nat:=if 0<=i then(if i<n then some i.toNat else none) else if -(n:Int)<=i then some (i+n).toNat else none
def atI{α:Type}(xs:List α)(i:Int):Option α:=(ixN xs.length i).bind λj=>xs[j]?
variable{j n:Nat}
theorem CD{i:Int}(h:ixN n i=some j):seqIndex? i n=some j/\j<n/\-(n:Int)<=i/\i<n:=by
 unfold ixN at h
 by_cases h0:0<=i
 ·rw[if_pos h0]at h
  by_cases h1:i<n
  ·rw[if_pos h1]at h;have e:i.toNat=j:=Pv h;exact⟨by rw[seqIndex_of h0 h1,e],by omega,by omega,h1⟩
  ·rw[if_neg h1]at h;cases h
 ·rw[if_neg h0]at h
  by_cases h1:-(n:Int)<=i
  ·rw[if_pos h1]at h;have e:(i+n).toNat=j:=Pv h;exact⟨by rw[seqIndex_neg (by omega) h1,e],by omega,h1,by omega⟩
  ·rw[if_neg h1]at h;cases h
theorem xQ{α:Type}{xs:List α}{i:Int}{v:α}(h:atI xs i=some v):∃j,seqIndex? i xs.length=some j/\xs[j]?=some v/\j<xs.length/\-(xs.length:Int)<=i/\i<xs.length:=by
 unfold atI at h;cases e:ixN xs.length i with
 |none=>rw[e]at h;cases h
 |some j=>
  rw[e]at h;obtain⟨h1,h2,h3,h4⟩:=CD e;exact⟨j,h1,h,h2,h3,h4⟩
def CF(b:Expr):Prop:=∀o i,subscripted b false o i=operate [o,i] (getItem o i)
def IxR(X:Cx)(r:R2):Prop:=
 ∀(value slice:Expr)(pins:List (Addr×Obj))(s:Shared)(σ:St)(H:Hp)(x y:V)(v u:Value)(Q:VK),Inv X pins σ H s->RelV x v->RelV y u->r x y H Q->
  subscripted slice false v u=operate [v,u] (getItem v u)->wpAny (model X.prog X.w) X.A (subscriptTail value slice v u) (EP X pins σ Q) X.xe s
def MtR(X:Cx)(id:String)(r:V->List V->Hp->VK->Prop):Prop:=
 ∀(pins:List (Addr×Obj))(s:Shared)(σ:St)(H:Hp)(x:V)(xs:List V)(v:Value)(us:List Value)(Q:VK),Inv X pins σ H s->RelV x v->aI xs us->r x xs H Q->
  wpAny (model X.prog X.w) X.A (call (.builtin id) (v::us)) (EP X pins σ Q) X.xe s
variable{b:Expr}{ta tb:TE}{H:Hp}{its its':List Value}{pins:List (Addr×Obj)}{s:Shared}{A:Around}{u:Value}{y:V}{T:String}{ab apos:Pos}{es:List Expr}{name:Str}
section
variable{a:Expr}
theorem IxR.or{r r':R2}(h:IxR X r)(h':IxR X r'):IxR X (λx y H Q=>r x y H Q\/r' x y H Q):=by
 intro value slice pins s σ H x y v u Q I rx ry q hs;rcases q with q|q
 ·exact h value slice pins s σ H x y v u Q I rx ry q hs
 ·exact h' value slice pins s σ H x y v u Q I rx ry q hs
theorem LS{r:R2}(hr:IxR X r)(ha:PE X a ta)(hb:PE X b tb)(hs:CF b):PE X (.Subscript a b pos) (tOp r ta tb):=by
 intro pins s σ H Q I h;exact Subscript_ (JI ha hb I h λv u s2 x y H2 I2 rx ry q=>hr a b pins s2 σ H2 x y v u Q I2 rx ry q (hs _ _))
def NY(K:z9):R2:=λx y H Q=>∃p xs i v,x=.ref p/\y=.int i/\SqL K H p xs/\atI xs i=some v/\Q v H
def NZ(K:z9):R2:=λx y H Q=>∃p xs i v,x=.ref p/\y=.int i/\SqT K H p xs/\atI xs i=some v/\Q v H
def O0:R2:=λx y H Q=>∃z i c,x=.str z/\y=.int i/\z.length<=OR/\atI z.cps.toList i=some c/\Q (.str ⟨#[c]⟩) H
theorem Hw:IxR X (NY X.K):=by
 intro value slice pins s σ H x y v u Q I rx ry h hs;obtain⟨p,xs,i,z,rfl,rfl,hq,he,q⟩:=h;cases rx
 obtain⟨t,rfl⟩:=ry;obtain⟨its,r,pl,hz⟩:=I.list hq;obtain⟨j,h1,h2,h3,h4,h5⟩:=xQ he;obtain⟨w,ew,ay⟩:=r.get h2;have hl:=r.length;have hn:=mM;have fin:EP X pins σ Q w s:=⟨z,H,I,ay,q⟩
 by_cases h0:0<=i
 ·have hj:i.toNat=j:=by
   rw[seqIndex_of h0 h5]at h1;exact Pv h1
  exact item_listR pl.isList h0 (by omega) (by rw[hj];simpa using ew) fin hs
 ·have hj:(i+(its.toArray.size:Int)).toNat=j:=by
   rw[seqIndex_neg (by omega) h4]at h1;rw[OV,<-hl];exact Pv h1
  exact subscriptTail_builtinR (x:=w) pl.isList.typeIs slot_list_getitem.lookup
   (wpAny_getItem_list_neg (Q:=λr s'=>r=w/\EP X pins σ Q r s') pl.isList (by omega) (by rw[OV] <;> omega) (by omega) (by rw[hj];simpa using ew) ⟨rfl,fin⟩) hs
theorem JW:IxR X (NZ X.K):=by
 intro value slice pins s σ H x y v u Q I rx ry h hs;obtain⟨p,xs,i,z,rfl,rfl,hq,he,q⟩:=h;cases rx
 obtain⟨t,rfl⟩:=ry;obtain⟨its,r,pl,hz⟩:=I.tuple hq;obtain⟨j,h1,h2,h3,h4,h5⟩:=xQ he;obtain⟨w,ew,ay⟩:=r.get h2;have hl:=r.length;have hn:=mM;have fin:EP X pins σ Q w s:=⟨z,H,I,ay,q⟩;exact subscriptTail_builtinR (x:=w) pl.typeIs slot_tuple_getitem.lookup
  (getItem_tuple (j:=j) (Q:=λr s'=>r=w/\EP X pins σ Q r s') pl (by omega) (by omega) (by rw[OV,<-hl];exact h1) (by simpa using ew) ⟨rfl,fin⟩) hs
theorem JX:IxR X O0:=by
 intro value slice pins s σ H x y v u Q I rx ry h hs;obtain⟨z,i,c,rfl,rfl,hz,he,q⟩:=h;obtain⟨t,rfl⟩:=rx;obtain⟨t',rfl⟩:=ry;obtain⟨j,h1,h2,h3,h4,h5⟩:=xQ he;have hl:z.cps.toList.length=z.length:=by simp[Str.length]
 rw[hl]at h1 h4 h5;have hn:=mM;exact tail_any (P8 s z t) slot_str_getitem.lookup (getItem_str (c:=c) (by
  have e1:decide (i < -(2 ^ 63:Int))=false:=decide_eq_false (by omega);have e2:decide (i >= 2 ^ 63)=false:=decide_eq_false (by omega);rw[e1,e2,Bool.or_false]) (by rw[h1];simpa using h2) ⟨.str ⟨#[c]⟩,H,I.tok _,⟨_,rfl⟩,q⟩) hs
theorem BD(its:List Value)(n j:Nat)(u:Value):Qk (·.setIfInBounds j u) { cls:=.type "list",data:=.seq its.toArray n }={ cls:=.type "list",data:=.seq (its.set j u).toArray n }:=by
 simp[Qk]
theorem Inv.lst{pins:List (Addr×Obj)}{σ:St}{H:Hp}{s:Shared}{p:Addr}{xs:List V}(I:Inv X pins σ H s)(h:H p=some (.lst xs)):
  ∃(its:List Value)(n:Nat),aI xs its/\s.heap.get? p=some { cls:=.type "list",data:=.seq its.toArray n }/\xs.length<=OR:=by
 obtain⟨z,its,n,r,e⟩:=I.hok p _ h;exact⟨its,n,r,e,z⟩
theorem Inv.lstUpd{σ:St}{p:Addr}{xs ys:List V}{n':Nat}{f:Obj->Obj}(I:Inv X pins σ H s)(h:H p=some (.lst xs))(ho:s.heap.get? p=some { cls:=.type "list",data:=.seq its.toArray n })(hf:f { cls:=.type "list",data:=.seq its.toArray n }={ cls:=.type "list",data:=.seq its'.toArray n' })(r:aI ys its')(hz:ys.length<=OR)(t:Nat):
  Inv X pins σ (upd H p (.lst ys)) { s with heap:=s.heap.update p f,toks:=t }:=by
 have e:(s.heap.update p f).get? p=some { cls:=.type "list",data:=.seq its'.toArray n' }:=by
  rw[QQ f ho (by rw[hf] <;> rfl),hf]
 refine I.write (x:=p) (e:=p) (by rw[h];trivial) (.inl rfl) (λb u hb q=>(Ql _ _ (Sn hb)).trans q) ⟨_,e⟩ ?_;exact⟨hz,its',n',r,e⟩
def LU:V->V->V->Hp->(Hp->Prop)->Prop:=λo i v H Q=>∃p xs k j,o=.ref p/\i=.int k/\H p=some (.lst xs)/\ixN xs.length k=some j/\Q (upd H p (.lst (xs.set j v)))
theorem set_list:NP X LU:=by
 intro pins s σ H o i v ov iv u Q I ro ri rv h;obtain⟨p,xs,k,j,rfl,rfl,hp,hj,q⟩:=h;cases ro
 obtain⟨t,rfl⟩:=ri;obtain⟨its,n,r,ho,hz⟩:=I.lst hp;obtain⟨h1,h2,h3,h4⟩:=CD hj;have hl:=r.length;have hn:=mM;have I':Inv X pins σ (upd H p (.lst (xs.set j v))) { s with heap:=s.heap.update p (Qk (·.setIfInBounds j u)) }:=
  I.lstUpd hp ho (BD its n j u) (r.set rv j) (by rw[Sy];exact hz) s.toks
 by_cases h0:0<=k
 ·have hk:k.toNat=j:=by
   rw[seqIndex_of h0 h4]at h1;exact Pv h1
  exact PySem.W.ki_setAt ho h0 (by omega) (by rw[OV,<-hl];exact h4) (by rw[hk];exact⟨_,I',q⟩)
 ·have hk:(k+(its.toArray.size:Int)).toNat=j:=by
   rw[seqIndex_neg (by omega) h3]at h1;rw[OV,<-hl];exact Pv h1
  exact PySem.W.ki_setBack ho (by omega) (by rw[OV,<-hl];exact h3) (by omega) (by rw[hk];exact⟨_,I',q⟩)
theorem xR(lo hi:Option Int)(n:Nat):(sliceBounds lo hi none n).1=((HT.sIx n 0 lo:Nat):Int)/\(sliceBounds lo hi none n).2.1=((HT.sIx n n hi:Nat):Int)/\(sliceBounds lo hi none n).2.2=1:=by
 refine⟨?_,?_,rfl⟩
 ·cases lo with
  |none=>simp[sliceBounds,HT.sIx]
  |some i=>
   simp only[sliceBounds,HT.sIx,Option.getD_none,show(1:Int)>0 by decide,if_true]
   by_cases h:i<0
   ·simp only[h,if_true] <;> omega
   ·simp only[h,if_false] <;> omega
 ·cases hi with
  |none=>simp[sliceBounds,HT.sIx]
  |some i=>
   simp only[sliceBounds,HT.sIx,Option.getD_none,show(1:Int)>0 by decide,if_true]
   by_cases h:i<0
   ·simp only[h,if_true] <;> omega
   ·simp only[h,if_false] <;> omega
theorem uL(its:List Value)(lo hi:Option Int):slicePick its.toArray lo hi none=((its.drop (HT.sIx its.length 0 lo)).take (HT.sIx its.length its.length hi-HT.sIx its.length 0 lo)).toArray:=by
 obtain⟨h1,h2,h3⟩:=xR lo hi its.toArray.size;unfold slicePick;rw[h1,h2,h3];simp only[sliceRange_one,pick_run,OV] <;> rfl
def LV(K:z9):V->Option Int->Option Int->Hp->VK->Prop:=λx lo hi H Q=>∃a xs,x=.ref a/\SqL K H a xs/\∀p,H p=none->Q (.ref p) (upd H p (.lst (A8 xs lo hi)))
theorem Hx:SlR X (LV X.K):=by
 intro pins s σ H x v vl vu lo hi sl Q I rx hs pl pu h;obtain⟨a,xs,rfl,hx,q⟩:=h;cases rx
 obtain⟨its,r,ht,hz⟩:=I.list hx;have hlen:=r.length;refine⟨"list",_,slot_list_getitem.lookup,ht.isList.typeIs,?_⟩;refine wpAny_getItem_list_slice ht.isList hs pl pu .none (by simp) ?_ (by rw[OV] <;> omega);rw[uL,<-hlen];refine⟨.ref s.heap.objs.size,_,I.laid (t':=s.toks) (o:=.lst (A8 xs lo hi)) (λb ob q=>zz _ q) (OO _) ?_,rfl,q _ (I.hok.fresh (OO _))⟩;exact⟨PD (qI xs lo hi) hz,_,0,(r.drop (HT.sIx xs.length 0 lo)).take (HT.sIx xs.length xs.length hi-HT.sIx xs.length 0 lo),OQ _ rfl⟩
def qJ:V->Bool
 |.non=>true
 |.bl _=>true
 |.int _=>true
 |.str _=>true
 |_=>false
def eqV:V->V->Bool
 |.non,.non=>true
 |.bl a,.bl b=>a == b
 |.bl a,.int b=>(if a then 1 else 0) == b
 |.int a,.bl b=>a == (if b then 1 else 0)
 |.int a,.int b=>a == b
 |.str a,.str b=>a == b
 |_,_=>false
theorem JY{x:V}{v:Value}(ry:RelV y u)(rx:RelV x v)(fy:qJ y=true)(fx:qJ x=true):SeqAt.EqAt A s u v (eqV y x):=by
 cases y with
 |non=>
  cases ry
  cases x with
  |non=>cases rx;exact SeqAt.EqAt.same _
  |bl b=>cases rx;exact SeqAt.EqAt.none_bool b
  |int b=>obtain⟨t,rfl⟩:=rx;exact SeqAt.EqAt.none_int b t
  |str b=>obtain⟨t,rfl⟩:=rx;exact SeqAt.EqAt.none_str b t
  |_=>exact absurd (show false=true from fx) Pc
 |bl a=>
  cases ry
  cases x with
  |non=>cases rx;exact SeqAt.EqAt.bool_none a
  |bl b=>cases rx;exact SeqAt.EqAt.bool_bool a b
  |int b=>obtain⟨t,rfl⟩:=rx;exact SeqAt.EqAt.bool_int a b t
  |str b=>obtain⟨t,rfl⟩:=rx;exact SeqAt.EqAt.bool_str a b t
  |_=>exact absurd (show false=true from fx) Pc
 |int a=>
  obtain⟨t',rfl⟩:=ry;cases x with
  |non=>cases rx;exact SeqAt.EqAt.int_none a t'
  |bl b=>cases rx;exact SeqAt.EqAt.int_bool a t' b
  |int b=>obtain⟨t,rfl⟩:=rx;exact SeqAt.EqAt.int_int a t' b t
  |str b=>obtain⟨t,rfl⟩:=rx;exact SeqAt.EqAt.int_str a t' b t
  |_=>exact absurd (show false=true from fx) Pc
 |str a=>
  obtain⟨t',rfl⟩:=ry;cases x with
  |non=>cases rx;exact SeqAt.EqAt.str_none a t'
  |bl b=>cases rx;exact SeqAt.EqAt.str_bool a t' b
  |int b=>obtain⟨t,rfl⟩:=rx;exact SeqAt.EqAt.str_int a t' b t
  |str b=>obtain⟨t,rfl⟩:=rx;exact SeqAt.EqAt.str_str a t' b t
  |_=>exact absurd (show false=true from fx) Pc
 |_=>exact absurd (show false=true from fy) Pc
def eqU(x:V)(u:Value):Bool:=match u with
 |.none=>eqV .non x
 |.bool b=>eqV (.bl b) x
 |.int i _=>eqV (.int i) x
 |.str z _=>eqV (.str z) x
 |_=>false
theorem F5{x:V}(r:RelV y u)(f:qJ y=true):eqU x u=eqV y x:=by
 cases y with
 |non=>cases r;rfl
 |bl b=>cases r;rfl
 |int i=>obtain⟨t,rfl⟩:=r;rfl
 |str z=>obtain⟨t,rfl⟩:=r;rfl
 |_=>exact absurd (show false=true from f) Pc
theorem nR{x:V}:∀{xs:List V}{us:List Value},aI xs us->xs.all qJ=true->us.any (eqU x)=xs.any λy=>eqV y x
 |_,_,.nil,_=>rfl
 |y::xs,u::us,.cons r t,f=>by
  rw[Ra,Pj]at f;rw[Rx,Rx,F5 r f.1,nR t f.2]
theorem kB{A:Around}{s:Shared}{x:V}{v:Value}(rx:RelV x v)(fx:qJ x=true):∀{xs:List V}{us:List Value},aI xs us->xs.all qJ=true->∀u∈us,SeqAt.EqAt A s u v (eqU x u)
 |_,_,.nil,_=>λu hu=>by cases hu
 |y::xs,u::us,.cons r t,f=>λu' hu=>by
  rw[Ra,Pj]at f;rcases KP.mp hu with rfl|hu
  ·rw[F5 r f.1];exact JY r rx f.1 fx
  ·exact kB rx fx t f.2 u' hu
def inV(x:V)(xs:List V):Bool:=xs.any λy=>eqV y x
def rIn(K:z9)(neg:Bool):R2:=λx y H Q=>∃p xs,y=.ref p/\(SqL K H p xs\/SqT K H p xs)/\qJ x=true/\xs.all qJ=true/\Q (.bl (if neg then !inV x xs else inV x xs)) H
theorem DJ:OpR X (Pn .In) (rIn X.K false):=by
 intro pins s σ H x y v u Q I rx ry h;obtain⟨p,xs,rfl,hq,fx,fs,q⟩:=h;cases ry
 rcases hq with hq|hq
 ·obtain⟨its,r,pl,hz⟩:=I.list hq;refine SeqAt.in_listAt (eqU x) pl.isList (λw hw=>kB rx fx r fs w (by simpa using hw)) ⟨.bl _,H,I,rfl,?_⟩
  rw[show its.toArray.any (eqU x)=its.any (eqU x) by simp,nR r fs];exact q
 ·obtain⟨its,r,pl,hz⟩:=I.tuple hq;refine SeqAt.in_tupleAt (eqU x) pl (λw hw=>kB rx fx r fs w (by simpa using hw)) ⟨.bl _,H,I,rfl,?_⟩
  rw[show its.toArray.any (eqU x)=its.any (eqU x) by simp,nR r fs];exact q
theorem xS:OpR X (Pn .NotIn) (rIn X.K true):=by
 intro pins s σ H x y v u Q I rx ry h;obtain⟨p,xs,rfl,hq,fx,fs,q⟩:=h;cases ry
 rcases hq with hq|hq
 ·obtain⟨its,r,pl,hz⟩:=I.list hq;refine SeqAt.notIn_listAt (eqU x) pl.isList (λw hw=>kB rx fx r fs w (by simpa using hw)) ⟨.bl _,H,I,rfl,?_⟩
  rw[show its.toArray.any (eqU x)=its.any (eqU x) by simp,nR r fs];exact q
 ·obtain⟨its,r,pl,hz⟩:=I.tuple hq;refine SeqAt.notIn_tupleAt (eqU x) pl (λw hw=>kB rx fx r fs w (by simpa using hw)) ⟨.bl _,H,I,rfl,?_⟩
  rw[show its.toArray.any (eqU x)=its.any (eqU x) by simp,nR r fs];exact q
theorem xT:cG X (.builtin "len") (λxs H Q=>∃p ys,xs=[.ref p]/\(SqL X.K H p ys\/SqT X.K H p ys)/\Q (.int ys.length) H):=by
 intro pins s σ H xs us Q I r h;obtain⟨p,ys,rfl,hq,q⟩:=h;obtain⟨u,rfl,rx⟩:=vals1 r;cases rx
 have hn:=mM;rcases hq with hq|hq
 ·obtain⟨its,r',pl,hz⟩:=I.list hq;have hlen:=r'.length;exact Calls.call_len_list pl.isList (by simp only[OV] <;> omega) ⟨.int ys.length,H,I.tok _,⟨s.toks+1,by rw[OV,hlen]⟩,q⟩
 ·obtain⟨its,r',pl,hz⟩:=I.tuple hq;have hlen:=r'.length;exact len_tuple pl (by simp only[OV] <;> omega) ⟨.int ys.length,H,I.tok _,⟨s.toks+1,by rw[OV,hlen]⟩,q⟩
theorem cG.or{f:Value}{r r':List V->Hp->VK->Prop}(h:cG X f r)(h':cG X f r'):cG X f (λxs H Q=>r xs H Q\/r' xs H Q):=by
 intro pins s σ H xs us Q I rs q;rcases q with q|q
 ·exact h pins s σ H xs us Q I rs q
 ·exact h' pins s σ H xs us Q I rs q
theorem uM:cG X (.type "tuple") (λxs H Q=>∃p ys,xs=[.ref p]/\((SqL X.K H p ys/\∀l,H l=none->Q (.ref l) (upd H l (.tup ys)))\/(SqT X.K H p ys/\Q (.ref p) H))):=by
 intro pins s σ H xs us Q I r h;obtain⟨p,ys,rfl,h⟩:=h;obtain⟨u,rfl,rx⟩:=vals1 r;cases rx
 rcases h with⟨hq,q⟩|⟨hq,q⟩
 ·obtain⟨its,r',pl,hz⟩:=I.list hq;have hlen:=r'.length;refine call_tuple_list pl.isList (λh' kp=>?_) (by simp only[OV] <;> omega);have I1:Inv X pins σ H { s with heap:=h' }:=I.kept (t':=s.toks) kp;have I2:Inv X pins σ (upd H h'.objs.size (.tup ys)) { s with heap:=h'.push { cls:=.type "tuple",data:=.seq its.toArray } }:=
   I1.laid (t':=s.toks) (λb o e=>zz _ e) (OO _) (show bS X.prog X.w _ _ _ (.tup ys) from⟨hz,its,r',nO.new _ _⟩)
  exact⟨.ref h'.objs.size,_,I2,rfl,q _ (I1.hok.fresh (OO _))⟩
 ·obtain⟨its,r',pl,hz⟩:=I.tuple hq;exact call_tuple_same pl ⟨.ref p,H,I,rfl,q⟩
def tyV(K:z9)(T:String)(x:V)(H:Hp):Prop:=match x with
 |.str _=>T="str"
 |.int _=>T="int"
 | .ref p=>(T="list" /\ ∃ xs,SqL K H p xs)\/(T="tuple" /\ ∃ o,K.lookup p=some o/\o.cls=.type "tuple" /\ o.dict=none)\/
   (T="dict" /\ ((∃kvs,H p=some (.dK kvs))\/∃kvs,H p=some (.dT kvs)))\/(T="set" /\ ∃S n,H p=some (.set S n))
 |_=>False
theorem JZ{σ:St}{x:V}{v:Value}(I:Inv X pins σ H s)(r:RelV x v)(ty:tyV X.K T x H):
  s.TypeIs v T/\∀a,v=.ref a->∃ob,s.heap.get? a=some ob/\ob.dict=none:=by
 cases x with
 |str z=>
  obtain⟨t,rfl⟩:=r;cases(show T="str" from ty)
  exact⟨P8 s z t,λ_ e=>nomatch e⟩
 |int i=>
  obtain⟨t,rfl⟩:=r;cases(show T="int" from ty)
  exact⟨typeIs_int s i t,λ_ e=>nomatch e⟩
 |ref p=>
  cases r
  rcases ty with⟨rfl,xs,hq⟩|⟨rfl,o,hk,hc,hd⟩|⟨rfl,hk⟩|⟨rfl,S,n,hk⟩
  ·obtain⟨its,_,pl,_⟩:=I.list hq;refine⟨pl.isList.typeIs,λa e=>?_⟩;cases e
   obtain⟨o,n,e,c,hd,_⟩:=pl;exact⟨o,e,hd⟩
  ·refine⟨⟨o,I.kIn p o hk,hc⟩,λa e=>?_⟩;cases e
   exact⟨o,I.kIn _ o hk,hd⟩
  ·have z:∃o,s.heap.get? p=some o/\o.ExactDict:=by
    rcases hk with⟨kvs,hk⟩|⟨kvs,hk⟩
    ·obtain⟨_,_,_,_,o,_,_,e,ex,_⟩:=I.hok p _ hk;exact⟨o,e,ex⟩
    ·obtain⟨_,_,_,_,o,_,_,e,ex,_⟩:=I.hok p _ hk;exact⟨o,e,ex⟩
   obtain⟨o,e,ex⟩:=z;refine⟨⟨o,e,ex.1⟩,λa e2=>?_⟩;cases e2
   exact⟨o,e,ex.2.1⟩
  ·obtain⟨o,_,_,_,e,ex,_⟩:=I.hok p _ hk;refine⟨⟨o,e,ex.1⟩,λa e2=>?_⟩;cases e2
   exact⟨o,e,ex.2.1⟩
 |_=>exact R3 ty
def tBM(K:z9)(T:String)(r:V->List V->Hp->VK->Prop)(to:TE)(t:TA):TE:=λσ H Q=>to σ H λx H1=>tyV K T x H1/\t σ H1 λxs H2=>r x xs H2 Q
variable{o:Expr}{to:TE}{t:TA}{id:String}{r:V->List V->Hp->VK->Prop}
theorem LW(pa:PlainAttrs T)(slot:Slot T name id)(jz:typeOf (.builtin id)=pure (.type "method_descriptor"))(hm:MtR X id r)(ho:PE X o to)(ha:PA X (e::es) t)
  (ah:R5 o name X.env (eval o X.env)=eval o X.env:=by rfl)
  (bq:((backTo ab (Pe (e::es) X.env)).all (λx=>!x.1)&&(backToKw ab (keywordEach [] X.env)).all (λx=>x.1.isSome)
   && decide ((e::es).length+([]:List Keyword).length+(if([]:List Keyword).isEmpty then 0 else 1)<30))=true:=by rfl)
  (ai:(apos.endLine == ab.line)=true:=by rfl) (hs:Pe (e::es) X.env=(false,eval e X.env)::Pe es X.env:=by rfl) (bh:(backTo ab (Pe es X.env)).any (·.1)=false:=by rfl):
  PE X (.Call (.Attribute o name apos) (e::es) [] ab) (tBM X.K T r to t):=by
 intro pins s σ H Q I h;refine wpAny_Call_method_late ah bq ai rfl (thn (ho pins s σ H _ I h) λv s1 hz=>?_);obtain⟨x,H1,I1,r1,ty,q1⟩:=hz;obtain⟨h1,h2⟩:=JZ I1 r1 ty;refine⟨T,id,pa,slot,jz,h1,h2,?_⟩;have hA:=ha ab pins s1 σ H1 _ I1 q1;rw[hs]at hA⊢;refine Qm (by show(false || (backTo ab (Pe es X.env)).any (·.1))=false;rw[bh] <;> rfl) (QW ?_);exact thn hA λus s2 ⟨vs,H2,I2,r2,q2⟩=>hm pins s2 σ H2 x vs v us Q I2 r1 r2 q2
end
def MtM(X:Cx)(id:String)(r:V->List V->Hp->VK->Prop):Prop:=
 ∀(pins:List (Addr×Obj))(s:Shared)(σ:St)(H:Hp)(x:V)(xs:List V)(v:Value)(us:List Value)(Q:VK),Inv X pins σ H s->RelV x v->aI xs us->r x xs H Q->
  wpAny (model X.prog X.w) X.A (call (.builtin id) (v::us)) (EP X pins σ Q) X.xe s
theorem aI.one:∀{x:V}{us:List Value},aI [x] us->∃u,us=[u]/\RelV x u
 |_,_,.cons r .nil=>⟨_,rfl,r⟩
variable{l:Addr}{t':Nat}
section
variable{σ:St}{b:Addr}{xs ys zs:List V}
theorem Inv.lset{f:Array Value->Array Value}(I:Inv X pins σ H s)(hH:H l=some (.lst xs))(e:s.heap.get? l=some { cls:=.type "list",data:=.seq its.toArray n })(hf:f its.toArray=its'.toArray)(hv:aI ys its')(hz:ys.length<=OR):
  Inv X pins σ (upd H l (.lst ys)) { s with heap:=s.heap.update l (Qk f),toks:=t' }:=by
 have q:=PySem.IsL.update e f;rw[hf]at q;refine I.write (x:=l) (e:=l) (by rw[hH];exact trivial) (.inl rfl) (λb' u hb hu=>(Ql s.heap (Qk f) (Sn hb)).trans hu) ⟨_,q⟩ ?_;exact⟨hz,its',_,hv,q⟩
theorem Inv.lnew(I:Inv X pins σ H s)(hv:aI ys its)(hz:ys.length<=OR):
  Inv X pins σ (upd H s.heap.objs.size (.lst ys)) { s with heap:=s.heap.push { cls:=.type "list",data:=.seq its.toArray },toks:=t' }:=
 I.laid (λ_ _ q=>zz _ q) (OO _) ⟨hz,its,0,hv,OQ _ rfl⟩
theorem Inv.fresh(I:Inv X pins σ H s):H s.heap.objs.size=none:=I.hok.fresh (OO _)
theorem Inv.lstM(I:Inv X pins σ H s)(hH:H l=some (.lst xs)):xs.length<=OR/\∃(its:List Value)(n:Nat),aI xs its/\xs.length=its.length/\s.heap.get? l=some { cls:=.type "list",data:=.seq its.toArray n }:=by
 obtain⟨z,its,n,r,e⟩:=I.hok l _ hH;exact⟨z,its,n,r,r.length,e⟩
end
def CG:V->List V->Hp->VK->Prop:=λx vs H Q=>∃l xs y,x=.ref l/\vs=[y]/\H l=some (.lst xs)/\xs.length<OR/\Q .non (upd H l (.lst (xs++[y])))
theorem vQ:MtM X "list.append" CG:=by
 intro pins s σ H x vs v us Q I rx rv h;obtain⟨l,xs,y,rfl,rfl,hH,hz,q⟩:=h;cases rx
 obtain⟨u,rfl,ru⟩:=rv.one;obtain⟨z,its,n,r,hl,e⟩:=I.lstM hH;refine R6 F.slot_list_append ⟨_,e,rfl⟩ F.entry_list_append (F.args_list_append_2 _ _) (PySem.list_append l its.toArray n u (by rw[OV];omega)) ⟨e,?_⟩;refine⟨.non,_,I.lset (its':=its++[u]) hH e (by simp) (r.append (.cons ru .nil)) ?_,rfl,q⟩;rw[Pf,List.length_singleton];omega
def LX:R2:=λx y H Q=>∃l b xs zs,x=.ref l/\y=.ref b/\H l=some (.lst xs)/\H b=some (.lst zs)/\xs.length+zs.length<=OR/\∀p,H p=none->Q (.ref p) (upd H p (.lst (xs++zs)))
theorem K0:OpR X (Qe .Add) LX:=by
 intro pins s σ H x y v u Q I rx ry h;obtain⟨l,b,xs,zs,rfl,rfl,hH,hB,hz,q⟩:=h;cases rx
 cases ry
 obtain⟨z,its,n,r,hl,e⟩:=I.lstM hH;obtain⟨z2,gf,n2,r2,fj,e2⟩:=I.lstM hB;refine PySem.P.add_list e e2 ?_ (by rw[OV,OV];omega);have ea:its.toArray++gf.toArray=(its++gf).toArray:=by simp
 rw[ea];exact⟨.ref _,_,I.lnew (t':=s.toks) (r.append r2) (by rw[Pf];omega),rfl,q _ I.fresh⟩
end L2
namespace Att
open PySem PySem.W PySem.Calls PyProof.Rows
variable{P:Params}{h:Heap}
theorem qX:∀(ns:List Int)(vs:List Value),WellAll P h vs (ns.map WData.int)->IntsAre vs ns:=by
 intro ns
 induction ns with
 |nil=>
  intro vs w;rw[List.map_nil]at w;cases w
  exact .nil
 |cons n ns ih=>
  intro vs w;rw[Pa]at w;cases w with
  |cons a b=>
   cases a
   exact .cons _ _ (ih _ b)
variable{args:List WData}{l:OpenLaw}{n:Nat}{vals:List Value}
theorem script_of(hn:l.most=some n)(gw:l.row.toRowW.claim.pre args=true)(ui:WellAll P h vals args):
  ∃a vs ns,vals=[Py a]/\args=[WData.list (ns.map WData.int)]/\h.get? a=some { cls:=.type "list",data:=.seq vs.toArray }/\IntsAre vs ns/\ns.length<=n:=by
 have hsh:WShape.hasAll [] args [.list .int]=true:=(pre_splitW gw).1;have hc:l.pre.holds [] { args:=args }=true:=(pre_splitW gw).2;obtain⟨d,r,rfl,h1,h2⟩:=hasAllW_cons hsh;obtain rfl:=hasAllW_nil h2;obtain⟨xs,rfl,h3⟩:=hasW_list h1;obtain⟨ns,rfl⟩:=items_int h3;have hlen:ns.length<=n:=by
  unfold OpenLaw.pre at hc;have h4:(WTm.not (.lt (.lit (.int (n:Int))) (.len (.arg 0)))).holds [] { args:=[.list (ns.map .int)] }=true:=by
   have h4:=(holds_andW hc).1;rw[hn]at h4;exact h4
  have h5:=condW_of h4 (w_not (w_lt w_lit (w_len_list (w_arg rfl))));rw[OP]at h5;refine Nat.le_of_not_lt λq=>?_;have q':(n:Int)<((ns.length:Nat):Int):=by omega
  first
   |(rw[decide_eq_true q']at h5;exact absurd h5 (by decide))
   |(simp at h5;omega)
 cases ui with
 |cons w1 w2=>
  cases w2
  cases w1 with
  |list ho hall=>exact⟨_,_,ns,rfl,rfl,ho,qX ns _ hall,hlen⟩
theorem post_true(l:OpenLaw)(args:List WData):l.row.toRowW.claim.post args (.bool true) args=true:=
 postW_of (r:=l.row.toRowW) (X:=(true == true))
  (show WShape.has [] (.bool true) .bool=true by first|rfl|decide|simp[WShape.has,WShape.arms,WShape.armsAll])
  (show(WTm.eq .res (.lit (.bool true))).value [] { args:=args,res:=some (.bool true),after:=args }=some (.bool (true == true)) from w_eq_bool (w_res rfl) w_lit) rfl
end Att
namespace L2
open PySem PySem.Spec PyProof.Rows
theorem vR:∀{vs:List Value}{ns:List Int},IntsAre vs ns->aI (ns.map V.int) vs
 |_,_,.nil=>.nil
 |_,_,.cons n t h=>.cons ⟨t,rfl⟩ (vR h)
def F6(H:Hp):Prop:=∀b,H b=none\/∃o xs,H b=some (.frz o (.lst xs))
variable{CX:CXT}{K:z9}{P:Program}{a:Addr}{fd:Q9}{mg:Str->Option Value}{ns:List Int}{sp:Sp}{s₁:Shared}{w:World}{x:Str}
theorem F7{mb:Str->Option Value}{k:Nat}{fa:Addr}{vs:List Value}(KX:K.In s₁.heap)(wj:s₁.heap.Ns Pq mg)(hb:s₁.heap.Ns builtinsNs mb)(zm:∀x:Str,x≠"__name__" -> mb x=Q7 x)(qp:s₁.heap.NoLimit)(hg:s₁.gens=#[])(ha:s₁.heap.get? a=some { cls:=.type "list",data:=.seq vs.toArray })(hi:IntsAre vs ns)(hl:ns.length<=OR)(hr:iB k callerA)(F:∀base:Heap,K.In base->base.Ns Pq mg->iC P w K mg base CX k fa fd [x] sp)(m6:∀(s:Shared)(u:Value),BindsTo s fd ⟨[u],[]⟩ [(x,u)])(iy:∀H:Hp,F6 H->SqL K H a (ns.map V.int)->sp [.ref a] H (λv _=>v=.bl true) λ_ _ _=>False)(qu:∀H e s',CX [] H s₁ (λ_ _ _=>False) e s'->False):
  codeAny (model P w) callerA (.call (.ref fa) ⟨[.ref a],[]⟩) (λr s'=>r=.ok (.ret (.bool true))/\OldK s₁.heap s'.heap/\s'.os=s₁.os/\AllBare s'.gens) s₁:=by
 have rv:=vR hi;have r9:=hi.length
 -- from an abstract heap in which nothing but the script may be tracked
 have core:∀H:Hp,F6 H->SqL K H a (ns.map V.int)->HOk P w H s₁.heap->(∀b,H b≠none->b=a)->(H a≠none->K.lookup a=none)->
   codeAny (model P w) callerA (.call (.ref fa) ⟨[.ref a],[]⟩) (λr s'=>r=.ok (.ret (.bool true))/\OldK s₁.heap s'.heap/\s'.os=s₁.os/\AllBare s'.gens) s₁:=by
  intro H hO hS hok hA hK;have dg:∀{b:Addr}{o:Obj},s₁.heap.get? b=some o->H b=none->(xM s₁.heap H).get? b=some o:=λe n=>EM e n;have ly:∀{b:Addr}{o:Obj}{es:Array DictEntry}{ep:Nat},s₁.heap.get? b=some o->o.data=.dict es ep->H b=none:=λ{b o es ep} e d=>by
   cases q:H b with
   |none=>rfl
   |some u=>
    have e':b=a:=hA b (by rw[q];simp);subst e';rw[ha]at e;cases e;have d':Data.seq vs.toArray _=Data.dict es ep:=d;cases d'
  have om:∀{b:Addr}{m:Str->Option Value},s₁.heap.Ns b m->(xM s₁.heap H).Ns b m:=λ{b m} ⟨o,es,ep,e,d,r⟩=>⟨o,es,ep,dg e (ly e d),d,r⟩;have u5:K.In (xM s₁.heap H):=λb o e=>dg (KX b o e) (by
   cases q:H b with
   |none=>rfl
   |some u=>
    have e':b=a:=hA b (by rw[q];simp);subst e';rw[hK (by rw[q];simp)]at e;cases e)
  have hM:Mod K mg (xM s₁.heap H):=⟨u5,om wj,⟨mb,om hb,zm⟩,let ⟨mc,h1,h2⟩:=qp;⟨mc,om h1,h2⟩⟩;have e0:Hr P w K mg (xM s₁.heap H) callerA [] s₁ H:=⟨rfl,hM,λb o e=>He e,Nat.le_of_eq (DB _ _),trivial,λb hb=>absurd (show b∈([]:List Addr) from hb) (by simp),hok,.of_eq hg⟩
  refine codeAny_mono ((F _ u5 (om wj)).run callerA [] s₁ H ⟨[.ref a],[]⟩ [.ref a] [.ref a] _ _ hr e0 (m6 s₁ (.ref a)) (.cons rfl .nil) (iy H hO hS)) λr s' h=>?_;cases r with
  |error e=>exact(qu H e s' h).elim
  |ok fl=>
   cases fl with
   |next=>exact R3 h
   |brk=>exact R3 h
   |cont=>exact R3 h
   |ret u=>
    obtain⟨v,H',os,bare,un,o9,r',q⟩:=h;have q':v=.bl true:=q;subst q';obtain rfl:u=Value.bool true:=r';refine⟨rfl,OldK.of_keep λb o e=>?_,os,bare⟩;cases q:H b with
    |none=>exact un.keep b o e q (by intro z;exact absurd (show b∈([]:List Addr) from z) (by simp)) (by simp)
    |some u=>
     rcases hO b with z|⟨ob,xs,z⟩
     ·rw[q]at z;cases z
     ·have z2:=un.frzs b ob _ z;obtain⟨e1,_⟩:=hok b _ z;obtain⟨e2,_⟩:=o9 b _ z2;rw[e]at e1;cases e1;exact e2
 cases hk:K.lookup a with
 |some o=>
  -- the script is one of the module's own objects
  have e:=KX a o hk;rw[ha]at e;cases e
  refine core (λ_=>none) (λ_=>.inl rfl) (.inr ⟨_,vs.toArray,_,hk,rfl,rfl,rfl,by rw[OV,r9];exact hl,by simpa using rv⟩) (λb u z=>by have z':(none:Option HO)=some u:=z;cases z') (λb z=>absurd rfl z) λz=>absurd rfl z
 |none=>
  refine core (λb=>if b=a then some (.frz { cls:=.type "list",data:=.seq vs.toArray } (.lst (ns.map V.int))) else none) (λb=>?_) (.inl (.inr ⟨{ cls:=.type "list",data:=.seq vs.toArray },if_pos rfl⟩)) (λb u z=>?_) (λb z=>?_) λ_=>hk
  ·by_cases hb:b=a
   ·exact .inr ⟨_,_,if_pos hb⟩
   ·exact .inl (if_neg hb)
  ·by_cases hb:b=a
   ·have z':=(if_pos hb).symm.trans z;cases z'
    subst hb;exact⟨ha,by rw[OP];exact hl,vs,_,rv,ha⟩
   ·have z':=(if_neg hb).symm.trans z;cases z'
  ·by_cases hb:b=a
   ·exact hb
   ·exact absurd (if_neg hb) z
def dO(s:Stmt):Arguments:=match s with
 |.FunctionDef _ a _ _ _ _ _ _ _ _=>a
 |_=>{ posonlyargs:=[],args:=[],vararg:=none,kwonlyargs:=[],kw_defaults:=[],kwarg:=none,defaults:=[] }
def cQ(s:Stmt):List Stmt:=match s with
 |.FunctionDef _ _ b _ _ _ _ _ _ _=>b
 |_=>[]
def bD(s:Stmt):Scope:=match s with
 |.FunctionDef _ _ _ _ _ _ sc _ _ _=>sc
 |_=>{ kind:=.function,names:=[],isGenerator:=false,isCoroutine:=false }
abbrev CX0:CXT:=λ_ _ _ _ _ _=>False
abbrev E0:XK:=λ_ _ _=>False
variable{X:Cx}
theorem Ja:BA CX0 X E0:=λ_ _ _ _ _ _ _ h=>h.elim
structure Fun(K:z9)(x qual:Str)(st:Stmt)(f:Addr)(fd:Q9):Prop where
 ex:∃(oc:Value)(od:Option Addr)(kV doc pm:Value)(an:Option Addr)(cdv ct:Value)(osl:Array (Option Value)),
  fd=QF x qual (dO st) (cQ st) (bD st) .none kV doc pm an cdv ct/\K.lookup f=some ⟨oc,od,.func fd,osl⟩/\SJ K cdv qual=true
 kp:SH K (.ref f)=true
variable{N ps:List Str}{base:Heap}{qual:Str}{st:Stmt}
theorem Fun.ok{f:Addr}{k:Nat}(F:Fun K x qual st f fd)(S:nQ N ps (bD st))(len:∀vs H Q E,sp vs H Q E->vs.length=ps.length)(f6:∀(cdv:Value)(A:Around)(outer:List Env)(s:Shared)(H:Hp)(vs:List V)(Q:VK)(E:XK),iB k (A.deeper (envOfC qual (bD st) s.heap.objs.size f cdv))->sp vs H Q E->
   ∃t,PSs (A5 CX0 P w K mg base N qual (bD st) f cdv A outer s H E).nox (cQ st) t/\t { nx:=λ_ H'=>Q .non H',rt:=Q } (start N vs) H):iC P w K mg base CX0 (k+1) f fd ps sp:=by
 obtain⟨oc,od,kV,doc,pm,an,cdv,ct,osl,rfl,lk,cj⟩:=F.ex;refine LQ lk cj S len λA outer s H vs Q E hr iy=>?_;obtain⟨t,h,q⟩:=f6 cdv A outer s H vs Q E hr iy;exact⟨t,h.nox,q⟩
theorem Fun.binds{f:Addr}(F:Fun K x qual st f fd)(h:∀(kV doc pm:Value)(an:Option Addr)(cdv ct:Value)(us:List Value),us.length=ps.length->bindArgs (QF x qual (dO st) (cQ st) (bD st) .none kV doc pm an cdv ct) ⟨us,[]⟩=pure (ps.zip us)):Binds K fd ps []:=by
 obtain⟨oc,od,kV,doc,pm,an,cdv,ct,osl,rfl,lk,cj⟩:=F.ex;exact .all (h kV doc pm an cdv ct)
variable{an od:Option Addr}{cdv ct doc oc pm:Value}{osl:Array (Option Value)}
theorem F8{f:Addr}{kV:Value}(l:K.lookup f=some ⟨oc,od,.func (QF x qual (dO st) (cQ st) (bD st) .none kV doc pm an cdv ct),osl⟩)(c:SJ K cdv qual=true)(k:SH K (.ref f)=true):Fun K x qual st f (QF x qual (dO st) (cQ st) (bD st) .none kV doc pm an cdv ct):=⟨⟨oc,od,kV,doc,pm,an,cdv,ct,osl,rfl,l,c⟩,k⟩
variable{A:Around}
theorem LY{k:Nat}(hr:iB k A):A.units+1<cLine:=Nat.lt_of_le_of_lt (Nat.add_le_add_left (by decide:1<=64) _) hr.units
variable{pos:Pos}
theorem pv(i:Nat)(hN:X.N[i]?=some x:=by rfl)(hv:Vis X.env.scope x:=by first|exact Or.inl rfl|exact Or.inr (Or.inl rfl)|exact Or.inr (Or.inr rfl))(hd:(x == ("__debug__" : Str))=false:=by decide)(cj:(x == ("__classdict__" : Str))=false:=by decide):PE X (.Name x pos) (Lz i):=EN hN hv hd cj
variable{B:Prop}
theorem BE{A:Prop}(h:B):if false=true then A else B:=by
 rw[if_neg Pc];exact h
theorem BF{A:Prop}(h:A):if true=true then A else B:=by
 rw[if_pos rfl];exact h
def xU(H H':Hp):Prop:=∀b o,H b=some o->H' b=some o
variable{u:Value}{y:V}
section
variable{κ:Type}[DecidableEq κ]
def iD(kvs:List (κ×V))(k:κ):Option V:=(kvs.find? λkv=>decide (kv.1=k)).map (·.2)
def putK(kvs:List (κ×V))(k:κ)(v:V):List (κ×V):=
 if(kvs.any λkv=>decide (kv.1=k))=true then kvs.map (λkv=>if kv.1=k then(kv.1,v) else kv) else kvs++[(k,v)]
def rZ(kvs:List (κ×V))(k:κ):List (κ×V):=kvs.filter λkv=>decide (kv.1≠k)
theorem nS{p:κ×V}{r:List (κ×V)}{k:κ}(e:p.1=k):iD (p::r) k=some p.2:=by simp[iD,QR,e]
theorem nU{p:κ×V}{r:List (κ×V)}{k:κ}(e:¬ p.1=k):iD (p::r) k=iD r k:=by simp[iD,QR,e]
theorem sA(k:κ):∀kvs:List (κ×V),(kvs.any λkv=>decide (kv.1=k))=(iD kvs k).isSome
 |[]=>rfl
 |p::r=>by
  rw[Rx]
  by_cases e:p.1=k
  ·simp only[nS e,decide_eq_true e,Bool.true_or,RJ]
  ·rw[nU e,decide_eq_false e,Bool.false_or];exact sA k r
theorem kC(kvs:List (κ×V))(k:κ)(v:V):(putK kvs k v).length<=kvs.length+1:=by
 unfold putK;split
 ·rw[OP];omega
 ·rw[Pf,OZ,P0];omega
theorem nN.isSome_eq{o:Option V}{u:Option Value}(r:nN o u):o.isSome=u.isSome:=by
 cases o with
 |none=>cases u with
  |none=>rfl
  |some _=>exact(show False from r).elim
 |some _=>cases u with
  |none=>exact(show False from r).elim
  |some _=>rfl
theorem nN.getD{o:Option V}{u:Option Value}{d:V}{d':Value}(r:nN o u)(rd:RelV d d'):RelV (o.getD d) (u.getD d'):=by
 cases o with
 |none=>cases u with
  |none=>exact rd
  |some _=>exact(show False from r).elim
 |some _=>cases u with
  |none=>exact(show False from r).elim
  |some _=>exact r
theorem KV.val{kvs:List (κ×V)}{vs:List (κ×Value)}(r:KV kvs vs)(k:κ):nN (iD kvs k) (valueAt vs k):=by
 unfold KV at r
 induction r with
 |nil=>exact QK
 | @cons p q ps qs h t ih=>
  obtain⟨h1,h2⟩:=h
  by_cases e:p.1=k
  ·have e':q.1=k:=h1.symm.trans e;have b:valueAt (q::qs) k=some q.2:=by simp[valueAt,QR,e']
   rw[nS e,b];exact h2
  ·have e':¬ q.1=k:=λz=>e (h1.trans z);have b:valueAt (q::qs) k=valueAt qs k:=by simp[valueAt,QR,e']
   rw[nU e,b];exact ih
theorem KV.any{kvs:List (κ×V)}{vs:List (κ×Value)}(r:KV kvs vs)(k:κ):(kvs.any λkv=>decide (kv.1=k))=vs.any λkv=>decide (kv.1=k):=by
 unfold KV at r
 induction r with
 |nil=>rfl
 |cons h t ih=>rw[Rx,Rx,ih,h.1]
theorem KV.repl{kvs:List (κ×V)}{vs:List (κ×Value)}(r:KV kvs vs)(k:κ)(ry:RelV y u):
  KV (kvs.map λkv=>if kv.1=k then(kv.1,y) else kv) (vs.map λkv=>if kv.1=k then(kv.1,u) else kv):=by
 unfold KV at r⊢
 induction r with
 |nil=>exact .nil
 | @cons p q ps qs h t ih=>
  rw[Pa,Pa];refine .cons ?_ ih;obtain⟨h1,h2⟩:=h
  by_cases e:p.1=k
  ·rw[if_pos e,if_pos (h1.symm.trans e)];exact⟨h1,ry⟩
  ·rw[if_neg e,if_neg (λz=>e (h1.trans z))];exact⟨h1,h2⟩
theorem KV.put{kvs:List (κ×V)}{vs:List (κ×Value)}(r:KV kvs vs)(k:κ)(ry:RelV y u):KV (putK kvs k y) (stored vs k u):=by
 unfold putK stored;rw[r.any k]
 by_cases e:(vs.any λkv=>decide (kv.1=k))=true
 ·rw[if_pos e,if_pos e];exact r.repl k ry
 ·rw[if_neg e,if_neg e];exact Paired.snoc r ⟨rfl,ry⟩
theorem KV.drop{kvs:List (κ×V)}{vs:List (κ×Value)}(r:KV kvs vs)(k:κ):KV (rZ kvs k) (without vs k):=by
 unfold KV at r⊢;unfold rZ without
 induction r with
 |nil=>exact .nil
 | @cons p q ps qs h t ih=>
  obtain⟨h1,h2⟩:=h;rw[RB,RB]
  by_cases e:p.1=k
  ·have a:¬ decide (p.1≠k)=true:=by simp[e]
   have b:¬ decide (q.1≠k)=true:=by simp[h1.symm.trans e]
   rw[if_neg a,if_neg b];exact ih
  ·have e':¬ q.1=k:=λz=>e (h1.trans z);have a:decide (p.1≠k)=true:=by simp[e]
   have b:decide (q.1≠k)=true:=by simp[e']
   rw[if_pos a,if_pos b];exact .cons ⟨h1,h2⟩ ih
theorem KV.length{kvs:List (κ×V)}{vs:List (κ×Value)}(r:KV kvs vs):kvs.length=vs.length:=Rv r
theorem F9(kvs:List (κ×V))(k:κ):(rZ kvs k).length<=kvs.length:=List.length_filter_le _ _
end
theorem kE{k:Key}(r:RelV (kV k) u):(aQ P w).is k u=true:=by
 cases k with
 |inl i=>obtain⟨t,e⟩:=(show ∃t,u=Rm i t from r);subst e;exact A2 P w i t
 |inr x=>obtain⟨t,e⟩:=(show ∃t,u=Qv x t from r);subst e;exact qH P w x t
theorem vS{P:Program}{w:World}:∀{ks:List Key}{us:List Value},aI (ks.map kV) us->ItemsAre (aQ P w) ks us
 |[],_,r=>by rw[List.map_nil]at r;cases r;exact .nil
 |k::ks,_,r=>by
  rw[Pa]at r;cases r with
  |cons h t=>exact .cons (kE h) (vS t)
abbrev KT(H:Hp):List (List Key×V)->List (List Key×Addr×Value)->Prop:=Paired λp q=>p.1=q.1/\H q.2.1=some (.tup (p.1.map kV))/\RelV p.2 q.2.2
variable{H:Hp}{kvs:List (List Key×V)}
theorem KT.val{xs:List (List Key×Addr×Value)}(r:KT H kvs xs)(k:List Key):nN (iD kvs k) ((atKey xs k).map (·.2)):=by
 induction r with
 |nil=>exact QK
 | @cons p q ps qs h t ih=>
  obtain⟨h1,_,h2⟩:=h
  by_cases e:p.1=k
  ·have e':q.1=k:=h1.symm.trans e;have b:atKey (q::qs) k=some q.2:=by simp[atKey,QR,e']
   rw[nS e,b];exact h2
  ·have e':¬ q.1=k:=λz=>e (h1.trans z);have b:atKey (q::qs) k=atKey qs k:=by simp[atKey,QR,e']
   rw[nU e,b];exact ih
theorem KT.repl{xs:List (List Key×Addr×Value)}(r:KT H kvs xs)(k:List Key)(ry:RelV y u):
  KT H (kvs.map λkv=>if kv.1=k then(kv.1,y) else kv) (xs.map (putAt k u)):=by
 induction r with
 |nil=>exact .nil
 | @cons p q ps qs h t ih=>
  rw[Pa,Pa];refine .cons ?_ ih;obtain⟨h1,h2,h3⟩:=h;unfold putAt
  by_cases e:p.1=k
  ·rw[if_pos e,if_pos (h1.symm.trans e)];exact⟨h1,h2,ry⟩
  ·rw[if_neg e,if_neg (λz=>e (h1.trans z))];exact⟨h1,h2,h3⟩
theorem KT.put{xs:List (List Key×Addr×Value)}(r:KT H kvs xs)(k:List Key){b:Addr}(hb:H b=some (.tup (k.map kV)))(ry:RelV y u):
  KT H (putK kvs k y) (storedH xs k b u):=by
 have e:(kvs.any λkv=>decide (kv.1=k))=(atKey xs k).isSome:=by
  rw[sA,(r.val k).isSome_eq,Option.isSome_map]
 unfold putK storedH;rw[e]
 by_cases q:(atKey xs k).isSome=true
 ·rw[if_pos q,if_pos q];exact r.repl k ry
 ·rw[if_neg q,if_neg q];exact Paired.snoc r ⟨rfl,hb,ry⟩
variable{H':Hp}
theorem KT.keeps{xs:List (List Key×Addr×Value)}(r:KT H kvs xs)(ht:∀b ys,H b=some (.tup ys)->H' b=some (.tup ys)):KT H' kvs xs:=
 Paired.mapP r λ_ _ z=>⟨z.1,ht _ _ z.2.1,z.2.2⟩
theorem Jb{h:Heap}{u:HO}(ok:HOk P w H h)(e:Rd H a u):bS P w H h a u:=e.ok ok
theorem nV{h:Heap}{kvs:List (Key×V)}(ok:HOk P w H h)(e:Rd H a (.dK kvs)):kvs.length<=OR/\(a == QI)=false/\∃vs,KV kvs vs/\h.DictOf (aQ P w) a vs:=
 show bS P w H h a (.dK kvs) from Jb ok e
theorem CH{h:Heap}{kvs:List (Key×V)}(ok:HOk P w H h)(e:H a=some (.dK kvs)):kvs.length<=OR/\(a == QI)=false/\∃vs,KV kvs vs/\h.DictOf (aQ P w) a vs:=nV ok (.inl e)
theorem mN{h:Heap}{ks:List Key}(ok:HOk P w H h)(e:H a=some (.tup (ks.map kV))):(tupleKind (aQ P w)).is h ks a:=by
 obtain⟨_,its,r,o,h1,h2,⟨n,h3⟩,_⟩:=(show bS P w H h a (.tup (ks.map kV)) from ok a _ e)
 exact⟨o,its.toArray,n,h1,h2,h3,by simpa using vS r⟩
theorem sC{h:Heap}(ok:HOk P w H h)(e:Rd H a (.dT kvs)):kvs.length<=OR/\(a == QI)=false/\
  ∃xs,KT H kvs xs/\h.DictOfH (tupleKind (aQ P w)) a xs:=by
 obtain⟨z,y,xs,r,o,es,ep,h1,h2,h3,h4,h5⟩:=(show bS P w H h a (.dT kvs) from Jb ok e)
 refine⟨z,y,xs,r,o,es,ep,h1,h2,h3,h4,λx hx=>?_,h5⟩;have all:∀{l:List (List Key×V)}{m:List (List Key×Addr×Value)},KT H l m->∀x∈m,(tupleKind (aQ P w)).is h x.1 x.2.1:=by
  intro l m q
  induction q with
  |nil=>intro x hx;exact nomatch hx
  | @cons p q ps qs hq t ih=>
   intro x hx;rcases KP.mp hx with e|hx
   ·subst e;exact mN ok (by rw[<-hq.1];exact hq.2.1)
   ·exact ih x hx
 exact all r x hx
theorem LZ{h:Heap}(ok:HOk P w H h)(e:H a=some (.dT kvs)):kvs.length<=OR/\(a == QI)=false/\
  ∃xs,KT H kvs xs/\h.DictOfH (tupleKind (aQ P w)) a xs:=sC ok (.inl e)
def mQ(H:Hp)(a:Addr)(y:V)(r:Option V):Prop:=
 (∃kvs k,Rd H a (.dK kvs)/\y=kV k/\r=iD kvs k)\/∃kvs k b,Rd H a (.dT kvs)/\y=.ref b/\H b=some (.tup (k.map kV))/\r=iD kvs k
def K2(H:Hp)(a:Addr)(y v:V)(H':Hp):Prop:=
 (∃kvs k,H a=some (.dK kvs)/\y=kV k/\kvs.length<OR/\H'=upd H a (.dK (putK kvs k v)))\/
 ∃kvs k b,H a=some (.dT kvs)/\y=.ref b/\H b=some (.tup (k.map kV))/\kvs.length<OR/\H'=upd H a (.dT (putK kvs k v))
theorem mQ.k{H:Hp}{a:Addr}{kvs:List (Key×V)}{k:Key}(e:H a=some (.dK kvs)):mQ H a (kV k) (iD kvs k):=.inl ⟨kvs,k,.inl e,rfl,rfl⟩
theorem K2.k{H:Hp}{a:Addr}{kvs:List (Key×V)}{k:Key}{v:V}(e:H a=some (.dK kvs))(hl:kvs.length<OR):K2 H a (kV k) v (upd H a (.dK (putK kvs k v))):=.inl ⟨kvs,k,e,rfl,hl,rfl⟩
variable{pins:List (Addr×Obj)}{s:Shared}{E Q:Value->Shared->Prop}{h':Heap}{t':Nat}
section
variable{σ:St}{v:V}{r:Value}{o:Option V}
theorem Inv.big(I:Inv X pins σ H s):QI<s.heap.objs.size:=by
 have h:Pq<s.heap.objs.size:=(I.mod.glob.keeps I.bk).lt;exact RM (by decide) h
theorem DK(hu:A.units+1<cLine)(I:Inv X pins σ H s)(g:mQ H a y (some v))(ry:RelV y u)(h:∀w' s',Inv X pins σ H s'->RelV v w'->Q w' s'):
  wpAny (model X.prog X.w) A (getItem (.ref a) u) Q E s:=by
 rcases g with⟨kvs,k,e,ey,l⟩|⟨kvs,k,b,e,ey,eb,l⟩
 ·subst ey;obtain⟨z,hd,vs,rel,dd⟩:=nV I.hok e;obtain⟨w',hw,ay⟩:=nN.some_of (v:=v) (o:=valueAt vs k) (by rw[l];exact rel.val k);exact wpAny_getItem_of (kE ry) dd.mapOf hw (h w' _ (I.tok _) ay)
 ·subst ey;cases(show u=Py b from ry)
  obtain⟨z,hd,xs,rel,dd⟩:=sC I.hok e;obtain⟨w',hw,ay⟩:=nN.some_of (v:=v) (o:=(atKey xs k).map (·.2)) (by rw[l];exact rel.val k);obtain⟨p,hp,ub⟩:=Qn.mp hw;refine wpAny_getItem_heap (Rb hu) (mN I.hok eb) dd hp ?_;rw[ub];exact h w' _ (I.tok _) ay
theorem O1(hu:A.units+1<cLine)(I:Inv X pins σ H s)(g:mQ H a y o)(ry:RelV y u)(h:∀s',Inv X pins σ H s'->Q (.bool o.isSome) s'):
  wpAny (model X.prog X.w) A (Pn .In u (.ref a)) Q E s:=by
 rcases g with⟨kvs,k,e,ey,l⟩|⟨kvs,k,b,e,ey,eb,l⟩
 ·subst ey;obtain⟨z,hd,vs,rel,dd⟩:=nV I.hok e;refine wpAny_in_of (kE ry) hd dd.mapOf ?_;rw[<-(rel.val k).isSome_eq,<-l];exact h _ (I.tok _)
 ·subst ey;cases(show u=Py b from ry)
  obtain⟨z,hd,xs,rel,dd⟩:=sC I.hok e;refine wpAny_in_heap (Rb hu) (mN I.hok eb) hd dd ?_;have q:=(rel.val k).isSome_eq;rw[Option.isSome_map]at q;rw[<-q,<-l];exact h _ (I.tok _)
theorem Hy(hu:A.units+1<cLine)(I:Inv X pins σ H s)(g:mQ H a y o)(ry:RelV y u)(h:∀s',Inv X pins σ H s'->Q (.bool (!o.isSome)) s'):
  wpAny (model X.prog X.w) A (Pn .NotIn u (.ref a)) Q E s:=by
 rcases g with⟨kvs,k,e,ey,l⟩|⟨kvs,k,b,e,ey,eb,l⟩
 ·subst ey;obtain⟨z,hd,vs,rel,dd⟩:=nV I.hok e;refine wpAny_notIn_of (kE ry) hd dd.mapOf ?_;rw[<-(rel.val k).isSome_eq,<-l];exact h _ (I.tok _)
 ·subst ey;cases(show u=Py b from ry)
  obtain⟨z,hd,xs,rel,dd⟩:=sC I.hok e;refine wpAny_notIn_heap (Rb hu) (mN I.hok eb) hd dd ?_;have q:=(rel.val k).isSome_eq;rw[Option.isSome_map]at q;rw[<-q,<-l];exact h _ (I.tok _)
theorem rD{ob:HO}(I:Inv X pins σ H s)(mu:Mut (H a))(hs:RK a s.heap h')(he:∃q,h'.get? a=some q)(new:bS X.prog X.w (upd H a ob) h' a ob):
  Inv X pins σ (upd H a ob) { s with heap:=h',toks:=t' }:=
 I.write (x:=a) (e:=a) mu (.inl rfl) (λb q hb z=>(hs.2 b hb).trans z) he new
theorem xV{kvs:List (Key×V)}{vs:List (Key×Value)}(z:kvs.length<=OR)(hd:(a == QI)=false)(rel:KV kvs vs)(dd:h'.DictOf (aQ P w) a vs):
  bS P w H' h' a (.dK kvs):=⟨z,hd,vs,rel,dd⟩
theorem DL{Q:Unit->Shared->Prop}(hu:A.units+1<cLine)(I:Inv X pins σ H s)(g:K2 H a y v H')(ry:RelV y u)(rv:RelV v r)(h:∀s',Inv X pins σ H' s'->Q () s'):
  wpAny (model X.prog X.w) A (setItem (.ref a) u r) Q E s:=by
 rcases g with⟨kvs,k,e,ey,l,eH⟩|⟨kvs,k,b,e,ey,eb,l,eH⟩
 ·subst ey eH;obtain⟨z,hd,vs,rel,dd⟩:=CH I.hok e;have hz:vs.length<=OR:=by rw[<-rel.length];exact z
  have hl:(putK kvs k v).length<=OR:=by have:=kC kvs k v;omega
  refine wpAny_setItem_pairs (hsz:=hz) (kE ry) dd λh' gh hs=>h _ ?_;have he:∃q,h'.get? a=some q:=let ⟨q,_,_,hq,_⟩:=gh;⟨q,hq⟩;exact rD I (by rw[e];exact QK) hs he (xV hl hd (rel.put k rv) gh)
 ·subst ey eH;cases(show u=Py b from ry)
  obtain⟨z,hd,xs,rel,dd⟩:=LZ I.hok e;have hz:xs.length<=OR:=by rw[<-Rv rel];exact z
  have hl:(putK kvs k v).length<=OR:=by have:=kC kvs k v;omega
  refine wpAny_setItem_heap (hsz:=hz) (Rb hu) (mN I.hok eb) dd λh' gh hs=>h _ ?_;obtain⟨q,es,ep,hq,h2,h3,h4,_,h5⟩:=gh;refine rD I (by rw[e];exact QK) hs ⟨q,hq⟩ ⟨hl,hd,_,(rel.put k eb rv).keeps λc ys ec=>?_,q,es,ep,hq,h2,h3,h4,h5⟩;rw[aW (Ly ec e (λz=>nomatch z))];exact ec
end
variable{more:List Value}
section
variable{σ:St}{kvs:List (Key×V)}{k:Key}
theorem M0{v:V}(I:Inv X pins σ H s)(e:H a=some (.dK kvs))(ry:RelV (kV k) u)(l:iD kvs k=some v)(hm:more=[]\/∃x,more=[x])(h:∀w' s',Inv X pins σ (upd H a (.dK (rZ kvs k))) s'->RelV v w'->Q w' s'):wpAny (model X.prog X.w) A (call (.builtin "dict.pop") (.ref a::u::more)) Q E s:=by
 obtain⟨z,hd,vs,rel,dd⟩:=CH I.hok e;obtain⟨w',hw,ay⟩:=nN.some_of (v:=v) (o:=valueAt vs k) (by rw[<-l];exact rel.val k);have hp:(keyPart u).isSome=true:=by
  cases k with
  |inl i=>obtain⟨t,q⟩:=(show ∃t,u=Rm i t from ry);subst q;rfl
  |inr x=>obtain⟨t,q⟩:=(show ∃t,u=Qv x t from ry);subst q;rfl
 have ha:argsOk "dict.pop" ⟨.ref a::u::more,[]⟩:=by
  rcases hm with q|⟨x,q⟩
  ·subst q;exact PySem.F.args_dict_pop_2 _ _
  ·subst q;exact PySem.F.args_dict_pop_3 _ _ _
 refine Ru PySem.F.slot_dict_pop dd.typeIs PySem.F.entry_dict_pop ha (meets_dict_pop_there (aQ X.prog X.w) a (kE ry) more hm hp)
  ⟨vs,w',dd,by rw[<-rel.length];exact z,hw,λh' gh hs=>h w' _ ?_ ay⟩
 have he:∃q,h'.get? a=some q:=let ⟨q,_,_,hq,_⟩:=gh;⟨q,hq⟩;exact rD I (by rw[e];exact QK) hs he (xV (PD (F9 kvs k) z) hd (rel.drop k) gh)
theorem M1(I:Inv X pins σ H s)(e:Rd H a (.dK kvs))(h:∀t s',Inv X pins σ H s'->Q (.int kvs.length t) s'):wpAny (model X.prog X.w) A (call (.builtin "len") [.ref a]) Q E s:=by
 obtain⟨z,hd,vs,rel,dd⟩:=nV I.hok e;refine call_len_dict hd dd (by rw[<-rel.length];rw[Qy]at z;omega) ?_;rw[<-rel.length];exact h _ _ (I.tok _)
end
def Hz(i:Expr):Prop:=∀ov iv,subscripted i false ov iv=operate [ov,iv] (getItem ov iv)
variable{T:String}{env:Env}{prog:Program}{value:Expr}
theorem HA{slice:Expr}{id:String}(hl:typeLookup (.type T) "__getitem__" = pure (some (.builtin id)))(hs:Hz slice)(h:wpAny (model prog w) A (eval value env) (λo s₁=>wpAny (model prog w) A (eval slice env) (λi s₂=>s₂.TypeIs o T/\wpAny (model prog w) A (getItem o i) Q E s₂) E s₁) E s):
  wpAny (model prog w) A (eval (.Subscript value slice pos) env) Q E s:=by
 refine Subscript_ (Qj h (λo s₁ h₁=>Qj h₁ (λi s₂ h₂=>?_) λ_ _ x=>x) λ_ _ x=>x);obtain⟨hT,h₂⟩:=h₂;unfold subscriptTail;refine ff ?_;rw[getitemInPython_of_ne hT.not_modules];refine ff (Rp hT hl ?_);have fin:wpAny (model prog w) A (subscripted slice false o i) (λr s₃=>wpAny (model prog w) A (letTemporaryGo value o r >>= λ_=>pure r) Q E s₃) E s₂:=by
  rw[hs o i];exact wpAny_operating (Qj h₂ (λr s₃ h₃=>ff (wpAny_letTemporaryGo (z8 h₃))) λ_ _ x=>x)
 first
  |exact z8 (ff fin)
  |exact ff (z8 (ff fin))
  |exact ff fin
theorem A9{σ:St}{o:Option V}(I:Inv X pins σ H s)(g:mQ H a y o):s.TypeIs (.ref a) "dict" := by
 rcases g with⟨kvs,k,e,_,_⟩|⟨kvs,k,b,e,_,_,_⟩
 ·obtain⟨_,_,vs,_,dd⟩:=nV I.hok e;exact dd.typeIs
 ·obtain⟨_,_,xs,_,dd⟩:=sC I.hok e;exact dd.typeIs
theorem F'(h:Heap)(hb:QI<h.objs.size):bS P w H (h.push { cls:=.type "dict",data:=.dict #[] }) h.objs.size (.dK []):=
 ⟨Pu _,beq_eq_false_iff_ne.mpr (Sn (OW hb)),[],.nil,Heap.DictOf.new h⟩
def K3:TE:=λ_ H Q=>∀p,H p=none->Q (.ref p) (upd H p (.dK []))
theorem Fb:PE X (.Dict [] [] pos) K3:=λpins s σ H Q I h=>
 wpAny_Dict_empty ⟨.ref s.heap.objs.size,_,I.laid (a:=s.heap.objs.size) (o:=.dK []) (t':=s.toks) (λ_ _ q=>zz _ q) (OO _) (F' s.heap I.big),rfl,h _ (I.hok.fresh (OO _))⟩
def pI(kvs more:List (Key×V)):List (Key×V):=more.foldl (λacc kv=>putK acc kv.1 kv.2) kvs
theorem KV.merge:∀{more:List (Key×V)}{rs:List (Key×Value)}{kvs:List (Key×V)}{vs:List (Key×Value)},KV more rs->KV kvs vs->KV (pI kvs more) (merged vs rs):=by
 intro more rs kvs vs r;unfold KV at r
 induction r generalizing kvs vs with
 |nil=>intro q;exact q
 | @cons p q ps qs h t ih=>
  intro r0;have e:KV (putK kvs p.1 p.2) (stored vs q.1 q.2):=by
   have:=r0.put p.1 h.2;rw[<-h.1];exact this
  exact ih e
theorem mG:∀(more kvs:List (Key×V)),(pI kvs more).length<=kvs.length+more.length
 |[],kvs=>by show kvs.length<=kvs.length+0;omega
 |p::r,kvs=>by
  have h1:=mG r (putK kvs p.1 p.2);have h2:=kC kvs p.1 p.2
  show(pI (putK kvs p.1 p.2) r).length<=_
  rw[OZ];omega
section
variable{σ:St}{d:V}{r:Value}{o:Option V}
theorem K4(hu:A.units+1<cLine)(I:Inv X pins σ H s)(g:mQ H a y o)(ry:RelV y u)(h:∀w' s',Inv X pins σ H s'->RelV (o.getD .non) w'->Q w' s'):
  wpAny (model X.prog X.w) A (call (.builtin "dict.get") [.ref a,u]) Q E s:=by
 rcases g with⟨kvs,k,e,ey,l⟩|⟨kvs,k,b,e,ey,eb,l⟩
 ·subst ey;obtain⟨z,hd,vs,rel,dd⟩:=nV I.hok e;refine Ru P5 dd.typeIs Qo (Ry _ _) (meets_dict_get (aQ X.prog X.w) a (kE ry) hd) ⟨_,dd.mapOf,h _ _ (I.tok _) ?_⟩;rw[l];exact(rel.val k).getD rfl
 ·subst ey;cases(show u=Py b from ry)
  obtain⟨z,hd,xs,rel,dd⟩:=sC I.hok e;refine Ru P5 dd.typeIs Qo (Ry _ _) (meetsH_dict_get (tupleKind (aQ X.prog X.w)) a b hd) ⟨Rb hu,k,xs,mN I.hok eb,dd,h _ _ (I.tok _) ?_⟩;rw[l];exact(rel.val k).getD rfl
theorem K5(hu:A.units+1<cLine)(I:Inv X pins σ H s)(g:mQ H a y o)(ry:RelV y u)(rd:RelV d r)(h:∀w' s',Inv X pins σ H s'->RelV (o.getD d) w'->Q w' s'):
  wpAny (model X.prog X.w) A (call (.builtin "dict.get") [.ref a,u,r]) Q E s:=by
 rcases g with⟨kvs,k,e,ey,l⟩|⟨kvs,k,b,e,ey,eb,l⟩
 ·subst ey;obtain⟨z,hd,vs,rel,dd⟩:=nV I.hok e;refine Ru P5 dd.typeIs Qo (PySem.F.args_dict_get_3 _ _ _) (meets_dict_get_default (aQ X.prog X.w) a (kE ry) hd r) ⟨_,dd.mapOf,h _ _ (I.tok _) ?_⟩;rw[l];exact(rel.val k).getD rd
 ·subst ey;cases(show u=Py b from ry)
  obtain⟨z,hd,xs,rel,dd⟩:=sC I.hok e;refine Ru P5 dd.typeIs Qo (PySem.F.args_dict_get_3 _ _ _) (meetsH_dict_get_default (tupleKind (aQ X.prog X.w)) a b hd r) ⟨Rb hu,k,xs,mN I.hok eb,dd,h _ _ (I.tok _) ?_⟩;rw[l];exact(rel.val k).getD rd
end
section
variable{σ:St}{kvs:List (Key×V)}
theorem Fc(I:Inv X pins σ H s)(e:Rd H a (.dK kvs))(h:∀p s',H p=none->Inv X pins σ (upd H p (.dK kvs)) s'->Q (.ref p) s'):wpAny (model X.prog X.w) A (call (.type "dict") [.ref a]) Q E s:=by
 obtain⟨z,hd,vs,rel,dd⟩:=nV I.hok e;refine kt_call_dict hd dd (by rw[<-rel.length];exact z) λh' gh hs=>?_;refine h _ _ (I.hok.fresh (OO _)) (I.laid (a:=s.heap.objs.size) (o:=.dK kvs) (t':=s.toks) (λb q hq=>?_) (OO _) (xV z (beq_eq_false_iff_ne.mpr (Sn (OW I.big))) rel gh));exact(hs.2 b (OW (OS hq))).trans (zz _ hq)
end
theorem DM:cG X (.builtin "len") (λxs H Q=>∃a kvs,xs=[V.ref a]/\H a=some (.dK kvs)/\Q (.int kvs.length) H):=by
 intro pins s σ H xs us Q I r h;obtain⟨a,kvs,rfl,ha,q⟩:=h;obtain⟨u,rfl,ru⟩:=vals1 r;cases ru
 exact M1 I (.inl ha) λt s' I'=>⟨.int kvs.length,H,I',⟨t,rfl⟩,q⟩
def CI(ifs:List Expr)(env:Env):Sem Bool:=forIn ifs true λc r=>if r=true then do let ok <-isTrue c env (eval c env);pure (ForInStep.yield ok) else pure (ForInStep.yield r)
variable{R:Result->Shared->Prop}{acc:Value}{ifs:List Expr}{iter:Expr}{scope:Scope}
theorem xW{elt target:Expr}{it:Value}(I:Nat->Shared->Prop)(turn:∀n s,I n s->wpAny (model prog w) A (pyNext it) (λr s₁=>match r with
   |none=>R (.ok .next) s₁
   | some v=>wpAny (model prog w) A (letOwnedTupleGo target it v) (fun _ vz=>wpAny (model prog w) A (assign target env v) (fun _ s₂=>
     wpAny (model prog w) A (CI ifs env) (λok s₃=>
      if ok=true then wpAny (model prog w) A (eval elt env) (λx s₄=>
       wpAny (model prog w) A (call (.builtin "list.append") [acc,x]) (λ_ s₅=>∃m,m<n/\I m s₅) (λ_ _=>False) s₄) (λ_ _=>False) s₃
      else ∃m,m<n/\I m s₃) (λ_ _=>False) s₂) (λ_ _=>False) vz) (λ_ _=>False) s₁) (λ_ _=>False) s)(n:Nat)(h:I n s):
  codeAny (model prog w) A (.compLoop (.ListComp elt [⟨target,iter,ifs,0⟩] scope pos) 0 it acc env) R s:=by
 refine codeAny_loop rfl I (λn s hI=>?_) n h
 show wpAny _ A ((compTurn (.ListComp elt [⟨target,iter,ifs,0⟩] scope pos) 0 it acc env).onRaise (λx=>do noteFrame x env;theTreesLotGoes x)) _ _ s
 refine wpAny_noted ?_;rw[compTurn_list];refine ff (wpAny_standAt (ff (Qj (turn n s hI) (λr s₁ h₁=>?_) λ_ _ h'=>h'.elim)));cases r with
 |none=>exact z8 h₁
 |some v=>
  refine ff (Qj h₁ (λ_ vz yi=>?_) λ_ _ h'=>h'.elim);refine ff (Qj yi (λ_ s₂ h₂=>ff (Qj h₂ (λok s₃ h₃=>?_) λ_ _ h'=>h'.elim)) λ_ _ h'=>h'.elim);cases ok with
  |false=>exact z8 ⟨rfl,h₃⟩
  |true=>
   exact ff (ff (Qj h₃ (λx s₄ h₄=>ff (Qj h₄ (λ_ s₅ h₅=>z8 (z8 ⟨rfl,h₅⟩)) λ_ _ h'=>h'.elim)) λ_ _ h'=>h'.elim))
def fS(cells:List (Str×Addr)):List (Str×RI)->List (Str×Addr)->List (Str×Addr)
 |[],cs=>cs
 |(n,k)::r,cs=>fS cells r (if(k == PM)=true then(n,(cells.lookup n).getD 0)::cs else cs)
theorem uN(h:∀y∈scope.names,y.2=PM->∃c,env.cells.lookup y.1=some c):closureFor scope env=pure (fS env.cells scope.names []):=by
 have go:∀(names:List (Str×RI))(cs:List (Str×Addr)),(∀y∈names,y.2=PM->∃c,env.cells.lookup y.1=some c)->
   (forIn names cs λ(x:Str×RI)(r:List (Str×Addr))=>match x with
    |(name,kind)=>if(kind == PM)=true then(do let y <-cellOf env name;pure (ForInStep.yield ((name,y)::r))) else(pure (ForInStep.yield r):Sem _))=(pure (fS env.cells names cs):Sem _):=by
  intro names
  induction names with
  |nil=>intro cs _;rfl
  |cons y r ih=>
   intro cs hy
   obtain⟨n,k⟩:=y
   rw[List.forIn_cons]
   have we:=λzo=>ih zo λy hm=>hy y (OX _ hm)
   by_cases hk:(k == PM)=true
   ·obtain⟨c,hc⟩:=hy (n,k) Pb (by simpa using hk)
    have e1:cellOf env n=pure c:=by unfold cellOf;rw[show env.cells.lookup n=some c from hc]
    have e2:fS env.cells ((n,k)::r) cs=fS env.cells r ((n,c)::cs):=by
     show fS env.cells r (if(k == PM)=true then _ else _)=_
     rw[if_pos hk,show env.cells.lookup n=some c from hc];rfl
    rw[e2,<-we ((n,c)::cs)]
    simp only[hk,if_true,e1,pure_bind]
   ·have e2:fS env.cells ((n,k)::r) cs=fS env.cells r cs:=by
     show fS env.cells r (if(k == PM)=true then _ else _)=_
     rw[if_neg hk]
    rw[e2,<-we cs]
    simp only[hk,if_false,pure_bind]
    try rfl
 have:=go scope.names [] h
 unfold closureFor
 simpa using this
theorem qK{cells:List (Str×Addr)}{x:Str}{c:Addr}:∀(names:List (Str×RI))(cs:List (Str×Addr)),(fS cells names cs).lookup x=some c->cs.lookup x=some c\/(∃y∈names,y.1=x/\y.2=PM/\c=(cells.lookup x).getD 0)
 |[],_,h=>.inl h
 |(n,k)::r,cs,h=>by
  rcases qK r _ h with h1|⟨y,hy,e⟩
  ·by_cases hk:(k == PM)=true
   ·rw[if_pos hk]at h1
    by_cases hx:x=n
    ·subst hx;simp only[Pg,beq_self_eq_true]at h1;exact .inr ⟨(x,k),Pb,rfl,by simpa using hk,(Pv h1).symm⟩
    ·have:(x == n)=false:=by simpa using hx
     simp only[Pg,this]at h1;exact .inl h1
   ·rw[if_neg hk]at h1;exact .inl h1
  ·exact .inr ⟨y,OX _ hy,e⟩
theorem sD{cells:List (Str×Addr)}{x:Str}:∀(names:List (Str×RI))(cs:List (Str×Addr)),((∃c,cs.lookup x=some c)\/∃y∈names,y.1=x/\y.2=PM)->∃c,(fS cells names cs).lookup x=some c
 |[],_,h=>by
  rcases h with h|⟨y,hy,_⟩
  ·exact h
  ·cases hy
 |(n,k)::r,cs,h=>by
  refine sD r _ ?_;rcases h with⟨c,h⟩|⟨y,hy,e1,e2⟩
  ·left
   by_cases hk:(k == PM)=true
   ·rw[if_pos hk]
    by_cases hx:x=n
    ·subst hx;simp[Pg]
    ·have:(x == n)=false:=by simpa using hx
     exact⟨c,by simp only[Pg,this];exact h⟩
   ·rw[if_neg hk];exact⟨c,h⟩
  ·rcases KP.mp hy with rfl|hy
   ·left;have hk:(k == PM)=true:=by simpa using e2
    rw[if_pos hk];have hx:n=x:=e1;subst hx;simp[Pg]
   ·exact .inr ⟨y,hy,e1,e2⟩
def iR(os:Scope)(oN:List Str)(sc:Scope)(N:List Str)(js:List (Option Nat)):Bool:=
 (match sc.kind with|.function=>true|_=>false)&&sc.names.all (λy=>match y.2 with
  |.cell=>(match sc.names.lookup y.1 with|some .cell=>true|_=>false)
  |_=>true) &&
 sc.names.all (λy=>match y.2 with
  |.local=>(match sc.names.lookup y.1 with|some .local=>true|_=>false)
  |.free=>(match sc.names.lookup y.1,os.names.lookup y.1 with|some .free,some .cell=>true|some .free,some .free=>true|_,_=>false)
  |_=>true) &&
 js.length == N.length&&(js.zip N).all (λp=>match p.1 with
  |none=>true
  |some j=>(match oN[j]? with|some x=>decide (x=p.2)|none=>false)&&(match sc.names.lookup p.2 with|some .free=>true|_=>false))
structure K6(os:Scope)(oN:List Str)(sc:Scope)(N:List Str)(js:List (Option Nat)):Prop where
 kind:sc.kind=.function
 own:∀y∈sc.names,y.2=.cell->sc.names.lookup y.1=some .cell
 nm:∀y∈sc.names,y.2=.local->sc.names.lookup y.1=some .local
 fr:∀y∈sc.names,y.2=.free->os.names.lookup y.1=some .cell\/os.names.lookup y.1=some .free
 len:js.length=N.length
 cap:∀(i j:Nat),js[i]?=some (some j)->∃x,N[i]?=some x/\oN[j]?=some x/\sc.names.lookup x=some .free
variable{js:List (Option Nat)}{oN:List Str}{os sc:Scope}
theorem DN(h:iR os oN sc N js=true):K6 os oN sc N js:=by
 unfold iR at h;simp only[Pj]at h;obtain⟨⟨⟨⟨h1,h2⟩,h3⟩,h4⟩,h5⟩:=h;refine⟨?_,λy hy e=>?_,λy hy e=>?_,λy hy e=>?_,by simpa using h4,λi j e=>?_⟩
 ·cases hk:sc.kind <;> rw[hk]at h1 <;> first|rfl|exact absurd h1 Pc
 ·have:=Pp.mp h2 y hy;rw[e]at this;dsimp only at this;cases hl:sc.names.lookup y.1 with
  |none=>rw[hl]at this;exact absurd this Pc
  |some k=>cases k <;> rw[hl]at this <;> first|rfl|exact absurd this Pc
 ·have:=Pp.mp h3 y hy;rw[e]at this;dsimp only at this;cases hl:sc.names.lookup y.1 with
  |none=>rw[hl]at this;exact absurd this Pc
  |some k=>cases k <;> rw[hl]at this <;> first|rfl|exact absurd this Pc
 ·have:=Pp.mp h3 y hy;rw[e]at this;dsimp only at this;cases hl:sc.names.lookup y.1 with
  |none=>rw[hl]at this;exact absurd this Pc
  |some k=>
   rw[hl]at this;cases ho:os.names.lookup y.1 with
   |none=>rw[ho]at this;cases k <;> exact absurd this Pc
   |some k'=>rw[ho]at this;cases k <;> cases k' <;> first|exact .inl rfl|exact .inr rfl|exact absurd this Pc
 ·have hlen:js.length=N.length:=by simpa using h4
  obtain⟨hi,ej⟩:=Io.mp e;have hN:i<N.length:=by omega
  have hz:(js.zip N)[i]?=some (some j,N[i]):=by
   rw[List.getElem?_zip_eq_some];exact⟨e,by simp[hN]⟩
  have:=Pp.mp h5 _ (Qi hz);simp only[Pj]at this;obtain⟨t1,t2⟩:=this;refine⟨N[i],by simp[hN],?_,?_⟩
  ·cases ho:oN[j]? with
   |none=>rw[ho]at t1;exact absurd t1 Pc
   |some x=>rw[ho]at t1;rw[of_decide_eq_true t1]
  ·cases hl:sc.names.lookup N[i] with
   |none=>rw[hl]at t2;exact absurd t2 Pc
   |some k=>rw[hl]at t2;cases k <;> first|rfl|exact absurd t2 Pc
theorem cK{κ:Type}{x:Str}{k:κ}:∀{l:List (Str×κ)},l.lookup x=some k->(x,k)∈l
 |[],h=>by simp at h
 |(n,v)::r,h=>by
  by_cases hx:x=n
  ·subst hx;simp only[Pg,beq_self_eq_true]at h;cases h
   exact Pb
  ·have:(x == n)=false:=by simpa using hx
   simp only[Pg,this]at h;exact OX _ (cK h)
theorem kF{sc:Scope}{env:Env}:∀{names:List (Str×RI)}{x:Str}{k:RI},(names.map λ(n,k)=>if(k == PM&&env.scope.kind == .function&&env.kindOf n == some .cell) then(n,Sz) else(n,k)).lookup x=some k->
  names.lookup x=some k\/(k=.cell/\names.lookup x=some .free)
 |[],_,_,h=>by simp at h
 |(n,q)::r,x,k,h=>by
  have ih:=@kF sc env r x k
  by_cases hc:(q == PM&&env.scope.kind == .function&&env.kindOf n == some .cell)=true
  ·simp only[Pa]at h;rw[if_pos hc]at h;have hq:q=.free:=by
    simp only[Pj]at hc;simpa using hc.1.1
   by_cases hx:x=n
   ·subst hx;simp only[Pg,beq_self_eq_true]at h⊢;exact .inr ⟨(Pv h).symm,by rw[hq]⟩
   ·have e:(x == n)=false:=by simpa using hx
    simp only[Pg,e]at h⊢;exact ih h
  ·simp only[Pa]at h;rw[if_neg hc]at h
   by_cases hx:x=n
   ·subst hx;simp only[Pg,beq_self_eq_true]at h⊢;exact .inl h
   ·have e:(x == n)=false:=by simpa using hx
    simp only[Pg,e]at h⊢;exact ih h
theorem nW{env:Env}:∀{names:List (Str×RI)}{x:Str},names.lookup x=some .free->
  (names.map λ(n,k)=>if(k == PM&&env.scope.kind == .function&&env.kindOf n == some .cell) then(n,Sz) else(n,k)).lookup x=some .free\/
  (names.map λ(n,k)=>if(k == PM&&env.scope.kind == .function&&env.kindOf n == some .cell) then(n,Sz) else(n,k)).lookup x=some .cell
 |[],_,h=>by simp at h
 |(n,q)::r,x,h=>by
  have ih:=@nW env r x
  by_cases hc:(q == PM&&env.scope.kind == .function&&env.kindOf n == some .cell)=true
  ·simp only[Pa];rw[if_pos hc]
   by_cases hx:x=n
   ·subst hx;simp only[Pg,beq_self_eq_true]
    first|exact .inr rfl|exact .inr trivial
   ·have e:(x == n)=false:=by simpa using hx
    simp only[Pg,e]at h⊢;exact ih h
  ·simp only[Pa];rw[if_neg hc]
   by_cases hx:x=n
   ·subst hx;simp only[Pg,beq_self_eq_true]at h⊢;exact .inl h
   ·have e:(x == n)=false:=by simpa using hx
    simp only[Pg,e]at h⊢;exact ih h
theorem aZ:∀(names:List (Str×RI))(n:Nat)(acc:List (Str×Addr)),P7 n names acc=P7 n names []++acc
 |[],_,_=>rfl
 |(x,k)::r,n,acc=>by
  unfold P7;split
  ·rw[aZ r _ ((x,n)::acc),aZ r _ [(x,n)],List.append_assoc];rfl
  ·exact aZ r n acc
set_option tactic.hygienic true in
theorem iS{x:Str}{c:Addr}:∀{names:List (Str×RI)}{n:Nat},(x,c)∈P7 n names []->(x,Sz)∈names
 |[],_,h=>by cases h
 |(y,k)::r,n,h=>by
  unfold P7 at h;split at h
  ·rename_i hk;rw[aZ,Pr]at h;rcases h with h|h
   ·exact OX _ (iS h)
   ·have e:=P4.mp h;have ex:x=y:=congrArg Prod.fst e;have ek:k=.cell:=by simpa using hk
    rw[ex,ek];exact Pb
  ·exact OX _ (iS h)
theorem qL{α:Type}{x:Str}{c:α}:∀{l:List (Str×α)},(x,c)∈l->∃d,l.lookup x=some d
 |(y,d)::r,h=>by
  by_cases e:x=y
  ·subst e;exact⟨d,by simp[Pg]⟩
  ·have z:(x == y)=false:=by simpa using e
   rcases KP.mp h with q|q
   ·exact absurd (congrArg Prod.fst q) e
   ·obtain⟨d',hd⟩:=qL q;exact⟨d',by simp only[Pg,z];exact hd⟩
theorem eL{x:Str}:∀{names:List (Str×RI)}{n:Nat},(x,Sz)∈names->∃c,(P7 n names []).lookup x=some c
 |(y,k)::r,n,h=>by
  have go:∃c,(x,c)∈P7 n ((y,k)::r) []:=by
   rcases KP.mp h with q|q
   ·have ex:x=y:=congrArg Prod.fst q;have ek:k=.cell:=(congrArg Prod.snd q).symm;refine⟨n,?_⟩;unfold P7;rw[if_pos (by rw[ek];rfl),aZ,ex];exact PB _ Pb
   ·unfold P7;split
    ·obtain⟨c,hc⟩:=eL (n:=n+1) q;rw[aZ];exact⟨c,Rl _ (mem_of_lookup hc)⟩
    ·obtain⟨c,hc⟩:=eL (n:=n) q;exact⟨c,mem_of_lookup hc⟩
  obtain⟨c,hc⟩:=go;exact qL hc
theorem nX{α:Type}{x:Str}:∀{l r:List (Str×α)},(l++r).lookup x=(l.lookup x).or (r.lookup x)
 |[],_=>by simp
 |(y,d)::l,r=>by
  have ih:=nX (x:=x) (l:=l) (r:=r);cases e:x == y with
  |true=>simp[Pg,e]
  |false=>simp only[List.cons_append,Pg,e];exact ih
variable{M:Model}{builtins globals:Addr}{closure:List (Str×Addr)}{code:Value}{func:Option Addr}
theorem pJ{outer:Env}{Q:Env->Shared->Prop}(hQ:Q (newEnv scope s.heap.objs.size globals (P7 (s.heap.objs.size+1) scope.names closure) qual func code (some outer) builtins) { s with heap:=pushCells (s.heap.push { cls:=.type "dict",data:=.dict #[] }) scope.names }):
  wpAny M A (newFunctionEnv scope globals closure [] qual func code (some outer) builtins) Q E s:=by
 simp only[newFunctionEnv,RJ,if_true];refine ff (wpAny_alloc ?_);refine ff (wpAny_layCells _ (λname kind cells=>by cases hkc:kind == Sz <;> simp[hkc]) _ _ _ _ ?_);rw[show({ s with heap:=s.heap.push { cls:=.type "dict",data:=.dict #[] } }:Shared).heap.objs.size=s.heap.objs.size+1 from Qp ..]
 rw[List.forIn_nil];exact ff (z8 (z8 hQ))
def Cx.comp(X:Cx)(sc:Scope)(N:List Str)(C:Addr)(fp:List Addr)(s₀:Shared)(H₀:Hp):Cx:=
 { X with N:=N,s₀:=s₀,H₀:=H₀,env:=compEnvC sc (P7 (C+1) sc.names (fS X.env.cells sc.names [])) C X.env,outer:=X.stack,ex:=fp,fn:=λx=>(match sc.names.lookup x with|some .cell=>true|_=>false),pn:=[],xe:=λ_ _=>False }
def Fd:St->Nat->Option V
 |[],_=>none
 |x::_,0=>x
 |_::r,n+1=>Fd r n
theorem Aa:∀{σ:St}{i:Nat}{v:V},Fd σ i=some v->σ[i]?=some (some v)
 |[],_,_,h=>by cases h
 |x::_,0,v,h=>by
  have h':x=some v:=h;simp[h']
 |_::r,n+1,v,h=>by
  rw[QA];exact Aa (σ:=r) (i:=n) h
def iT(js:List (Option Nat))(σ:St):St:=js.map λo=>match o with
 |none=>none
 |some j=>Fd σ j
variable{i:Nat}
theorem HB{σ:St}{v:V}(h:(iT js σ)[i]?=some (some v)):∃j,js[i]?=some (some j)/\σ[j]?=some (some v):=by
 unfold iT at h;rw[PF]at h;cases e:js[i]? with
 |none=>rw[e]at h;cases h
 |some o=>
  rw[e]at h;cases o with
  |none=>cases h
  |some j=>exact⟨j,rfl,Aa (Pv h)⟩
def PTs(X:Cx)(ifs:List Expr)(t:TT):Prop:=
 ∀(pins:List (Addr×Obj))(s:Shared)(σ:St)(H:Hp)(Q:Bool->Hp->Prop),Inv X pins σ H s->t σ H Q->wpAny (model X.prog X.w) X.A (CI ifs X.env) (TP X pins σ Q) X.xe s
def M3:TT:=λ_ H Q=>Q true H
theorem HC:PTs X [] M3:=λ_ _ _ H _ I h=>wpAny_tests_nil ⟨H,I,h⟩
def Jc(js:List (Option Nat))(g:TG)(tt:TT)(te:TE)(σ:St)(acc:Addr)(x:V)(H:Hp)(N:Hp->Prop):Prop:=g x (iT js σ) H λσ2 H4=>tt σ2 H4 λb H5=>
   if b=true then te σ2 H5 λv H6=>∃ys,H6 acc=some (.lst ys)/\ys.length<OR/\N (upd H6 acc (.lst (ys++[v]))) else N H5
def CJ(js:List (Option Nat))(wi:TI)(g:TG)(tt:TT)(te:TE):TE:=λσ H Q=>wi σ H λJ H1=>∀acc,H1 acc=none->
 ∃W:Nat->Nat->Hp->Prop,(∃m,W 0 m (upd H1 acc (.lst [])))/\∀i m H2,W i m H2->
  (J.stop i H2/\Q (.ref acc) H2)\/(J.go i H2/\∃N:Hp->Prop,(∀H',N H'->∃m',m'<m/\W (i+1) m' H')/\∀x H3,J.yld i H2 x H3->Jc js g tt te σ acc x H3 N)
variable{Q0:Value->Shared->Prop}{te:TE}{tg:Expr}{use:Option (Value->Sem Unit)}{cx pos':Pos}
section
variable{elt:Expr}{wi:TI}{g:TG}{tt:TT}
structure Off(X:Cx)(pins:List (Addr×Obj))(H:Hp)(C:Addr)(s:Shared):Prop where
 ns:∃m,s.heap.Ns C m
 none:H C=none
 loc:C≠X.env.locals
 new:X.s₀.heap.objs.size<=C
 cells:∀x c,X.env.cells.lookup x=some c->c≠C
 pins:∀p∈X.pn++pins,p.1≠C
theorem Off.go{σ:St}{C:Addr}(o:Off X pins H C s)(I:Inv X pins σ H s)(hs:RK C s.heap h'):Inv X pins σ H { s with heap:=h' }:=
 I.turned (t':=s.toks) (λb ob hb e=>(hs.2 b hb).trans e) o.none o.loc (.inr o.new) o.cells o.pins
theorem vT(hc:X.calm=true)(gz:X.env.scope=os)(gr:X.N=oN)(ok:iR os oN sc N js=true)(hi:PI X tg iter wi)(hg:∀C fp s₀ H₀,PG (X.comp sc N C fp s₀ H₀) tg g)(ht:∀C fp s₀ H₀,PTs (X.comp sc N C fp s₀ H₀) ifs tt)(he:∀C fp s₀ H₀,PE (X.comp sc N C fp s₀ H₀) elt te){σ:St}{Q:VK}(I:Inv X pins σ H s)(h:CJ js wi g tt te σ H Q)(jm:∀acc C s6 H6,Inv X pins σ H6 s6->Off X pins H6 C s6->Q (.ref acc) H6->compPost (model X.prog X.w) X.A X.xe use Q0 (.ref acc) C (.ok .next) s6)(hs:∀x,Qw iter X.env x=pure x:=by intro _;rfl):
  wpAny (model X.prog X.w) X.A (comprehension (.ListComp elt [⟨tg,iter,ifs,0⟩] sc pos) sc X.env (firstIterPos [⟨tg,iter,ifs,0⟩] pos) (newList []) false (eval iter X.env) use) Q0 X.xe s:=by
 have S:=DN ok;subst gz gr;have vd:∀y∈sc.names,y.2=PM->∃c,X.env.cells.lookup y.1=some c:=λy hy e=>I.ok.has y.1 (S.fr y hy e);have ir:∀x c,(fS X.env.cells sc.names []).lookup x=some c->X.env.cells.lookup x=some c:=λx c e=>by
  rcases qK _ _ e with z|⟨y,hy,e1,e2,e3⟩
  ·cases z
  ·obtain⟨d,hd⟩:=vd y hy e2;rw[e1]at hd;rw[hd]at e3;rw[hd,e3];rfl
 refine wpAny_comprehension_free (use:=use) rfl hs (uN vd) S.kind S.nm (thn (hi pins s σ H _ I h) λv s1 h1=>thn h1 λp7 s2 h2=>?_);obtain⟨it,fp,tn,J,H2,e,I2,T,j6,f2,q⟩:=h2;subst e;obtain⟨W,⟨m0,w0⟩,turn⟩:=q s2.heap.objs.size I2.fresh;refine Pw (pJ ?_);have I3:Inv X pins σ (upd H2 s2.heap.objs.size (.lst [])) { s2 with heap:=s2.heap.push { cls:=.type "list",data:=.seq ([]:List Value).toArray },toks:=s2.toks }:=I2.lnew (its:=[]) (ys:=[]) .nil (Pu _);generalize xb:upd H2 s2.heap.objs.size (HO.lst [])=H3 at w0 I3;generalize wy:({ s2 with heap:=s2.heap.push { cls:=.type "list",data:=.seq ([]:List Value).toArray },toks:=s2.toks }:Shared)=s3 at I3;have yw:({ s2 with heap:=s2.heap.push { cls:=.type "list",dict:=none,data:=.seq ([]:List Value).toArray } }:Shared)=s3:=wy;have vp:s2.heap.push { cls:=.type "list",dict:=none,data:=.seq ([]:List Value).toArray }=s3.heap:=by rw[<-yw]
 (try rw[vp])
 have hC:∀b o,s3.heap.get? b=some o->b≠s3.heap.objs.size:=λb o e=>OW (OS e);have old:∀b o,s3.heap.get? b=some o->(pushCells (s3.heap.push { cls:=.type "dict",data:=.dict #[] }) sc.names).get? b=some o:=λb o e=>pushCells_keeps _ _ b o (zz _ e);have k6:(pushCells (s3.heap.push { cls:=.type "dict",data:=.dict #[] }) sc.names).Ns s3.heap.objs.size (λ_=>none):=(Heap.Ns.new s3.heap (.type "dict")).keeps (pushCells_keeps _ _);have kz:=cellsFrom_ok sc.names (s3.heap.push { cls:=.type "dict",data:=.dict #[] }) (s3.heap.objs.size+1) [] ⟨λ_ _ hm=>(nomatch hm),R7⟩ (by rw[Qp];exact OO _);rw[Qp]at kz;generalize pushCells (s3.heap.push { cls:=.type "dict",data:=.dict #[] }) sc.names=h₁ at old k6 kz⊢;have l6:∀{x c},(P7 (s3.heap.objs.size+1) sc.names (fS X.env.cells sc.names [])).lookup x=some c->((x,c)∈P7 (s3.heap.objs.size+1) sc.names []/\h₁.IsCell c none/\s3.heap.objs.size+1<=c)\/(X.env.cells.lookup x=some c/\c<s3.heap.objs.size):=λ{x c} e=>by
  rw[aZ,nX]at e;cases eo:(P7 (s3.heap.objs.size+1) sc.names []).lookup x with
  |some d=>
   rw[eo]at e;cases e
   have:=mem_of_lookup eo;exact .inl ⟨this,kz.empty x c this⟩
  |none=>
   rw[eo]at e;have e:=ir x c e;obtain⟨v,z⟩:=I3.cell x c e;exact .inr ⟨e,z.lt⟩
 have ur:∀{x c},sc.names.lookup x=some .free->(fS X.env.cells sc.names []).lookup x=some c->(P7 (s3.heap.objs.size+1) sc.names (fS X.env.cells sc.names [])).lookup x=some c:=λ{x c} hf e=>by
  rw[aZ,nX];cases eo:(P7 (s3.heap.objs.size+1) sc.names []).lookup x with
  |some d=>
   have:=S.own _ (iS (mem_of_lookup eo)) rfl;rw[hf]at this;cases this
  |none=>exact e
 have l5:tn 0 s3.heap:=T.keep 0 _ _ j6 λb hb o e=>by
  rw[<-vp];exact zz _ e
 have ql:∀b∈fp,∃o,s3.heap.get? b=some o/\∀v,o.data≠.cell v:=T.obj 0 _ l5;have f3:∀b∈fp,xN X pins H3 b:=λb hb=>by
  obtain⟨o,ho,_⟩:=T.obj 0 _ j6 b hb;refine⟨?_,(f2 b hb).2⟩;rw[<-xb,aW (OW (OS ho))];exact(f2 b hb).1
 -- the block's context
 have m9:(X.comp sc N s3.heap.objs.size fp s3 H3).Ok:=by
  refine⟨I.ok.mod,S.kind,I.ok.glob,I.ok.blt,OO _,λx y c e1 e2=>?_,λx hx=>?_,λx c z e=>?_,I.ok.hd,I.ok.frames,.inl rfl,λb hb=>?_,I3.bs,
   PD I.ok.bsz I3.sz,λb o e hb=>?_,λb hb hf=>?_,I3.stack,I3.stkFree⟩
  ·rcases l6 e1 with⟨m1,_,g1⟩|⟨z1,g1⟩ <;> rcases l6 e2 with⟨m2,_,g2⟩|⟨z2,g2⟩
   ·exact name_of_addr kz.apart m1 m2
   ·exact absurd (Pd g2 (Nat.le_of_succ_le g1)) (Qs _)
   ·exact absurd (Pd g1 (Nat.le_of_succ_le g2)) (Qs _)
   ·exact I.ok.inj x y c z1 z2
  ·have fr:sc.names.lookup x=some .free->∃c,(P7 (s3.heap.objs.size+1) sc.names (fS X.env.cells sc.names [])).lookup x=some c:=λhf=>
    let ⟨c,hc⟩:=sD (cells:=X.env.cells) (x:=x) sc.names [] (.inr ⟨_,cK hf,rfl,rfl⟩)
    ⟨c,ur hf hc⟩
   have fin:∀{k},(relabel sc X.env).names.lookup x=some k->(k=.cell\/k=.free)->∃c,(P7 (s3.heap.objs.size+1) sc.names (fS X.env.cells sc.names [])).lookup x=some c:=λ{k} e hk=>by
    rcases kF (sc:=sc) e with z|⟨_,z⟩
    ·rcases hk with rfl|rfl
     ·obtain⟨c,hc⟩:=eL (n:=s3.heap.objs.size+1) (cK z);exact⟨c,by rw[aZ,nX,hc];rfl⟩
     ·exact fr z
    ·exact fr z
   rcases hx with hx|hx
   ·exact fin hx (.inl rfl)
   ·exact fin hx (.inr rfl)
  ·have z:sc.names.lookup x=some .cell:=by
    have z:(match sc.names.lookup x with|some .cell=>true|_=>false)=true:=z
    split at z
    ·assumption
    ·cases z
   have e:(P7 (s3.heap.objs.size+1) sc.names (fS X.env.cells sc.names [])).lookup x=some c:=e;obtain⟨d,hd⟩:=eL (n:=s3.heap.objs.size+1) (cK z);rw[aZ,nX,hd]at e;cases e
   exact Nat.le_of_succ_le (kz.empty x c (mem_of_lookup hd)).2
  ·obtain⟨o,ho,_⟩:=ql b hb;refine⟨hC b o ho,λx c e=>?_⟩;rcases l6 e with⟨_,_,g1⟩|⟨z1,_⟩
   ·exact QY (Pd (OS ho) (Nat.le_of_succ_le g1))
   ·exact(f3 b hb).2.2.2.2.1 x c z1
  ·rcases(f3 b hb).2.2.2.1 with z|z
   ·exact I.ok.noex b o e z
   ·exact absurd (Pd (OS e) (PD I.ok.bsz z)) (Qs _)
  ·rcases KP.mp (I3.stkSub b hf) with z|z
   ·exact(f3 b hb).2.1 z
   ·exact(f3 b hb).2.2.1 z
 -- what the block takes from around it
 have kb:∀(i:Nat)(x:Str)(v:V),N[i]?=some x->(iT js σ)[i]?=some (some v)->∃u c o,RelV v u/\((compEnvC sc (P7 (s3.heap.objs.size+1) sc.names (fS X.env.cells sc.names [])) s3.heap.objs.size X.env).kindOf x=some .cell\/(compEnvC sc (P7 (s3.heap.objs.size+1) sc.names (fS X.env.cells sc.names [])) s3.heap.objs.size X.env).kindOf x=some .free)/\
   (P7 (s3.heap.objs.size+1) sc.names (fS X.env.cells sc.names [])).lookup x=some c/\s3.heap.get? c=some o/\o.data=.cell (some u)/\H3 c=none/\c∉fp:=by
  intro i x v hN hv;obtain⟨j,hj,hσ⟩:=HB hv;obtain⟨x',cf,ho,hf⟩:=S.cap i j hj;rw[hN]at cf;cases cf;obtain⟨m,hn,hl⟩:=I3.loc;have qr:Vis X.env.scope x:=by
   rcases S.fr _ (cK hf) rfl with z|z
   ·exact .inr (.inl z)
   ·exact .inr (.inr z)
  obtain⟨u,r,l⟩:=hl j x v ho hσ qr;obtain⟨c,kj⟩:=sD (cells:=X.env.cells) (x:=x) sc.names [] (.inr ⟨_,cK hf,rfl,rfl⟩);have qo:=ir x c kj;have bo:s3.heap.IsCell c (some u):=by
   rcases l with⟨k,_⟩|⟨_,c',e,z⟩
   ·exfalso;rcases S.fr _ (cK hf) rfl with z|z
    ·have k':X.env.scope.names.lookup x=some .local:=k;rw[z]at k';cases k'
    ·have k':X.env.scope.names.lookup x=some .local:=k;rw[z]at k';cases k'
   ·rw[qo]at e;cases e;exact z
  obtain⟨o,b7,hd⟩:=bo;refine⟨u,c,o,r,?_,ur hf kj,b7,hd,I3.freeC x c qo,λhb=>(f3 c hb).2.2.2.2.1 x c qo rfl⟩;exact(nW (env:=X.env) hf).symm
 -- at any state of the block,its names as at its start
 have k8:∀{cp:List (Addr×Obj)}{σ8:St}{H8:Hp}{s8:Shared},Inv (X.comp sc N s3.heap.objs.size fp s3 H3) cp σ8 H8 s8->Inv (X.comp sc N s3.heap.objs.size fp s3 H3) [] (iT js σ) H8 s8:=λ{cp σ8 H8 s8} I8=>by
  refine⟨I8.ok,I8.os,I8.bare,I8.base,?_,I8.cell,I8.free,I8.freeC,λp hp=>by simp[Cx.comp]at hp,I8.hok,?_⟩
  ·obtain⟨m,hn,_⟩:=I8.loc;refine⟨m,hn,λi x v hN hv _=>?_⟩;obtain⟨u,c,o,r,k,hl,ho,hd,xg,wm⟩:=kb i x v hN hv;refine⟨u,r,.inr ⟨k,c,hl,?_⟩⟩;obtain⟨sl,e⟩:=I8.base.any ho xg wm;exact⟨_,e,hd⟩
  ·show(iT js σ).length=N.length
   unfold iT;rw[OP,S.len]
 have I4:Inv (X.comp sc N s3.heap.objs.size fp s3 H3) [] (iT js σ) H3 { s3 with heap:=h₁ }:=by
  refine⟨m9,rfl,I3.bare,Un.kept old,⟨_,k6,λi x v hN hv _=>?_⟩,λx c e=>?_,I3.fresh,λx c e=>?_,λp hp=>by simp[Cx.comp]at hp,I3.hok.kept old,?_⟩
  ·obtain⟨u,c,o,r,k,hl,ho,hd,_,_⟩:=kb i x v hN hv;exact⟨u,r,.inr ⟨k,c,hl,o,old c o ho,hd⟩⟩
  ·rcases l6 e with⟨_,g1,_⟩|⟨z1,_⟩
   ·exact⟨_,g1⟩
   ·obtain⟨v,o,ho,hd⟩:=I3.cell x c z1;exact⟨v,o,old c o ho,hd⟩
  ·rcases l6 e with⟨_,_,g1⟩|⟨z1,_⟩
   ·exact I3.hok.fresh (by omega)
   ·exact I3.freeC x c z1
  ·show(iT js σ).length=N.length
   unfold iT;rw[OP,S.len]
 have u9:tn 0 h₁:=T.keep 0 _ _ l5 λb hb o e=>old b o e;have jt:∀{H':Hp},(∀b∈fp,H' b=none)->∀b∈fp,xN (X.comp sc N s3.heap.objs.size fp s3 H3) [] H' b:=λ{H'} hn b hb=>
  ⟨hn b hb,(m9.exf b hb).1,m9.exfs b hb,.inl hb,(m9.exf b hb).2,λp hp=>by simp[Cx.comp]at hp⟩
 have fin:∀(s6:Shared)(H6:Hp),Inv (X.comp sc N s3.heap.objs.size fp s3 H3) [] (iT js σ) H6 s6->Q (.ref s2.heap.objs.size) H6->compPost (model X.prog X.w) X.A X.xe use Q0 (.ref s2.heap.objs.size) s3.heap.objs.size (.ok .next) s6:=λs6 H6 I6 q6=>by
  have I7:Inv X pins σ H6 s6:=I3.call' (ch:=fp) I6.os I6.base I6.hok I6.bare λb hb=>⟨(f3 b hb).2.2.2.1,(f3 b hb).2.1,(f3 b hb).2.2.2.2.1,(f3 b hb).2.2.2.2.2⟩;refine jm _ _ _ _ I7 ⟨let ⟨m,hn,_⟩:=I6.loc;⟨m,hn⟩,I6.free,QY I3.lt,I3.sz,λx c e=>?_,λp hp=>?_⟩ q6
  ·obtain⟨v,z⟩:=I3.cell x c e;exact OW z.lt
  ·exact OW (OS (I3.pin p hp).1)
 have loop:codeAny (model X.prog X.w) X.A (.compLoop (.ListComp elt [⟨tg,iter,ifs,0⟩] sc pos) 0 (.ref it) (.ref s2.heap.objs.size) (compEnvC sc (P7 (s3.heap.objs.size+1) sc.names (fS X.env.cells sc.names [])) s3.heap.objs.size X.env))
   (compPost (model X.prog X.w) X.A X.xe use Q0 (.ref s2.heap.objs.size) s3.heap.objs.size) { s3 with heap:=h₁ }:=by
  refine xW (λn s'=>∃i H',Inv (X.comp sc N s3.heap.objs.size fp s3 H3) [] (iT js σ) H' s'/\tn i s'.heap/\(∀b∈fp,H' b=none)/\W i n H') ?_ m0 ⟨0,H3,I4,u9,λb hb=>(f3 b hb).1,w0⟩;rintro n s5 ⟨i,H5,I5,j7,n6,w5⟩;rcases turn i n H5 w5 with⟨stop,qn⟩|⟨go,Nn,hN,step⟩
  ·refine thn (T.done (X.comp sc N s3.heap.objs.size fp s3 H3) rfl rfl rfl hc i [] s5 (iT js σ) H5 (λ_ _=>False) I5 (jt n6) j7 stop) λr s6 ⟨hr,I6⟩=>?_;subst hr;exact fin s6 H5 I6 qn
  ·refine thn (T.item (X.comp sc N s3.heap.objs.size fp s3 H3) rfl rfl rfl hc i [] s5 (iT js σ) H5 (λ_ _=>False) I5 (jt n6) j7 go) λr s6 ⟨u,hr,h6⟩=>?_;subst hr;refine thn h6 λ_ s7 hz=>?_;obtain⟨x,H7,I7,r7,y7,uo,yo⟩:=hz;have wo:=I7.pinned (jt yo) (T.obj _ _ uo);refine thn (hg _ _ _ _ _ s7 _ H7 x u _ wo r7 (step x H7 y7)) λ_ s8 ⟨σ8,H8,I8,q8⟩=>?_;refine thn (ht _ _ _ _ _ s8 σ8 H8 _ I8 q8) λb s9 ⟨H9,I9,q9⟩=>?_;have again:∀{σ':St}{H':Hp}{s':Shared},Inv (X.comp sc N s3.heap.objs.size fp s3 H3) ([]++rW fp s7.heap) σ' H' s'->Nn H'->∃m,m<n/\∃i H',Inv (X.comp sc N s3.heap.objs.size fp s3 H3) [] (iT js σ) H' s'/\tn i s'.heap/\(∀b∈fp,H' b=none)/\W i m H':=λ{σ' H' s'} I' n'=>by
    obtain⟨m',hm,w'⟩:=hN H' n';refine⟨m',hm,i+1,H',k8 I',T.keep _ _ _ uo λb hb o e=>(I'.pin (b,o) (PB _ (PB _ (iQ hb e)))).1,λb hb=>?_,w'⟩;obtain⟨o,e,d⟩:=T.obj _ _ uo b hb;exact(I'.pin (b,o) (PB _ (PB _ (iQ hb e)))).2.1
   cases b with
   |false=>exact again I9 q9
   |true=>
    refine thn (he _ _ _ _ _ s9 σ8 H9 _ I9 q9) λu' s10 ⟨v,H10,I10,rv,ys,b8,hz,n10⟩=>?_;refine thn (vQ (X:=X.comp sc N s3.heap.objs.size fp s3 H3) _ s10 σ8 H10 (.ref s2.heap.objs.size) [v] (.ref s2.heap.objs.size) [u'] (λ_ H'=>Nn H') I10 rfl (.cons rv .nil) ⟨_,ys,v,rfl,rfl,b8,hz,n10⟩) λ_ s11 ⟨_,H11,I11,_,n11⟩=>?_;exact again I11 n11
 exact codeAny_compStart_list loop (T.self X.A 0 _ _ _ u9 loop)
theorem HE(hc:X.calm=true)(gz:X.env.scope=os)(gr:X.N=oN)(ok:iR os oN sc N js=true)(hi:PI X tg iter wi)
  (hg:∀C fp s₀ H₀,PG (X.comp sc N C fp s₀ H₀) tg g) (ht:∀C fp s₀ H₀,PTs (X.comp sc N C fp s₀ H₀) ifs tt) (he:∀C fp s₀ H₀,PE (X.comp sc N C fp s₀ H₀) elt te)
  (hs:∀x,Qw iter X.env x=pure x:=by intro _;rfl):PE X (.ListComp elt [⟨tg,iter,ifs,0⟩] sc pos) (CJ js wi g tt te):=by
 intro pins s σ H Q I h;rw[eval_ListComp];refine vT (use:=none) hc gz gr ok hi hg ht he I h (λacc C s6 H6 I6 o q=>?_) hs;exact⟨o.ns.choose,o.ns.choose_spec,λh' fo=>⟨.ref acc,H6,o.go I6 fo,rfl,q⟩⟩
theorem BG(hN:X.N.Nodup)(cf:X.N[i]?=some x)(gp:X.env.scope.names.lookup x=some .local)(hc:X.calm=true)(gz:X.env.scope=os)(gr:X.N=oN)(ok:iR os oN sc N js=true)(hi:PI X tg iter wi)(hg:∀C fp s₀ H₀,PG (X.comp sc N C fp s₀ H₀) tg g)(ht:∀C fp s₀ H₀,PTs (X.comp sc N C fp s₀ H₀) ifs tt)(he:∀C fp s₀ H₀,PE (X.comp sc N C fp s₀ H₀) elt te)(ka:swapsWith (.ListComp elt [⟨tg,iter,ifs,0⟩] sc pos) (some (.Name x pos')) cx.line X.env=pure true:=by rfl)(hs:∀x,Qw iter X.env x=pure x:=by intro _;rfl):PS X (.Assign [.Name x pos'] (.ListComp elt [⟨tg,iter,ifs,0⟩] sc pos) cx) (JD (CJ js wi g tt te) (ES i)):=by
 intro pins s σ H D I h
 rw[exec_Assign_Name_used _ _ _ _ ka]
 refine ff (wpAny_standAt (ff ?_))
 show wpAny _ X.A (do let _ <-comprehension (.ListComp elt [⟨tg,iter,ifs,0⟩] sc pos) sc X.env _ (newList []) false (eval iter X.env) (some (assign (.Name x pos') X.env))) _ _ s
 refine ff (thn (vT (use:=some (assign (.Name x pos') X.env)) (Q0:=λ_ s'=>SP X pins D .next s') hc gz gr ok hi hg ht he I h (λacc C s6 H6 I6 o q=>?_) hs) λ_ s' hq=>z8 (z8 hq))
 show wpAny _ X.A (assign (.Name x pos') X.env (.ref acc)) _ _ _
 refine wpAny_assign_Name (vJ I6 hN cf (.inl gp) (v:=.ref acc) rfl (λs7 I7 ⟨a,hs7,ha⟩=>?_) (.inr gp))
 have vf:C≠a:=by
  rcases ha with rfl|ha
  ·exact o.loc
  ·exact λe=>o.cells x a ha e.symm
 obtain⟨m,hn⟩:=o.ns
 have o7:Off X pins H6 C s7:=⟨⟨m,hn.sameBut hs7 vf⟩,o.none,o.loc,o.new,o.cells,o.pins⟩
 exact⟨m,hn.sameBut hs7 vf,λh' fo=>⟨_,H6,o7.go I7 fo,q⟩⟩
end
def M4:V->Option Int->Option Int->Hp->VK->Prop:=λx lo hi H Q=>∃z,x=.str z/\z.length<=OR/\Q (.str (Rc z lo hi)) H
theorem part_of{v:Value}{o:Option Int}(h:IsPart v o):∃p:Option (Int×Tok),v=partValue p/\p.map (·.1)=o:=by
 cases h with
 |none=>exact⟨none,rfl,rfl⟩
 |int i t=>exact⟨some (i,t),rfl,rfl⟩
theorem K7:SlR X M4:=by
 intro pins s σ H x v vl vu lo hi sl Q I rx hs pl pu h;obtain⟨z,rfl,hz,q⟩:=h;obtain⟨t,rfl⟩:=rx;obtain⟨l,rfl,rfl⟩:=part_of pl;obtain⟨u,rfl,rfl⟩:=part_of pu;obtain⟨o,ho,hc,hd⟩:=hs;refine⟨"str",_,PySem.F.slot_str_getitem.lookup,P8 s z t,?_⟩;refine wpAny_getItem_str_slice (l:=l) (u:=u) (st:=none) ⟨o,ho,hc,hd⟩ rfl ?_;have e:sliceMade z t l u none=if((1:Int) == 1&&(RN (l.map (·.1)) (u.map (·.1)) 1 z.length).length == z.length)=true then Made.val (.str z t) else Made.str ⟨((RN (l.map (·.1)) (u.map (·.1)) 1 z.length).filterMap (z.cps[·]?)).toArray⟩:=rfl;have hle:=Txt.slice_le z (l.map (·.1)) (u.map (·.1));unfold Rc at q hle;rw[e]
 by_cases mm:((1:Int) == 1&&(RN (l.map (·.1)) (u.map (·.1)) 1 z.length).length == z.length)=true
 ·rw[if_pos mm]at q⊢;exact⟨.str z,H,I,⟨t,rfl⟩,q⟩
 ·rw[if_neg mm]at q hle⊢;exact⟨PD hle hz,.str _,H,I.tok _,⟨_,rfl⟩,q⟩
theorem mR:∀{ss:List Str}{us:List Value},aI (ss.map V.str) us->StrsAre us ss
 |[],_,r=>by cases r;exact .nil
 |x::ss,_,r=>by
  cases r with
  |cons h t=>
   obtain⟨tk,rfl⟩:=h;exact .cons x tk (mR t)
theorem vU:∀{us:List Value}{ss:List Str},StrsAre us ss->aI (ss.map V.str) us
 |_,_,.nil=>.nil
 |_,_,.cons x t h=>.cons ⟨t,rfl⟩ (vU h)
theorem pK:cG X (.builtin "sorted") (λxs H Q=>∃p ss,xs=[.ref p]/\SqL X.K H p (ss.map V.str)/\ss.length<64/\
  ∀l fk,H l=none->fk.Perm ss->sortedS fk=true->Q (.ref l) (upd H l (.lst (fk.map V.str)))):=by
 intro pins s σ H xs us Q I r h;obtain⟨p,ss,rfl,hq,f7,q⟩:=h;obtain⟨u,rfl,ru⟩:=vals1 r;cases ru
 obtain⟨its,rv,pl,hz⟩:=I.list hq;have hlen:=rv.length;rw[OP]at hlen;refine sorted_strs pl.isList (mR rv) (by omega) λout fk a1 a2 a3=>?_;obtain⟨e,he⟩:=sortedAll_at s.heap its out;refine⟨.ref (s.heap.objs.size+1),_,I.laid (t':=s.toks) (o:=.lst (fk.map V.str)) (λb ob h=>sortedAll_old h) (Nat.le_succ _) ?_,rfl,q _ fk (I.hok.fresh (Nat.le_succ _)) a2 a3⟩;refine⟨?_,out.toList,e,vU a1,by rw[he]⟩;rw[OP,a2.length_eq];exact Sr (RM f7 (by decide))
variable{es:List Expr}{n:Nat}
theorem gT{k:Nat}{t:TGs}(K:z9)(hK:X.K=K)(hc:X.calm=true)(h:PGs X es t)(hn:(Q6 es X.env).length=n:=by rfl)(cz:(Q6 es X.env).findIdx? (·.1)=none:=by rfl):PG X (.Tuple es k pos) (LH K n t):=by subst hK;exact JC hc h hn cz
variable{e:Expr}
theorem PE.imp{t:TE}{t':TE}(h:PE X e t)(i:∀σ H Q,t' σ H Q->t σ H Q):PE X e t':=λpins s σ H Q I q=>h pins s σ H Q I (i σ H Q q)
theorem PT.imp{t t':TT}(h:PT X e t)(i:∀σ H Q,t' σ H Q->t σ H Q):PT X e t':=λpins s σ H Q I q=>h pins s σ H Q I (i σ H Q q)
variable{f:Value->Value->Sem Value}
theorem OpR.imp{r r':R2}(h:OpR X f r)(i:∀x y H Q,r' x y H Q->r x y H Q):OpR X f r':=λpins s σ H x y v u Q I rx ry q=>h pins s σ H x y v u Q I rx ry (i x y H Q q)
theorem cG.imp{f:Value}{r r':List V->Hp->VK->Prop}(h:cG X f r)(i:∀xs H Q,r' xs H Q->r xs H Q):cG X f r':=λpins s σ H xs us Q I rx q=>h pins s σ H xs us Q I rx (i xs H Q q)
def M5(K:z9):R2:=λx y H Q=>match x,y with
 |.int i,.int j=>Q (.int (i+j)) H
 |.str i,.str j=>i.length+j.length<=OR/\Q (.str (i++j)) H
 |.ref _,.ref _=>LX x y H Q\/J' K x y H Q
 |_,_=>False
theorem HF(K:z9)(hK:X.K=K):OpR X (Qe .Add) (M5 K):=by
 subst hK;refine(JK.or (By.or (K0.or Hv))).imp λx y H Q h=>?_;cases x <;> cases y <;> first
  |exact .inl ⟨_,_,rfl,rfl,h⟩
  |exact .inr (.inl ⟨_,_,rfl,rfl,h.1,h.2⟩)
  |exact .inr (.inr h)
  |exact h.elim
def vV(C:Int->Int->Prop)(f:Int->Int->Int):R2:=λx y H Q=>match x,y with
 |.int i,.int j=>C i j/\Q (.int (f i j)) H
 |_,_=>False
def Fe(f:Int->Int->Int):R2:=λx y H Q=>match x,y with
 |.int i,.int j=>Q (.int (f i j)) H
 |_,_=>False
theorem nY{C:Int->Int->Prop}{g:Int->Int->Int}(h:OpR X f (rI C λi j=>.int (g i j))):OpR X f (vV C g):=
 h.imp λx y H Q q=>by cases x <;> cases y <;> first|exact⟨_,_,rfl,rfl,q.1,q.2⟩|exact q.elim
theorem Ff{g:Int->Int->Int}(h:OpR X f (rI0 λi j=>.int (g i j))):OpR X f (Fe g):=
 h.imp λx y H Q q=>by cases x <;> cases y <;> first|exact⟨_,_,rfl,rfl,q⟩|exact q.elim
theorem HG:OpR X (Qe .Sub) (Fe λi j=>i-j):=Ff JL
theorem HH:OpR X (Qe .Mult) (vV A4 λi j=>i*j):=nY JM
theorem HJ:OpR X (Qe .FloorDiv) (vV EV λi j=>i/j):=nY Hn
theorem HK:OpR X (Qe .Mod) (vV (λ_ j=>0<j) λi j=>i%j):=nY JN
theorem HL:OpR X (Qe .Pow) (vV DD λi j=>i ^ j.toNat):=nY JO
def Ab(f:Int->Int->Bool)(g:List Nat->List Nat->Bool):R2:=λx y H Q=>match x,y with
 |.int i,.int j=>Q (.bl (f i j)) H
 |.str i,.str j=>Q (.bl (g i.cps.toList j.cps.toList)) H
 |_,_=>False
variable{g:List Nat->List Nat->Bool}
theorem xX{p:Int->Int->Bool}(h1:OpR X f (rI0 λi j=>.bl (p i j)))(h2:OpR X f (λx y H Q=>∃i j,x=.str i/\y=.str j/\Q (.bl (g i.cps.toList j.cps.toList)) H)):OpR X f (Ab p g):=
 (h1.or h2).imp λx y H Q q=>by cases x <;> cases y <;> first|exact .inl ⟨_,_,rfl,rfl,q⟩|exact .inr ⟨_,_,rfl,rfl,q⟩|exact q.elim
theorem K8:OpR X (Pn .Lt) (Ab (λi j=>decide (i<j)) λi j=>decide (i<j)):=xX LL DE
theorem K9:OpR X (Pn .Gt) (Ab (λi j=>decide (j<i)) λi j=>decide (j<i)):=xX LN λpins s σ H x y v u Q I rx ry h=>by
 obtain⟨i,j,rfl,rfl,q⟩:=h;obtain⟨t,rfl⟩:=rx;obtain⟨t',rfl⟩:=ry;exact PySem.P.gt_str (xO I q rfl)
theorem K':OpR X (Pn .LtE) (Ab (λi j=>decide (i<=j)) λi j=>!decide (j<i)):=xX LM λpins s σ H x y v u Q I rx ry h=>by
 obtain⟨i,j,rfl,rfl,q⟩:=h;obtain⟨t,rfl⟩:=rx;obtain⟨t',rfl⟩:=ry;exact PySem.P.le_str (xO I q rfl)
variable{vs:List V}
section
variable{a:Expr}{t t':TE}
theorem HM(hu:X.A.units+1<cLine):IxR X (λx y H Q=>∃p v,x=.ref p/\mQ H p y (some v)/\Q v H):=by
 intro value slice pins s σ H x y v u Q I rx ry h hs;obtain⟨p,w,rfl,g,q⟩:=h;cases rx
 have hT:=A9 I g;unfold subscriptTail;refine ff ?_;rw[getitemInPython_of_ne hT.not_modules];refine ff (Rp hT Sg.lookup ?_);have fin:wpAny (model X.prog X.w) X.A (subscripted slice false (.ref p) u) (λr s₃=>wpAny (model X.prog X.w) X.A (letTemporaryGo value (.ref p) r >>= λ_=>pure r) (EP X pins σ Q) X.xe s₃) X.xe s:=by
  rw[hs];exact wpAny_operating (DK hu I g ry λw' s3 I3 ay=>ff (wpAny_letTemporaryGo (z8 ⟨w,H,I3,ay,q⟩)))
 first
  |exact z8 (ff fin)
  |exact ff (z8 (ff fin))
  |exact ff fin
def M6(K:z9):R2:=λx y H Q=>match x with
 |.str z=>(match y with
  |.int i=>z.length<=OR/\∃c,atI z.cps.toList i=some c/\Q (.str ⟨#[c]⟩) H
  |_=>False)
 |.ref p=>(∃xs i v,y=.int i/\(SqL K H p xs\/SqT K H p xs)/\atI xs i=some v/\Q v H)\/∃v,mQ H p y (some v)/\Q v H
 |_=>False
theorem IxR.imp{r r':R2}(h:IxR X r)(i:∀x y H Q,r' x y H Q->r x y H Q):IxR X r':=λa b pins s σ H x y v u Q I rx ry q hs=>h a b pins s σ H x y v u Q I rx ry (i x y H Q q) hs
theorem ixC(hu:X.A.units+1<cLine)(K:z9)(hK:X.K=K):IxR X (M6 K):=by
 subst hK;refine(Hw.or (JW.or (JX.or (HM hu)))).imp λx y H Q h=>?_;cases x with
 |str z=>
  cases y with
  |int i=>obtain⟨h1,c,h2,h3⟩:=h;exact .inr (.inr (.inl ⟨z,i,c,rfl,rfl,h1,h2,h3⟩))
  |_=>exact h.elim
 |ref p=>
  rcases h with⟨xs,i,v,rfl,hs|hs,ha,hq⟩|⟨v,g,hq⟩
  ·exact .inl ⟨p,xs,i,v,rfl,rfl,hs,ha,hq⟩
  ·exact .inr (.inl ⟨p,xs,i,v,rfl,rfl,hs,ha,hq⟩)
  ·exact .inr (.inr (.inr ⟨p,v,rfl,g,hq⟩))
 |_=>exact h.elim
theorem Ka(hu:X.A.units+1<cLine)(K:z9)(hK:X.K=K):OpR X (Pn .In) (λx y H Q=>rIn K false x y H Q\/∃a o,y=.ref a/\mQ H a x o/\Q (.bl o.isSome) H):=by
 subst hK;refine DJ.or λpins s σ H x y v u Q I rx ry h=>?_;obtain⟨a,o,rfl,g,q⟩:=h;cases ry
 exact O1 hu I g rx λs' I'=>⟨.bl o.isSome,H,I',rfl,q⟩
theorem DO(hu:X.A.units+1<cLine)(K:z9)(hK:X.K=K):OpR X (Pn .NotIn) (λx y H Q=>rIn K true x y H Q\/∃a o,y=.ref a/\mQ H a x o/\Q (.bl (!o.isSome)) H):=by
 subst hK;refine xS.or λpins s σ H x y v u Q I rx ry h=>?_;obtain⟨a,o,rfl,g,q⟩:=h;cases ry
 exact Hy hu I g rx λs' I'=>⟨.bl (!o.isSome),H,I',rfl,q⟩
def M7(K:z9):List V->Hp->VK->Prop:=λxs H Q=>match xs with
 |[.str y]=>y.length<=OR/\Q (.int y.length) H
 |[.ref p]=>(∃xs,(SqL K H p xs\/SqT K H p xs)/\Q (.int xs.length) H)\/∃kvs,H p=some (.dK kvs)/\Q (.int kvs.length) H
 |_=>False
theorem DP(K:z9)(hK:X.K=K):cG X (.builtin "len") (M7 K):=by
 subst hK;intro pins s σ H xs us Q I r h
 match xs,h with
 |[.str y],h=>exact F1 pins s σ H _ us Q I r ⟨_,_,rfl,⟨h.1,rfl⟩,h.2⟩
 |[.ref p],h=>
  rcases h with⟨ys,hs,q⟩|⟨kvs,hs,q⟩
  ·exact xT pins s σ H _ us Q I r ⟨p,ys,rfl,hs,q⟩
  ·exact DM pins s σ H _ us Q I r ⟨p,kvs,rfl,hs,q⟩
theorem Ac(K:z9)(hK:X.K=K):cG X (.type "tuple") (λxs H Q=>∃p ys,xs=[.ref p]/\((SqL K H p ys/\∀l,H l=none->Q (.ref l) (upd H l (.tup ys)))\/(SqT K H p ys/\Q (.ref p) H))):=by subst hK;exact uM
def M8(ta:TA):TI:=λσ H R=>ta σ H λvs H1=>match vs with
 |[.int j]=>(-(2 ^ 62)<=j/\j<2 ^ 62)/\R (Itr 0 j.toNat) H1
 |_=>False
theorem HN{Q:Int->Prop}(h:match vs with|[.int i]=>Q i|_=>False):∃i,vs=[.int i]/\Q i:=by
 split at h
 · exact⟨_,rfl,h⟩
 · exact h.elim
theorem pr1{x:Expr}{ta:TA}{p:Pos}(hg:Gl X "range")(hm:X.mg "range" = none)(ha:PA X [x] ta)(hs:Pe [x] X.env=[(false,eval x X.env)]:=by rfl):PI X tg (.Call (.Name "range" p) [x] [] pos) (M8 ta):=by
 intro pins s σ H R I h;refine Call_ (rV I hg hm boot_range (RL (thn (ha pos pins s σ H _ I h) λus s1 hz=>?_) hs rfl));obtain⟨vs,H1,I1,r1,q1⟩:=hz;obtain⟨j,rfl,⟨h1,h2⟩,q⟩:=HN q1;obtain⟨u,rfl,t,rfl⟩:=vals1 r1;exact call_range_1 (EU I1 (by omega) (by omega) h1 h2 (by simpa using q))
def M9(t:TE):TO:=λσ H Q=>t σ H λx H1=>match x with
 |.int i=>Q (some i) H1
 |_=>False
theorem Fg{x:Expr}(h:PE X x te):PO X (some x) (M9 te):=by
 intro pins s σ H Q I hw;rw[evalPart_some];refine thn (h pins s σ H _ I hw) λu s1 hz=>?_;obtain⟨x,H1,I1,r1,q1⟩:=hz;cases x with
 |int i=>
  obtain⟨t,rfl⟩:=r1;exact⟨some i,H1,I1,.int i t,q1⟩
 |_=>exact q1.elim
end
structure Def(K:z9)(mg:Str->Option Value)(x:Str)(st:Stmt)(f:Addr)(fd:Q9)(ps:List Str):Prop where
 fn:Fun K x x st f fd
 mg:mg x=some (.ref f)
 bd:Binds K fd ps []
theorem M'{f:Addr}{k:Nat}{t:TA}{p:Pos}(D:Def X.K X.mg x st f fd ps)(G:iC X.prog X.w X.K X.mg X.base CX0 k f fd ps sp)(hr:iB k X.A)(ha:PA X (e::es) t)(hg:Gl X x:=by rfl)(fe:(x == ("__debug__" : Str))=false:=by decide)(he:Pe (e::es) X.env=(false,eval e X.env)::Pe es X.env:=by rfl)(bx:(backTo pos (Pe es X.env)).any (·.1)=false:=by rfl):
  PE X (.Call (.Name x p) (e::es) [] pos) (J9 sp [] E0 t):=Hs G hr hg D.mg D.fn.kp D.bd .nil Ja ha fe he bx
theorem Kb{α:Type}{xs:List α}{v:α}(h:xs[i]?=some v):atI xs (i:Int)=some v:=by
 have h1:=(Io.mp h).1;unfold atI ixN;rw[if_pos (by omega),if_pos (by omega)];simpa using h
theorem xU.upd{o:HO}(h:H a=none):xU H (upd H a o):=λb u e=>by
 rw[aW (cJ e h)];exact e
theorem Def.mk'{h:Heap}{f:Addr}{kV:Value}(X:K.In h)(G:h.Ns Pq mg)(a:PU K Pq x=some (some (.ref f)))(l:K.lookup f=some ⟨oc,od,.func (QF x x (dO st) (cQ st) (bD st) .none kV doc pm an cdv ct),osl⟩)(c:SJ K cdv x=true)(k:SH K (.ref f)=true)(b:∀(kV doc pm:Value)(an:Option Addr)(cdv ct:Value)(us:List Value),us.length=ps.length->bindArgs (QF x x (dO st) (cQ st) (bD st) .none kV doc pm an cdv ct) ⟨us,[]⟩=pure (ps.zip us)):
  Def K mg x st f (QF x x (dO st) (cQ st) (bD st) .none kV doc pm an cdv ct) ps:=
 ⟨F8 l c k,PN X G a,(F8 (st:=st) l c k).binds b⟩
open PySem PySem.Spec PyProof.Rows PySem.SeqAt
inductive D where
 |non|bl (b:Bool)|int (i:Int)|str (x:Str)|tup (xs:List D)
mutual
def D.depth:D->Nat
 |.tup xs=>D.depths xs+1
 |_=>0
def D.depths:List D->Nat
 |[]=>0
 |x::xs=>max (D.depth x) (D.depths xs)
end
theorem D.depths_le:∀{xs:List D}{i:Nat}{d:D},xs[i]?=some d->d.depth<=D.depths xs
 |[],_,_,h=>by simp at h
 |x::xs,0,d,h=>by
  have:x=d:=by simpa using h
  subst this
  show x.depth<=max x.depth (D.depths xs)
  omega
 |x::xs,i+1,d,h=>by
  have:=D.depths_le (xs:=xs) (i:=i) (d:=d) (by simpa using h)
  show d.depth<=max x.depth (D.depths xs)
  omega
mutual
/-- the value x is the datum,in the heap H -/
def Rep(K:z9)(H:Hp):D->V->Prop
 |.non,v=>v=.non
 |.bl b,v=>v=.bl b
 |.int i,v=>v=.int i
 |.str x,v=>v=.str x
 |.tup ds,v=>∃a vs,v=.ref a/\SqT K H a vs/\cH K H ds vs
def cH(K:z9)(H:Hp):List D->List V->Prop
 |[],[]=>True
 |d::ds,v::vs=>Rep K H d v/\cH K H ds vs
 |[],_::_=>False
 |_::_,[]=>False
end
mutual
/-- == -/
def eqD:D->D->Bool
 |.non,.non=>true
 |.bl a,.bl b=>a == b
 |.bl a,.int b=>(if a then 1 else 0) == b
 |.int a,.bl b=>a == (if b then 1 else 0)
 |.int a,.int b=>a == b
 |.str a,.str b=>a == b
 |.tup xs,.tup ys=>fB xs ys
 |_,_=>false
def fB:List D->List D->Bool
 |[],[]=>true
 |x::xs,y::ys=>eqD x y&&fB xs ys
 |[],_::_=>false
 |_::_,[]=>false
end
mutual
theorem sE:∀d:D,eqD d d=true
 |.non=>rfl
 |.bl b=>by simp[eqD]
 |.int i=>by simp[eqD]
 |.str x=>by simp[eqD]
 |.tup xs=>by simp only[eqD];exact vW xs
theorem vW:∀ds:List D,fB ds ds=true
 |[]=>rfl
 |d::ds=>by simp only[fB,sE d,vW ds,Bool.and_self]
end
def iU(H H':Hp):Prop:=∀a xs,Rd H a (.tup xs)->Rd H' a (.tup xs)
theorem iU.refl(H:Hp):iU H H:=λ_ _ h=>h
variable{H1 H2:Hp}
theorem iU.trans(a:iU H H1)(b:iU H1 H2):iU H H2:=λc xs h=>b c xs (a c xs h)
theorem iU.same(s:xU H H'):iU H H':=λa xs h=>by
 rcases h with h|⟨o,h⟩
 ·exact .inl (s _ _ h)
 ·exact .inr ⟨o,s _ _ h⟩
def CK:Option HO->Prop
 |some (.tup _)=>False
 |some (.frz _ _)=>False
 |_=>True
theorem iU.upd{p:Addr}{o:HO}(h:CK (H p)):iU H (upd H p o):=λa xs q=>by
 have ne:a≠p:=by
  rintro rfl;rcases q with q|⟨ob,q⟩
  ·rw[q]at h;exact h
  ·rw[q]at h;exact h
 rcases q with q|⟨ob,q⟩
 ·exact .inl (by rw[aW ne];exact q)
 ·exact .inr ⟨ob,by rw[aW ne];exact q⟩
theorem iU.sq{xs:List V}(t:iU H H')(h:SqT K H a xs):SqT K H' a xs:=by
 rcases h with h|h
 ·exact .inl (t a xs h)
 ·exact .inr h
mutual
theorem Rep.tp(t:iU H H'):∀{d:D}{v:V},Rep K H d v->Rep K H' d v
 |.non,_,h=>h
 |.bl _,_,h=>h
 |.int _,_,h=>h
 |.str _,_,h=>h
 |.tup ds,_,⟨a,vs,e,q,r⟩=>⟨a,vs,e,t.sq q,cH.tp t r⟩
theorem cH.tp(t:iU H H'):∀{ds:List D}{vs:List V},cH K H ds vs->cH K H' ds vs
 |[],[],_=>trivial
 |_::_,_::_,⟨h,r⟩=>⟨Rep.tp t h,cH.tp t r⟩
 |[],_::_,h=>h.elim
 |_::_,[],h=>h.elim
end
theorem cH.length:∀{ds:List D}{vs:List V},cH K H ds vs->ds.length=vs.length
 |[],[],_=>rfl
 |_::_,_::_,⟨_,r⟩=>by simp[cH.length r]
 |[],_::_,h=>h.elim
 |_::_,[],h=>h.elim
theorem cH.get:∀{ds:List D}{vs:List V}{i:Nat}{v:V},cH K H ds vs->vs[i]?=some v->∃d,ds[i]?=some d/\Rep K H d v
 |[],[],_,_,_,e=>by simp at e
 |d::_,w::_,0,v,⟨h,_⟩,e=>by
  have:w=v:=by simpa using e
  subst this;exact⟨d,rfl,h⟩
 |_::ds,_::vs,i+1,v,⟨_,r⟩,e=>by
  obtain⟨d,h1,h2⟩:=cH.get (ds:=ds) (vs:=vs) (i:=i) (v:=v) r (by simpa using e)
  exact⟨d,by simpa using h1,h2⟩
 |[],_::_,_,_,h,_=>h.elim
 |_::_,[],_,_,h,_=>h.elim
theorem cH.at:∀{ds:List D}{vs:List V}{i:Nat}{d:D},cH K H ds vs->ds[i]?=some d->∃v,vs[i]?=some v/\Rep K H d v
 |[],[],_,_,_,e=>by simp at e
 |d::_,w::_,0,d',⟨h,_⟩,e=>by
  have:d=d':=by simpa using e
  subst this;exact⟨w,rfl,h⟩
 |_::ds,_::vs,i+1,d,⟨_,r⟩,e=>by
  obtain⟨v,h1,h2⟩:=cH.at (ds:=ds) (vs:=vs) (i:=i) (d:=d) r (by simpa using e)
  exact⟨v,by simpa using h1,h2⟩
 |[],_::_,_,_,h,_=>h.elim
 |_::_,[],_,_,h,_=>h.elim
variable{fg:List V}{its its':List Value}
section
variable{σ:St}
theorem iV{v:Value}{b:Bool}(h:RcAt A s v u b)(hs:v=u->b=true)(hf:∀f t,v≠.float f t):EqAt A s v u b:=λprog w E Q hq=>by
 unfold eqBool;refine Qf ?_;refine wpAny_ite_split (λqy=>?_) (λ_=>?_)
 ·have e:=hs (eq_of_beq qy);subst e;exact ff (Rn (z8 hq))
 ·cases v <;> first|exact absurd rfl (hf _ _)|exact ff (h prog w E _ (QJ hq))|(cases u <;> exact ff (h prog w E _ (QJ hq)))
theorem vX{d:D}{x:V}{v:Value}(h:Rep K H d x)(r:RelV x v):∀f t,v≠.float f t:=λf t e=>by
 subst e;cases d with
 |non=>cases h;cases r
 |bl b=>cases h;cases r
 |int b=>cases h;obtain⟨_,z⟩:=r;cases z
 |str b=>cases h;obtain⟨_,z⟩:=r;cases z
 |tup ds=>obtain⟨_,_,rfl,_⟩:=h;cases r
theorem rE(I:Inv X pins σ H s):∀(n:Nat)(d e:D)(v:V),d.depth<=n->Rep X.K H d v->Rep X.K H e v->d=e
 |n,.non,e,v,_,h,h'=>by
  cases h
  cases e <;> first|(obtain⟨_,_,z,_⟩:=h';exact absurd z (by intro q;cases q))|rfl|exact absurd h' (by intro z;cases z)
 |n,.bl b,e,v,_,h,h'=>by
  cases h
  cases e <;> first|(obtain⟨_,_,z,_⟩:=h';exact absurd z (by intro q;cases q))|(cases h';rfl)|exact absurd h' (by intro z;cases z)
 |n,.int i,e,v,_,h,h'=>by
  cases h
  cases e <;> first|(obtain⟨_,_,z,_⟩:=h';exact absurd z (by intro q;cases q))|(cases h';rfl)|exact absurd h' (by intro z;cases z)
 |n,.str x,e,v,_,h,h'=>by
  cases h
  cases e <;> first|(obtain⟨_,_,z,_⟩:=h';exact absurd z (by intro q;cases q))|(cases h';rfl)|exact absurd h' (by intro z;cases z)
 |0,.tup ds,e,v,hd,h,h'=>absurd hd (by show ¬ D.depths ds+1<=0;omega)
 |n+1,.tup ds,e,v,hd,h,h'=>by
  obtain⟨a,vs,rfl,q,r⟩:=h;cases e with
  |tup es=>
   obtain⟨a',fg,ea,q',r'⟩:=h';cases ea
   have:=I.tuple_inj q q';subst this;have j4:D.depths ds+1<=n+1:=hd;have:ds=es:=by
    apply Rq;intro i;cases hi:ds[i]? with
    |none=>
     have h1:=r.length;have h2:=r'.length;have:ds.length<=i:=QN.mp hi;exact(QN.mpr (by omega)).symm
    |some d=>
     obtain⟨v,hv,hr⟩:=r.at hi;obtain⟨e,he,yj⟩:=r'.get hv;rw[he,rE I n d e v (by have:=D.depths_le hi;omega) hr yj]
   rw[this]
  |_=>cases h'
theorem nZ{xs ys:List D}:((Pm (min xs.length ys.length)).all (λj=>match xs[j]?,ys[j]? with|some x,some y=>eqD x y|_,_=>false)&&xs.length == ys.length)=fB xs ys:=by
 induction xs generalizing ys with
 |nil=>
  cases ys with
  |nil=>rfl
  |cons y ys=>simp[fB]
 |cons x xs ih=>
  cases ys with
  |nil=>simp[fB]
  |cons y ys=>
   have:=ih (ys:=ys);have e:min (x::xs).length (y::ys).length=min xs.length ys.length+1:=by simp only[OZ];omega
   rw[e,List.range_succ_eq_map,Ra,List.all_map];simp only[List.getElem?_cons_zero,Function.comp_def,QA,OZ,fB];rw[<-this];have e2:(xs.length+1 == ys.length+1)=(xs.length == ys.length):=by simp
   rw[e2,Bool.and_assoc]
theorem Mb(I:Inv X pins σ H s):∀(n:Nat)(d e:D)(A:Around)(x y:V)(v u:Value),d.depth<=n->A.units+n<cLine->Rep X.K H d x->Rep X.K H e y->RelV x v->RelV y u->RcAt A s v u (eqD d e):=by
 intro n
 induction n with
 |zero=>
  intro d e A x y v u hd hu hx hy rx ry;cases d with
  |tup ds=>exact absurd hd (by show ¬ D.depths ds+1<=0;omega)
  |non=>
   cases hx;cases rx;cases e with
   |non=>cases hy;cases ry;exact RcAt.none_none
   |bl b=>cases hy;cases ry;exact RcAt.none_bool b
   |int b=>cases hy;obtain⟨t,rfl⟩:=ry;exact RcAt.none_int b t
   |str b=>cases hy;obtain⟨t,rfl⟩:=ry;exact RcAt.none_str b t
   |tup es=>obtain⟨a,vs,rfl,q,r⟩:=hy;cases ry;obtain⟨its,_,p,_⟩:=I.tuple q;exact RcAt.none_tuple p (by omega)
  |bl a=>
   cases hx;cases rx;cases e with
   |non=>cases hy;cases ry;exact RcAt.bool_none a
   |bl b=>cases hy;cases ry;exact RcAt.bool_bool a b
   |int b=>cases hy;obtain⟨t,rfl⟩:=ry;exact RcAt.bool_int a b t
   |str b=>cases hy;obtain⟨t,rfl⟩:=ry;exact RcAt.bool_str a b t
   |tup es=>obtain⟨a',vs,rfl,q,r⟩:=hy;cases ry;obtain⟨its,_,p,_⟩:=I.tuple q;exact RcAt.bool_tuple a p (by omega)
  |int a=>
   cases hx;obtain⟨t',rfl⟩:=rx;cases e with
   |non=>cases hy;cases ry;exact RcAt.int_none a t'
   |bl b=>cases hy;cases ry;exact RcAt.int_bool a t' b
   |int b=>cases hy;obtain⟨t,rfl⟩:=ry;exact RcAt.int_int a t' b t
   |str b=>cases hy;obtain⟨t,rfl⟩:=ry;exact RcAt.int_str a t' b t
   |tup es=>obtain⟨a',vs,rfl,q,r⟩:=hy;cases ry;obtain⟨its,_,p,_⟩:=I.tuple q;exact RcAt.int_tuple a t' p (by omega)
  |str a=>
   cases hx;obtain⟨t',rfl⟩:=rx;cases e with
   |non=>cases hy;cases ry;exact RcAt.str_none a t'
   |bl b=>cases hy;cases ry;exact RcAt.str_bool a t' b
   |int b=>cases hy;obtain⟨t,rfl⟩:=ry;exact RcAt.str_int a t' b t
   |str b=>cases hy;obtain⟨t,rfl⟩:=ry;exact RcAt.str_str a t' b t
   |tup es=>obtain⟨a',vs,rfl,q,r⟩:=hy;cases ry;obtain⟨its,_,p,_⟩:=I.tuple q;exact RcAt.str_tuple a t' p (by omega)
 |succ n ih=>
  intro d e A x y v u hd hu hx hy rx ry
  by_cases h0:d.depth<=n
  ·exact ih d e A x y v u h0 (by omega) hx hy rx ry
  ·cases d with
   |non=>exact absurd (show D.depth .non<=n from Pu n) h0
   |bl b=>exact absurd (show D.depth (.bl b)<=n from Pu n) h0
   |int b=>exact absurd (show D.depth (.int b)<=n from Pu n) h0
   |str b=>exact absurd (show D.depth (.str b)<=n from Pu n) h0
   |tup ds=>
    have ju:D.depths ds<=n:=by have:D.depths ds+1<=n+1:=hd;omega
    obtain⟨a,vs,rfl,q,r⟩:=hx;cases rx
    obtain⟨its,rv,p,_⟩:=I.tuple q;cases e with
    |non=>cases hy;cases ry;exact RcAt.tuple_none p (by omega)
    |bl b=>cases hy;cases ry;exact RcAt.tuple_bool b p (by omega)
    |int b=>cases hy;obtain⟨t,rfl⟩:=ry;exact RcAt.tuple_int b t p (by omega)
    |str b=>cases hy;obtain⟨t,rfl⟩:=ry;exact RcAt.tuple_str b t p (by omega)
    |tup es=>
     obtain⟨a',fg,rfl,q',r'⟩:=hy;cases ry
     obtain⟨its',bu,p',_⟩:=I.tuple q';have l1:=r.length;have l2:=r'.length;have l3:=rv.length;have l4:=bu.length;have key:=RcAt.tuples (A:=A) (e:=λj=>match ds[j]?,es[j]? with|some x,some y=>eqD x y|_,_=>false) p p' (by omega) (λj h1 h2=>by
      have dj:j<ds.length:=by simp at h1;omega
      have gj:j<es.length:=by simp at h2;omega
      have g1:ds[j]?=some ds[j]:=by simp[dj]
      have g2:es[j]?=some es[j]:=by simp[gj]
      obtain⟨xv,mr,i8⟩:=r.at g1;obtain⟨yv,m8,j9⟩:=r'.at g2;obtain⟨xu,jx,de⟩:=rv.get mr;obtain⟨yu,jl,b6⟩:=bu.get m8;have e1:its.toArray[j]=xu:=by
       have:its[j]?=some xu:=jx;simpa using(Io.mp this).2
      have e2:its'.toArray[j]=yu:=by
       have:its'[j]?=some yu:=jl;simpa using(Io.mp this).2
      rw[e1,e2];simp only[g1,g2];have v8:=D.depths_le g1;refine iV (ih ds[j] es[j] A.in1 xv yv xu yu (by omega) (by show A.units+1+n<cLine;omega) i8 j9 de b6) (λev=>by
      subst ev;have tw:xv=yv:=RelV.inj de b6;subst tw;rw[rE I n ds[j] es[j] xv (by omega) i8 j9];exact sE _) (vX i8 de))
     have sz:((Pm (min its.toArray.size its'.toArray.size)).all (λj=>match ds[j]?,es[j]? with|some x,some y=>eqD x y|_,_=>false)&&its.toArray.size == its'.toArray.size)=eqD (.tup ds) (.tup es):=by
      have a1:its.toArray.size=ds.length:=by simp;omega
      have a2:its'.toArray.size=es.length:=by simp;omega
      rw[a1,a2];simp only[eqD];exact nZ
     rw[<-sz];exact key
theorem Kc(I:Inv X pins σ H s){d e:D}{x:V}{v:Value}(hd:d.depth<=n)(hu:A.units+n<cLine)(hx:Rep X.K H d x)(hy:Rep X.K H e y)(rx:RelV x v)(ry:RelV y u):EqAt A s v u (eqD d e):=
 iV (Mb I n d e A x y v u hd hu hx hy rx ry) (λev=>by
  subst ev;have tw:x=y:=RelV.inj rx ry;subst tw;rw[rE I n d e x hd hx hy];exact sE _) (vX hx rx)
theorem Kd(I:Inv X pins σ H s):∀(n:Nat)(d e:D)(A:Around)(x y:V)(v u:Value),d.depth<=n->A.units+n<cLine->Rep X.K H d x->Rep X.K H e y->RelV x v->RelV y u->RcNeAt A s v u (!eqD d e):=by
 intro n
 induction n with
 |zero=>
  intro d e A x y v u hd hu hx hy rx ry;cases d with
  |tup ds=>exact absurd hd (by show ¬ D.depths ds+1<=0;omega)
  |non=>
   cases hx;cases rx;cases e with
   |non=>cases hy;cases ry;exact RcNeAt.none_none
   |bl b=>cases hy;cases ry;exact RcNeAt.none_bool b
   |int b=>cases hy;obtain⟨t,rfl⟩:=ry;exact RcNeAt.none_int b t
   |str b=>cases hy;obtain⟨t,rfl⟩:=ry;exact RcNeAt.none_str b t
   |tup es=>obtain⟨a,vs,rfl,q,r⟩:=hy;cases ry;obtain⟨its,_,p,_⟩:=I.tuple q;exact RcNeAt.none_tuple p (by omega)
  |bl a=>
   cases hx;cases rx;cases e with
   |non=>cases hy;cases ry;exact RcNeAt.bool_none a
   |bl b=>cases hy;cases ry;exact RcNeAt.bool_bool a b
   |int b=>cases hy;obtain⟨t,rfl⟩:=ry;exact RcNeAt.bool_int a b t
   |str b=>cases hy;obtain⟨t,rfl⟩:=ry;exact RcNeAt.bool_str a b t
   |tup es=>obtain⟨a',vs,rfl,q,r⟩:=hy;cases ry;obtain⟨its,_,p,_⟩:=I.tuple q;exact RcNeAt.bool_tuple a p (by omega)
  |int a=>
   cases hx;obtain⟨t',rfl⟩:=rx;cases e with
   |non=>cases hy;cases ry;exact RcNeAt.int_none a t'
   |bl b=>cases hy;cases ry;exact RcNeAt.int_bool a t' b
   |int b=>cases hy;obtain⟨t,rfl⟩:=ry;exact RcNeAt.int_int a t' b t
   |str b=>cases hy;obtain⟨t,rfl⟩:=ry;exact RcNeAt.int_str a t' b t
   |tup es=>obtain⟨a',vs,rfl,q,r⟩:=hy;cases ry;obtain⟨its,_,p,_⟩:=I.tuple q;exact RcNeAt.int_tuple a t' p (by omega)
  |str a=>
   cases hx;obtain⟨t',rfl⟩:=rx;cases e with
   |non=>cases hy;cases ry;exact RcNeAt.str_none a t'
   |bl b=>cases hy;cases ry;exact RcNeAt.str_bool a t' b
   |int b=>cases hy;obtain⟨t,rfl⟩:=ry;exact RcNeAt.str_int a t' b t
   |str b=>cases hy;obtain⟨t,rfl⟩:=ry;exact RcNeAt.str_str a t' b t
   |tup es=>obtain⟨a',vs,rfl,q,r⟩:=hy;cases ry;obtain⟨its,_,p,_⟩:=I.tuple q;exact RcNeAt.str_tuple a t' p (by omega)
 |succ n ih=>
  intro d e A x y v u hd hu hx hy rx ry
  by_cases h0:d.depth<=n
  ·exact ih d e A x y v u h0 (by omega) hx hy rx ry
  ·cases d with
   |non=>exact absurd (show D.depth .non<=n from Pu n) h0
   |bl b=>exact absurd (show D.depth (.bl b)<=n from Pu n) h0
   |int b=>exact absurd (show D.depth (.int b)<=n from Pu n) h0
   |str b=>exact absurd (show D.depth (.str b)<=n from Pu n) h0
   |tup ds=>
    have ju:D.depths ds<=n:=by have:D.depths ds+1<=n+1:=hd;omega
    obtain⟨a,vs,rfl,q,r⟩:=hx;cases rx
    obtain⟨its,rv,p,_⟩:=I.tuple q;cases e with
    |non=>cases hy;cases ry;exact RcNeAt.tuple_none p (by omega)
    |bl b=>cases hy;cases ry;exact RcNeAt.tuple_bool b p (by omega)
    |int b=>cases hy;obtain⟨t,rfl⟩:=ry;exact RcNeAt.tuple_int b t p (by omega)
    |str b=>cases hy;obtain⟨t,rfl⟩:=ry;exact RcNeAt.tuple_str b t p (by omega)
    |tup es=>
     obtain⟨a',fg,rfl,q',r'⟩:=hy;cases ry
     obtain⟨its',bu,p',_⟩:=I.tuple q';have l1:=r.length;have l2:=r'.length;have l3:=rv.length;have l4:=bu.length;have key:=RcNeAt.tuples (A:=A) (e:=λj=>match ds[j]?,es[j]? with|some x,some y=>eqD x y|_,_=>false) p p' (by omega) (λj h1 h2=>by
      have dj:j<ds.length:=by simp at h1;omega
      have gj:j<es.length:=by simp at h2;omega
      have g1:ds[j]?=some ds[j]:=by simp[dj]
      have g2:es[j]?=some es[j]:=by simp[gj]
      obtain⟨xv,mr,i8⟩:=r.at g1;obtain⟨yv,m8,j9⟩:=r'.at g2;obtain⟨xu,jx,de⟩:=rv.get mr;obtain⟨yu,jl,b6⟩:=bu.get m8;have e1:its.toArray[j]=xu:=by
       have:its[j]?=some xu:=jx;simpa using(Io.mp this).2
      have e2:its'.toArray[j]=yu:=by
       have:its'[j]?=some yu:=jl;simpa using(Io.mp this).2
      rw[e1,e2];simp only[g1,g2];have v8:=D.depths_le g1;exact Kc I (n:=n) (by omega) (by show A.units+1+n<cLine;omega) i8 j9 de b6)
     have sz:(!((Pm (min its.toArray.size its'.toArray.size)).all (λj=>match ds[j]?,es[j]? with|some x,some y=>eqD x y|_,_=>false)&&its.toArray.size == its'.toArray.size))=(!eqD (.tup ds) (.tup es)):=by
      have a1:its.toArray.size=ds.length:=by simp;omega
      have a2:its'.toArray.size=es.length:=by simp;omega
      rw[a1,a2];simp only[eqD];rw[nZ]
     rw[<-sz];exact key
def O2(K:z9):R2:=λx y H Q=>∃d e,Rep K H d x/\Rep K H e y/\d.depth<=40/\Q (.bl (eqD d e)) H
def O3(K:z9):R2:=λx y H Q=>∃d e,Rep K H d x/\Rep K H e y/\d.depth<=40/\Q (.bl (!eqD d e)) H
theorem Ke(hu:X.A.units+64<cLine)(K:z9)(hK:X.K=K):OpR X (Pn .Eq) (O2 K):=by
 subst hK;intro pins s σ H x y v u Q I rx ry h;obtain⟨d,e,hx,hy,hd,q⟩:=h;exact Mb I 40 d e X.A x y v u hd (by omega) hx hy rx ry X.prog X.w X.xe _ ⟨.bl _,H,I,rfl,q⟩
theorem Kf(hu:X.A.units+64<cLine)(K:z9)(hK:X.K=K):OpR X (Pn .NotEq) (O3 K):=by
 subst hK;intro pins s σ H x y v u Q I rx ry h;obtain⟨d,e,hx,hy,hd,q⟩:=h;exact Kd I 40 d e X.A x y v u hd (by omega) hx hy rx ry X.prog X.w X.xe _ ⟨.bl _,H,I,rfl,q⟩
def DQ(K:z9)(H:Hp)(ds:List D)(v:V):Prop:=∃a vs,v=.ref a/\SqL K H a vs/\cH K H ds vs
theorem vY{xs ys:List D}(h:xs.length=ys.length):(Pm xs.length).all (λj=>match xs[j]?,ys[j]? with|some x,some y=>eqD x y|_,_=>false)=fB xs ys:=by
 have:=nZ (xs:=xs) (ys:=ys);rw[h,Nat.min_self,beq_self_eq_true,Bool.and_true]at this;rw[h];exact this
theorem Ad{xs ys:List D}(h:fB xs ys=true):xs.length=ys.length:=by
 rw[<-nZ,Pj]at h;exact eq_of_beq h.2
theorem sF{I:Inv X pins σ H s}{ds es:List D}(r:cH X.K H ds vs)(r':cH X.K H es fg)(rv:aI vs its)(bu:aI fg its')(hd:D.depths ds<=40)(hu:A.units+42<cLine):
  ∀j(h1:j<its.toArray.size)(h2:j<its'.toArray.size),EqAt A.in1 s its.toArray[j] its'.toArray[j] (match ds[j]?,es[j]? with|some x,some y=>eqD x y|_,_=>false):=λj h1 h2=>by
 have l1:=r.length;have l2:=r'.length;have l3:=rv.length;have l4:=bu.length;have dj:j<ds.length:=by simp at h1;omega
 have gj:j<es.length:=by simp at h2;omega
 have g1:ds[j]?=some ds[j]:=by simp[dj]
 have g2:es[j]?=some es[j]:=by simp[gj]
 obtain⟨xv,mr,i8⟩:=r.at g1;obtain⟨yv,m8,j9⟩:=r'.at g2;obtain⟨xu,jx,de⟩:=rv.get mr;obtain⟨yu,jl,b6⟩:=bu.get m8;have e1:its.toArray[j]=xu:=by simpa using(Io.mp jx).2
 have e2:its'.toArray[j]=yu:=by simpa using(Io.mp jl).2
 rw[e1,e2];simp only[g1,g2];have v8:=D.depths_le g1;exact Kc I (n:=40) (by omega) (by show A.units+1+40<cLine;omega) i8 j9 de b6
def O4(K:z9):R2:=λx y H Q=>∃ds es,DQ K H ds x/\DQ K H es y/\D.depths ds<=40/\Q (.bl (fB ds es)) H
def O5(K:z9):R2:=λx y H Q=>∃ds es,DQ K H ds x/\DQ K H es y/\D.depths ds<=40/\Q (.bl (!fB ds es)) H
theorem Kg(hu:X.A.units+64<cLine)(K:z9)(hK:X.K=K):OpR X (Pn .Eq) (O4 K):=by
 subst hK;intro pins s σ H x y v u Q I rx ry h;obtain⟨ds,es,⟨a,vs,rfl,q,r⟩,⟨b,fg,rfl,q',r'⟩,hd,k⟩:=h;cases rx;cases ry;obtain⟨its,rv,p,_⟩:=I.list q;obtain⟨its',bu,p',_⟩:=I.list q';have l1:=r.length;have l2:=r'.length;have l3:=rv.length;have l4:=bu.length
 by_cases hl:ds.length=es.length
 ·refine eq_listAt p.isList p'.isList (by simp;omega) (by omega) (sF (I:=I) r r' rv bu hd (by omega)) ⟨.bl _,H,I,rfl,?_⟩;have e1:its.toArray.size=ds.length:=by simp;omega
  rw[e1,vY hl];exact k
 ·refine eq_list_lengthsAt p.isList p'.isList (by simp;omega) (by omega) ⟨.bl false,H,I,rfl,?_⟩;have e:fB ds es=false:=by
   cases h:fB ds es with
   |false=>rfl
   |true=>exact absurd (Ad h) hl
  rw[e]at k;exact k
theorem Kh(hu:X.A.units+64<cLine)(K:z9)(hK:X.K=K):OpR X (Pn .NotEq) (O5 K):=by
 subst hK;intro pins s σ H x y v u Q I rx ry h;obtain⟨ds,es,⟨a,vs,rfl,q,r⟩,⟨b,fg,rfl,q',r'⟩,hd,k⟩:=h;cases rx;cases ry;obtain⟨its,rv,p,_⟩:=I.list q;obtain⟨its',bu,p',_⟩:=I.list q';have l1:=r.length;have l2:=r'.length;have l3:=rv.length;have l4:=bu.length
 by_cases hl:ds.length=es.length
 ·refine RcNeAt.lists p.isList p'.isList (by simp;omega) (by omega) (sF (I:=I) r r' rv bu hd (by omega)) X.prog X.w X.xe _ ⟨.bl _,H,I,rfl,?_⟩;have e1:its.toArray.size=ds.length:=by simp;omega
  rw[e1,vY hl];exact k
 ·refine RcNeAt.lists_lengths p.isList p'.isList (by simp;omega) (by omega) X.prog X.w X.xe _ ⟨.bl true,H,I,rfl,?_⟩;have e:fB ds es=false:=by
   cases h:fB ds es with
   |false=>rfl
   |true=>exact absurd (Ad h) hl
  rw[e]at k;exact k
def Mc(K:z9)(neg:Bool):R2:=λx y H Q=>∃d p ds vs,y=.ref p/\(SqL K H p vs\/SqT K H p vs)/\Rep K H d x/\cH K H ds vs/\D.depths ds<=40/\Q (.bl (if neg then !ds.any (λe=>eqD e d) else ds.any (λe=>eqD e d))) H
noncomputable def isD(K:z9)(H:Hp)(d:D)(u:Value):Bool:=@decide (∃e x,RelV x u/\Rep K H e x/\e.depth<=40/\eqD e d=true) (Qg _)
theorem Fh(I:Inv X pins σ H s){d e:D}{x:V}(r:RelV x u)(h:Rep X.K H e x)(hd:e.depth<=40):isD X.K H d u=eqD e d:=by
 unfold isD;cases q:eqD e d with
 |true=>exact @decide_eq_true _ (Qg _) ⟨e,x,r,h,hd,q⟩
 |false=>
  refine @decide_eq_false _ (Qg _) ?_;rintro⟨e',x',r',h',j4,q'⟩;have ex:x'=x:=RelV.inj r' r;subst ex;rw[rE I 40 e' e x' j4 h' h]at q';rw[q]at q';cases q'
theorem oA(I:Inv X pins σ H s){d:D}:∀{ds:List D}{vs:List V}{us:List Value},cH X.K H ds vs->aI vs us->D.depths ds<=40->us.any (isD X.K H d)=ds.any λe=>eqD e d
 |[],[],_,_,.nil,_=>rfl
 |e::ds,_::_,_,⟨h,r⟩,.cons rv dz,hd=>by
  have h1:e.depth<=40/\D.depths ds<=40:=by
   have:max e.depth (D.depths ds)<=40:=hd;omega
  rw[Rx,Rx,Fh I rv h h1.1,oA I r dz h1.2]
 |[],_::_,_,h,_,_=>h.elim
 |_::_,[],_,h,_,_=>h.elim
theorem oB(I:Inv X pins σ H s){A:Around}{d:D}{x:V}{v:Value}(hx:Rep X.K H d x)(rx:RelV x v)(hu:A.units+42<cLine):∀{ds:List D}{vs:List V}{us:List Value},cH X.K H ds vs->aI vs us->D.depths ds<=40->∀u∈us,EqAt A.in1 s u v (isD X.K H d u)
 |[],[],_,_,.nil,_=>λu hu=>by cases hu
 |e::ds,_::_,_,⟨h,r⟩,.cons rv dz,hd=>λu hm=>by
  have h1:e.depth<=40/\D.depths ds<=40:=by
   have:max e.depth (D.depths ds)<=40:=hd;omega
  rcases KP.mp hm with rfl|hm
  ·rw[Fh I rv h h1.1];exact Kc I (n:=40) h1.1 (by show A.units+1+40<cLine;omega) h hx rv rx
  ·exact oB I hx rx hu r dz h1.2 u hm
 |[],_::_,_,h,_,_=>h.elim
 |_::_,[],_,h,_,_=>h.elim
theorem Ki(hu:X.A.units+64<cLine)(K:z9)(hK:X.K=K):OpR X (Pn .In) (Mc K false):=by
 subst hK;intro pins s σ H x y v u Q I rx ry h;obtain⟨d,p,ds,vs,rfl,hq,hx,hr,hd,k⟩:=h;cases ry
 rcases hq with hq|hq
 ·obtain⟨its,r,pl,hz⟩:=I.list hq;refine SeqAt.in_listAt (isD X.K H d) pl.isList (λw hw=>oB I hx rx (by omega) hr r hd w (by simpa using hw)) ⟨.bl _,H,I,rfl,?_⟩
  rw[show its.toArray.any (isD X.K H d)=its.any (isD X.K H d) by simp,oA I hr r hd];exact k
 ·obtain⟨its,r,pl,hz⟩:=I.tuple hq;refine SeqAt.in_tupleAt (isD X.K H d) pl (λw hw=>oB I hx rx (by omega) hr r hd w (by simpa using hw)) ⟨.bl _,H,I,rfl,?_⟩
  rw[show its.toArray.any (isD X.K H d)=its.any (isD X.K H d) by simp,oA I hr r hd];exact k
theorem DR(hu:X.A.units+64<cLine)(K:z9)(hK:X.K=K):OpR X (Pn .NotIn) (Mc K true):=by
 subst hK;intro pins s σ H x y v u Q I rx ry h;obtain⟨d,p,ds,vs,rfl,hq,hx,hr,hd,k⟩:=h;cases ry
 rcases hq with hq|hq
 ·obtain⟨its,r,pl,hz⟩:=I.list hq;refine SeqAt.notIn_listAt (isD X.K H d) pl.isList (λw hw=>oB I hx rx (by omega) hr r hd w (by simpa using hw)) ⟨.bl _,H,I,rfl,?_⟩
  rw[show its.toArray.any (isD X.K H d)=its.any (isD X.K H d) by simp,oA I hr r hd];exact k
 ·obtain⟨its,r,pl,hz⟩:=I.tuple hq;refine SeqAt.notIn_tupleAt (isD X.K H d) pl (λw hw=>oB I hx rx (by omega) hr r hd w (by simpa using hw)) ⟨.bl _,H,I,rfl,?_⟩
  rw[show its.toArray.any (isD X.K H d)=its.any (isD X.K H d) by simp,oA I hr r hd];exact k
end
open PySem
def keyLt:Sum Int Str->Sum Int Str->Bool
 |.inl a,.inl b=>decide (a<b)
 |.inr a,.inr b=>decide (a.cps.toList<b.cps.toList)
 |_,_=>false
def dI:List (Sum Int Str)->List (Sum Int Str)->Bool
 |[],[]=>false
 |[],_::_=>true
 |_::_,[]=>false
 |x::xs,y::ys=>if x=y then dI xs ys else keyLt x y
def cX:Sum Int Str->Bool
 |.inl _=>true
 |.inr _=>false
abbrev shape(ks:List (Sum Int Str)):List Bool:=ks.map cX
theorem HP{a b:Str}(h:a.cps.toList=b.cps.toList):a=b:=by
 cases a;cases b
 congr
 exact Array.toList_inj.mp h
theorem Fi{a b:Sum Int Str}(h:keyLt a b=true):keyLt b a=false:=by
 cases a <;> cases b <;> first|rfl|skip
 ·have:_<_:=of_decide_eq_true h;exact decide_eq_false (by omega)
 ·exact decide_eq_false (List.lt_asymm (of_decide_eq_true h))
theorem vZ{a b:Sum Int Str}(k:cX a=cX b)(h:keyLt a b=false)(h':keyLt b a=false):a=b:=by
 cases a <;> cases b <;> first|cases k|skip
 ·have h1:=of_decide_eq_false h;have h2:=of_decide_eq_false h'
  congr 1
  omega
 ·have h1:=of_decide_eq_false h;have h2:=of_decide_eq_false h'
  congr 1
  exact HP (List.le_antisymm (So.mp h2) (So.mp h1))
theorem Fj:∀{a b c:Sum Int Str},cX a=cX b->cX b=cX c->keyLt b a=false->keyLt c b=false->keyLt c a=false
 |.inl a,.inl b,.inl c,_,_,h,h'=>by
  have h1:¬ b<a:=of_decide_eq_false h;have h2:¬ c<b:=of_decide_eq_false h';exact decide_eq_false (by omega)
 |.inr a,.inr b,.inr c,_,_,h,h'=>by
  have h1:a.cps.toList<=b.cps.toList:=So.mp (of_decide_eq_false h);have h2:b.cps.toList<=c.cps.toList:=So.mp (of_decide_eq_false h');exact decide_eq_false (So.mpr (List.le_trans h1 h2))
 |.inl _,.inr _,_,k,_,_,_=>by cases k
 |.inr _,.inl _,_,k,_,_,_=>by cases k
 |.inl _,.inl _,.inr _,_,k,_,_=>by cases k
 |.inr _,.inr _,.inl _,_,k,_,_=>by cases k
theorem xY:∀{a b:List (Sum Int Str)},dI a b=true->dI b a=false
 |[],[],_=>rfl
 |[],_::_,_=>rfl
 |_::_,[],h=>by cases h
 |x::xs,y::ys,h=>by
  unfold dI at h⊢
  by_cases e:x=y
  ·subst e;rw[if_pos rfl]at h⊢;exact xY h
  ·rw[if_neg e]at h;rw[if_neg λz=>e z.symm];exact Fi h
theorem Ae:∀{a b:List (Sum Int Str)},shape a=shape b->dI a b=false->dI b a=false->a=b
 |[],[],_,_,_=>rfl
 |[],_::_,s,_,_=>by cases s
 |_::_,[],s,_,_=>by cases s
 |x::xs,y::ys,s,h,h'=>by
  have s1:cX x=cX y:=by simpa using congrArg List.head? s
  have s2:shape xs=shape ys:=by simpa using congrArg List.tail s
  unfold dI at h h'
  by_cases e:x=y
  ·subst e;rw[if_pos rfl]at h h';rw[Ae s2 h h']
  ·rw[if_neg e]at h;rw[if_neg λz=>e z.symm]at h';exact absurd (vZ s1 h h') e
theorem rF:∀{a b c:List (Sum Int Str)},shape a=shape b->shape b=shape c->dI b a=false->dI c b=false->dI c a=false
 |[],[],[],_,_,_,_=>rfl
 |[],[],_::_,_,s',_,_=>by cases s'
 |[],_::_,_,s,_,_,_=>by cases s
 |_::_,[],_,s,_,_,_=>by cases s
 |_::_,_::_,[],_,s',_,_=>by cases s'
 |x::xs,y::ys,z::zs,s,s',h,h'=>by
  have s1:cX x=cX y:=by simpa using congrArg List.head? s
  have s2:shape xs=shape ys:=by simpa using congrArg List.tail s
  have s3:cX y=cX z:=by simpa using congrArg List.head? s'
  have s4:shape ys=shape zs:=by simpa using congrArg List.tail s'
  unfold dI at h h'⊢
  by_cases e:y=x
  ·subst e;rw[if_pos rfl]at h
   by_cases e':z=y
   ·subst e';rw[if_pos rfl]at h'⊢;exact rF s2 s4 h h'
   ·rw[if_neg e']at h'⊢;exact h'
  ·rw[if_neg e]at h
   by_cases e':z=y
   ·subst e';rw[if_neg e];exact h
   ·rw[if_neg e']at h'
    by_cases e2:z=x
    ·subst e2;exfalso;exact e (vZ s3 h h')
    ·rw[if_neg e2];exact Fj s1 s3 h h'
open PySem PySem.W PyProof.Rows
section
variable(lt:Nat->Nat->Bool)
def evT{α:Type}:KasT α->α
 |.ret a=>a
 |.ask i j k=>evT (k (lt i j))
theorem iE{α β:Type}(f:α->KasT β):∀t:KasT α,evT lt (t.bind f)=evT lt (f (evT lt t))
 |.ret _=>rfl
 |.ask i j k=>iE f (k (lt i j))
abbrev pa'(p:Array Nat)(i:Nat):Nat:=p.getD i 0
def STo(p:Array Nat)(k:Nat):Prop:=∀i j,i<=j->j<k->lt (pa' p j) (pa' p i)=false
def NIc(p:Array Nat)(k:Nat):Prop:=∀i j,i<=j->j<k->lt (pa' p i) (pa' p j)=false
end
theorem fT{p:Array Nat}:pa' p i=(p[i]?).getD 0:=by
 unfold pa';simp[Array.getD_eq_getD_getElem?]
structure Fk(lt:Nat->Nat->Bool)(p:Array Nat)(n f:Nat)(r:Array Nat×Nat×Nat):Prop where
 perm:r.1.Perm p
 lo:n<=r.2.1
 hi:r.2.1<=n+f
 q:r.2.2+1<=r.2.1
 ni:NIc lt r.1 r.2.1
 eq:∀i j,r.2.1-(r.2.2+1)<=i->i<r.2.1->r.2.1-(r.2.2+1)<=j->j<r.2.1->lt (pa' r.1 i) (pa' r.1 j)=false
variable{nrem:Nat}
section
variable{lt:Nat->Nat->Bool}(tr:∀i j k,lt j i=false->lt k j=false->lt k i=false)(as:∀i j,lt i j=true->lt j i=false)
include as in
theorem eX(i:Nat):lt i i=false:=by
 cases h:lt i i with
 |false=>rfl
 |true=>have:=as i i h;rw[h]at this;exact this
include tr as
theorem BH(p:Array Nat):∀f n,1<=n->STo lt p n->n<=evT lt (kas_asc p f n)/\evT lt (kas_asc p f n)<=n+f/\STo lt p (evT lt (kas_asc p f n))
 |0,n,_,h=>⟨OO _,OO _,h⟩
 |f+1,n,h1,h=>by
  have e:evT lt (kas_asc p (f+1) n)=evT lt (if lt (p.getD n 0) (p.getD (n-1) 0)=true then KasT.ret n else kas_asc p f (n+1)):=rfl;rw[e]
  by_cases c:lt (p.getD n 0) (p.getD (n-1) 0)=true
  ·rw[if_pos c];exact⟨OO _,Nat.le_add_right _ _,h⟩
  ·rw[if_neg c];have c':lt (p.getD n 0) (p.getD (n-1) 0)=false:=by simpa using c
   have h2:STo lt p (n+1):=λi j az hj=>by
    rcases QB (Nat.le_of_lt_succ hj) with hj|rfl
    ·exact h i j az hj
    ·rcases QB az with hi|rfl
     ·exact tr _ _ _ (h i (j-1) (by omega) (by omega)) c'
     ·exact eX as _
   obtain⟨a,b,c⟩:=BH p f (n+1) (by omega) h2;exact⟨by omega,by omega,c⟩
theorem rev_eq{p:Array Nat}{a:Nat}(hn:n<=p.size)(eq:∀i j,a<=i->i<n->a<=j->j<n->lt (pa' p i) (pa' p j)=false)(i j:Nat):
  lt (pa' (kas_rev p a n) i) (pa' (kas_rev p a n) j)=lt (pa' p i) (pa' p j):=by
 have g:∀k,pa' (kas_rev p a n) k=if a<=k/\k<n then pa' p (a+n-1-k) else pa' p k:=λk=>by
  rw[fT,fT,fT];unfold kas_rev;rw[getElem?_mirror_all hn];split <;> rfl
 have sim:∀k,∃k',pa' (kas_rev p a n) k=pa' p k'/\lt (pa' p k) (pa' p k')=false/\lt (pa' p k') (pa' p k)=false:=λk=>by
  rw[g]
  by_cases h:a<=k/\k<n
  ·rw[if_pos h];exact⟨_,rfl,eq _ _ h.1 h.2 (by omega) (by omega),eq _ _ (by omega) (by omega) h.1 h.2⟩
  ·rw[if_neg h];exact⟨k,rfl,eX as _,eX as _⟩
 obtain⟨i',ei,i1,i2⟩:=sim i;obtain⟨j',ej,j1,j2⟩:=sim j;rw[ei,ej];cases h1:lt (pa' p i) (pa' p j) with
 |false=>exact tr _ _ _ j1 (tr _ _ _ h1 i2)
 |true=>
  cases h2:lt (pa' p i') (pa' p j') with
  |true=>rfl
  |false=>
   have:=tr _ _ _ j2 (tr _ _ _ h2 i1);rw[h1]at this;exact this.symm
theorem xZ:∀f (p:Array Nat) n q,n+f<=p.size->q+1<=n->NIc lt p n->(∀i j,n-(q+1)<=i->i<n->n-(q+1)<=j->j<n->lt (pa' p i) (pa' p j)=false)->Fk lt p n f (evT lt (kas_desc f p n q))
 |0,p,n,q,_,hq,hN,hE=>⟨RP _,OO _,OO _,hq,hN,hE⟩
 |f+1,p,n,q,hs,hq,hN,hE=>by
  have e:evT lt (kas_desc (f+1) p n q)=evT lt (if lt (p.getD n 0) (p.getD (n-1) 0)=true then(if q>0 then kas_desc f (kas_rev p (n-(q+1)) n) (n+1) 0 else kas_desc f p (n+1) 0)
    else .ask (p.getD (n-1) 0) (p.getD n 0) λd=>if d=true then .ret (p,n,q) else kas_desc f p (n+1) (q+1)):=rfl
  by_cases c:lt (p.getD n 0) (p.getD (n-1) 0)=true
  ·have down:∀p':Array Nat,p'.Perm p->(∀i j,lt (pa' p' i) (pa' p' j)=lt (pa' p i) (pa' p j))->evT lt (kas_desc (f+1) p n q)=evT lt (kas_desc f p' (n+1) 0)->Fk lt p n (f+1) (evT lt (kas_desc (f+1) p n q)):=λp' hp hl zy=>by
    have k7:NIc lt p' (n+1):=λi j az hj=>by
     rw[hl];rcases QB (Nat.le_of_lt_succ hj) with hj|rfl
     ·exact hN i j az hj
     ·rcases QB az with hi|rfl
      ·exact tr _ _ _ (as _ _ c) (hN i (j-1) (by omega) (by omega))
      ·exact eX as _
    have lu:∀i j,n+1-(0+1)<=i->i<n+1->n+1-(0+1)<=j->j<n+1->lt (pa' p' i) (pa' p' j)=false:=λi j h1 h2 h3 h4=>by
     have:i=j:=by omega
     subst this;exact eX as _
    have ih:=xZ f p' (n+1) 0 (by rw[hp.size_eq];omega) (by omega) k7 lu;rw[<-zy]at ih;obtain⟨a1,a2,a3,a4,a5,a6⟩:=ih;exact⟨a1.trans hp,by omega,by omega,a4,a5,a6⟩
   rw[if_pos c]at e
   by_cases hq0:q>0
   ·rw[if_pos hq0]at e;exact down _ (RQ _ _ _ _) (rev_eq tr as (by omega) hE) e
   ·rw[if_neg hq0]at e;exact down p (RP _) (λ_ _=>rfl) e
  ·rw[if_neg c]at e;have c':lt (p.getD n 0) (p.getD (n-1) 0)=false:=by simpa using c
   have e2:evT lt (kas_desc (f+1) p n q)=evT lt (if lt (p.getD (n-1) 0) (p.getD n 0)=true then KasT.ret (p,n,q) else kas_desc f p (n+1) (q+1)):=e
   by_cases d:lt (p.getD (n-1) 0) (p.getD n 0)=true
   ·rw[if_pos d]at e2;rw[e2];exact⟨RP _,OO _,Nat.le_add_right _ _,hq,hN,hE⟩
   ·rw[if_neg d]at e2;have d':lt (p.getD (n-1) 0) (p.getD n 0)=false:=by simpa using d
    have k7:NIc lt p (n+1):=λi j az hj=>by
     rcases QB (Nat.le_of_lt_succ hj) with hj|rfl
     ·exact hN i j az hj
     ·rcases QB az with hi|rfl
      ·exact tr _ _ _ d' (hN i (j-1) (by omega) (by omega))
      ·exact eX as _
    have lu:∀i j,n+1-(q+1+1)<=i->i<n+1->n+1-(q+1+1)<=j->j<n+1->lt (pa' p i) (pa' p j)=false:=λi j h1 h2 h3 h4=>by
     by_cases hi:i=n
     ·by_cases hj:j=n
      ·rw[hi,hj];exact eX as _
      ·rw[hi];exact tr _ _ _ (hE (n-1) j (by omega) (by omega) (by omega) (by omega)) c'
     ·by_cases hj:j=n
      ·rw[hj];exact tr _ _ _ d' (hE i (n-1) (by omega) (by omega) (by omega) (by omega))
      ·exact hE i j (by omega) (by omega) (by omega) (by omega)
    have ih:=xZ f p (n+1) (q+1) (by omega) (by omega) k7 lu;rw[<-e2]at ih;obtain⟨a1,a2,a3,a4,a5,a6⟩:=ih;exact⟨a1,by omega,by omega,a4,a5,a6⟩
theorem Af{p:Array Nat}(h1:1<=n)(hn:n<=nrem)(hz:nrem<=p.size)(hN:NIc lt p n):
  n<=(evT lt (kas_tail3 n nrem p)).1/\(evT lt (kas_tail3 n nrem p)).1<=nrem/\(evT lt (kas_tail3 n nrem p)).2.Perm p/\STo lt (evT lt (kas_tail3 n nrem p)).2 (evT lt (kas_tail3 n nrem p)).1:=by
 have e:evT lt (kas_tail3 n nrem p)=(evT lt (kas_asc (kas_rev p 0 n) (nrem-n) n),kas_rev p 0 n):=by
  unfold kas_tail3;rw[iE];rfl
 have g:∀k,k<n->pa' (kas_rev p 0 n) k=pa' p (n-1-k):=λk hk=>by
  rw[fT,fT];unfold kas_rev;rw[getElem?_mirror_all (by omega),if_pos (by omega)]
  congr 2
  omega
 have hS:STo lt (kas_rev p 0 n) n:=λi j az hj=>by
  rw[g i (by omega),g j hj];exact hN _ _ (by omega) (by omega)
 obtain⟨a,b,c⟩:=BH tr as (kas_rev p 0 n) (nrem-n) n h1 hS;rw[e];exact⟨a,by show evT lt (kas_asc (kas_rev p 0 n) (nrem-n) n)<=nrem;omega,RQ _ _ _ _,c⟩
theorem qM{p:Array Nat}(h1:1<=n)(hn:n+1<=nrem)(hz:nrem<=p.size)(hN:NIc lt p n)(hd:lt (pa' p n) (pa' p (n-1))=true):
  1<=(evT lt (kas_descPart n nrem p)).1/\(evT lt (kas_descPart n nrem p)).1<=nrem/\(evT lt (kas_descPart n nrem p)).2.Perm p/\STo lt (evT lt (kas_descPart n nrem p)).2 (evT lt (kas_descPart n nrem p)).1:=by
 have k7:NIc lt p (n+1):=λi j az hj=>by
  rcases QB (Nat.le_of_lt_succ hj) with hj|rfl
  ·exact hN i j az hj
  ·rcases QB az with hi|rfl
   ·exact tr _ _ _ (as _ _ hd) (hN i (j-1) (by omega) (by omega))
   ·exact eX as _
 have lu:∀i j,n+1-(0+1)<=i->i<n+1->n+1-(0+1)<=j->j<n+1->lt (pa' p i) (pa' p j)=false:=λi j h1 h2 h3 h4=>by
  have:i=j:=by omega
  subst this;exact eX as _
 have D:=xZ tr as (nrem-(n+1)) p (n+1) 0 (by omega) (by omega) k7 lu;have e:evT lt (kas_descPart n nrem p)=evT lt (if(evT lt (kas_desc (nrem-(n+1)) p (n+1) 0)).2.2>0 then kas_tail3 (evT lt (kas_desc (nrem-(n+1)) p (n+1) 0)).2.1 nrem (kas_rev (evT lt (kas_desc (nrem-(n+1)) p (n+1) 0)).1 ((evT lt (kas_desc (nrem-(n+1)) p (n+1) 0)).2.1-((evT lt (kas_desc (nrem-(n+1)) p (n+1) 0)).2.2+1)) (evT lt (kas_desc (nrem-(n+1)) p (n+1) 0)).2.1) else kas_tail3 (evT lt (kas_desc (nrem-(n+1)) p (n+1) 0)).2.1 nrem (evT lt (kas_desc (nrem-(n+1)) p (n+1) 0)).1):=by
  unfold kas_descPart;rw[iE]
 generalize evT lt (kas_desc (nrem-(n+1)) p (n+1) 0)=r at D e;obtain⟨a1,a2,a3,a4,a5,a6⟩:=D;have sz:r.1.size=p.size:=a1.size_eq;rw[e]
 by_cases hq:r.2.2>0
 ·rw[if_pos hq];have hl:=rev_eq tr as (p:=r.1) (a:=r.2.1-(r.2.2+1)) (n:=r.2.1) (by omega) a6;obtain⟨b1,b2,b3,b4⟩:=Af tr as (n:=r.2.1) (nrem:=nrem) (p:=kas_rev r.1 (r.2.1-(r.2.2+1)) r.2.1) (by omega) (by omega) (by unfold kas_rev;rw[mirror_size];omega) (λi j az hj=>by rw[hl];exact a5 i j az hj);exact⟨by omega,b2,(b3.trans (RQ _ _ _ _)).trans a1,b4⟩
 ·rw[if_neg hq];obtain⟨b1,b2,b3,b4⟩:=Af tr as (n:=r.2.1) (nrem:=nrem) (p:=r.1) (by omega) (by omega) (by omega) a5;exact⟨by omega,b2,b3.trans a1,b4⟩
theorem sG(p:Array Nat):∀f n,1<=n->evT lt (kas_asc p f n)<n+f->lt (pa' p (evT lt (kas_asc p f n))) (pa' p (evT lt (kas_asc p f n)-1))=true
 |0,n,_,h=>absurd h (Qs _)
 |f+1,n,h1,h=>by
  have e:evT lt (kas_asc p (f+1) n)=evT lt (if lt (p.getD n 0) (p.getD (n-1) 0)=true then KasT.ret n else kas_asc p f (n+1)):=rfl;rw[e]at h⊢
  by_cases c:lt (p.getD n 0) (p.getD (n-1) 0)=true
  ·rw[if_pos c];exact c
  ·rw[if_neg c]at h⊢;exact sG p f (n+1) (by omega) (by omega)
theorem Fm{p:Array Nat}(h1:1<=nrem)(hz:nrem<=p.size):
  1<=(evT lt (kas_count nrem p)).1/\(evT lt (kas_count nrem p)).1<=nrem/\(evT lt (kas_count nrem p)).2.Perm p/\STo lt (evT lt (kas_count nrem p)).2 (evT lt (kas_count nrem p)).1:=by
 have h0:STo lt p 1:=λi j az hj=>by
  have:i=j:=by omega
  subst this;exact eX as _
 obtain⟨a,b,c⟩:=BH tr as p (nrem-1) 1 (OO _) h0;have stop:=sG tr as p (nrem-1) 1 (OO _);have e:evT lt (kas_count nrem p)=evT lt (if(evT lt (kas_asc p (nrem-1) 1) == nrem)=true then .ret (evT lt (kas_asc p (nrem-1) 1),p) else if evT lt (kas_asc p (nrem-1) 1)>1 then .ask (p.getD 0 0) (p.getD (evT lt (kas_asc p (nrem-1) 1)-1) 0) λc=>if c=true then .ret (evT lt (kas_asc p (nrem-1) 1),p) else kas_descPart (evT lt (kas_asc p (nrem-1) 1)) nrem (kas_rev p 0 (evT lt (kas_asc p (nrem-1) 1))) else kas_descPart (evT lt (kas_asc p (nrem-1) 1)) nrem p):=by
  unfold kas_count;rw[iE]
 generalize evT lt (kas_asc p (nrem-1) 1)=n at a b c e stop;rw[e]
 by_cases hn:(n == nrem)=true
 ·rw[if_pos hn];exact⟨a,by show n<=nrem;omega,RP _,c⟩
 ·rw[if_neg hn];have nu:n≠nrem:=by simpa using hn
  have st:=stop (by omega)
  by_cases h2:n>1
  ·rw[if_pos h2];have e2:∀k:Bool->KasT (Nat×Array Nat),evT lt (.ask (p.getD 0 0) (p.getD (n-1) 0) k)=evT lt (k (lt (p.getD 0 0) (p.getD (n-1) 0))):=λ_=>rfl;rw[e2]
   by_cases h3:lt (p.getD 0 0) (p.getD (n-1) 0)=true
   ·rw[if_pos h3];exact⟨a,by show n<=nrem;omega,RP _,c⟩
   ·rw[if_neg h3];have wz:lt (pa' p 0) (pa' p (n-1))=false:=by simpa using h3
    have eq:∀i j,0<=i->i<n->0<=j->j<n->lt (pa' p i) (pa' p j)=false:=λi j _ hi _ hj=>by
     exact tr _ _ _ (c j (n-1) (by omega) (by omega)) (tr _ _ _ wz (c 0 i (by omega) hi))
    have hl:=rev_eq tr as (p:=p) (a:=0) (n:=n) (by omega) eq;have g:pa' (kas_rev p 0 n) n=pa' p n:=by
     rw[fT,fT];unfold kas_rev;rw[getElem?_mirror_all (by omega),if_neg (by omega)]
    obtain⟨b1,b2,b3,b4⟩:=qM tr as (n:=n) (nrem:=nrem) (p:=kas_rev p 0 n) a (by omega) (by unfold kas_rev;rw[mirror_size];omega) (λi j az hj=>by rw[hl];exact eq i j (by omega) (by omega) (by omega) hj) (by rw[hl];exact st);exact⟨b1,b2,b3.trans (RQ _ _ _ _),b4⟩
  ·rw[if_neg h2];have xh:n=1:=by omega
   subst xh;exact qM tr as (n:=1) (nrem:=nrem) (p:=p) (OO _) (by omega) hz (λi j az hj=>by
    have:i=j:=by omega
    subst this;exact eX as _) st
theorem sH(p:Array Nat)(k:Nat)(hS:STo lt p k):∀f l r,r-l<=f->l<=r->r<=k->(∀i,i<l->lt (pa' p k) (pa' p i)=false)->(∀i,r<=i->i<k->lt (pa' p k) (pa' p i)=true)->
  l<=evT lt (kas_place p k f l r)/\evT lt (kas_place p k f l r)<=k/\(∀i,i<evT lt (kas_place p k f l r)->lt (pa' p k) (pa' p i)=false)/\(∀i,evT lt (kas_place p k f l r)<=i->i<k->lt (pa' p k) (pa' p i)=true)
 |0,l,r,hf,hl,hr,h1,h2=>by
  have:l=r:=by omega
  subst this;exact⟨OO _,hr,h1,h2⟩
 |f+1,l,r,hf,hl,hr,h1,h2=>by
  have e:evT lt (kas_place p k (f+1) l r)=evT lt (if l >= r then .ret l else .ask (p.getD k 0) (p.getD ((l+r)/2) 0) λc=>if c=true then kas_place p k f l ((l+r)/2) else kas_place p k f ((l+r)/2+1) r):=rfl;rw[e]
  by_cases hge:l >= r
  ·rw[if_pos hge];have:l=r:=by omega
   subst this;exact⟨OO _,hr,h1,h2⟩
  ·rw[if_neg hge];have e2:∀q:Bool->KasT Nat,evT lt (.ask (p.getD k 0) (p.getD ((l+r)/2) 0) q)=evT lt (q (lt (p.getD k 0) (p.getD ((l+r)/2) 0))):=λ_=>rfl;rw[e2]
   by_cases c:lt (p.getD k 0) (p.getD ((l+r)/2) 0)=true
   ·rw[if_pos c];refine sH p k hS f l ((l+r)/2) (by omega) (by omega) (by omega) h1 λi hi hk=>?_;cases q:lt (pa' p k) (pa' p i) with
    |true=>rfl
    |false=>
     have:=tr _ _ _ (hS ((l+r)/2) i hi hk) q;rw[show lt (pa' p k) (pa' p ((l+r)/2))=true from c]at this
     exact this.symm
   ·rw[if_neg c];have c':lt (pa' p k) (pa' p ((l+r)/2))=false:=by simpa using c
    obtain⟨b1,b2,b3,b4⟩:=sH p k hS f ((l+r)/2+1) r (by omega) (by omega) hr (λi hi=>by
     cases q:lt (pa' p k) (pa' p i) with
     |false=>rfl
     |true=>
      exfalso;have s1:=hS i ((l+r)/2) (by omega) (by omega);have s2:=as _ _ q;have:lt (pa' p k) (pa' p i)=false:=by
       -- p[mid]<=p[k] (c'),p[i]<=p[mid]
       exact tr _ _ _ s1 c'
      rw[q]at this;cases this) h2
    exact⟨by omega,b2,b3,b4⟩
theorem Fo:∀f (p:Array Nat) k,1<=k->k+f<=p.size->STo lt p k->(evT lt (kas_bin f p k)).Perm p/\STo lt (evT lt (kas_bin f p k)) (k+f)
 |0,p,k,_,_,h=>⟨RP _,h⟩
 |f+1,p,k,h1,hz,h=>by
  have e:evT lt (kas_bin (f+1) p k)=evT lt (kas_bin f (bubble p k (k-evT lt (kas_place p k k 0 k))) (k+1)):=by
   show evT lt ((kas_place p k k 0 k).bind λl=>kas_bin f (bubble p k (k-l)) (k+1))=_
   rw[iE]
  obtain⟨b1,b2,b3,b4⟩:=sH tr as p k h k 0 k (by omega) (Pu _) (OO _) (λi hi=>absurd hi (Nat.not_lt_zero _)) (λi hi hk=>absurd hk (by omega));generalize evT lt (kas_place p k k 0 k)=l at e b1 b2 b3 b4;have g:∀i,pa' (bubble p k (k-l)) i=if i=l then pa' p k else if l<i/\i<=k then pa' p (i-1) else pa' p i:=λi=>by
   rw[fT,fT,fT,fT,getElem?_bubble (by omega) _ (by omega)];have el:k-(k-l)=l:=by omega
   rw[el];split
   ·rfl
   ·split <;> rfl
  have hS:STo lt (bubble p k (k-l)) (k+1):=λi j az hj=>by
   rw[g i,g j]
   by_cases hj1:j=l
   ·by_cases jd:i=l
    ·rw[if_pos hj1,if_pos jd];exact eX as _
    ·rw[if_pos hj1,if_neg jd,if_neg (by omega)];exact b3 i (by omega)
   ·rw[if_neg hj1]
    by_cases jd:i=l
    ·rw[if_pos jd,if_pos (by omega)];exact as _ _ (b4 (j-1) (by omega) (by omega))
    ·rw[if_neg jd]
     by_cases hj2:l<j/\j<=k
     ·rw[if_pos hj2]
      by_cases n8:l<i/\i<=k
      ·rw[if_pos n8];exact h _ _ (by omega) (by omega)
      ·rw[if_neg n8];exact h _ _ (by omega) (by omega)
     ·rw[if_neg hj2,if_neg (by omega)];exact h _ _ az (by omega)
  have ih:=Fo f (bubble p k (k-l)) (k+1) (by omega) (by rw[bubble_size];omega) hS;rw[e];exact⟨ih.1.trans (bubble_perm _ _ _),by rw[show k+(f+1)=k+1+f by omega];exact ih.2⟩
theorem HQ(h1:1<=n):(evT lt (kas_sort n)).toList.Perm (Pm n)/\(evT lt (kas_sort n)).toList.Pairwise (λi j=>lt j i=false):=by
 have e:evT lt (kas_sort n)=evT lt (if(evT lt (kas_count n (Re (Pm n)))).1<n then kas_bin (n-max (evT lt (kas_count n (Re (Pm n)))).1 1) (evT lt (kas_count n (Re (Pm n)))).2 (max (evT lt (kas_count n (Re (Pm n)))).1 1) else .ret (evT lt (kas_count n (Re (Pm n)))).2):=by
  unfold kas_sort;rw[iE]
 obtain⟨a1,a2,a3,a4⟩:=Fm tr as (nrem:=n) (p:=Re (Pm n)) h1 (by simp);generalize evT lt (kas_count n (Re (Pm n)))=r at e a1 a2 a3 a4;have fin:∀p:Array Nat,p.Perm (Re (Pm n))->STo lt p n->p.toList.Perm (Pm n)/\p.toList.Pairwise (λi j=>lt j i=false):=λp hp hs=>by
  have hsz:p.size=n:=by rw[hp.size_eq];simp
  refine⟨by simpa using Array.perm_iff_toList_perm.mp hp,?_⟩
  rw[Qq];intro i j hi hj az;have bc:i<p.size:=by simpa using hi
  have m7:j<p.size:=by simpa using hj
  have:=hs i j (Sr az) (by omega);simpa[pa',SD,bc,m7] using this
 rw[e]
 by_cases ag:r.1<n
 ·rw[if_pos ag];have hm:max r.1 1=r.1:=by omega
  rw[hm];obtain⟨b1,b2⟩:=Fo tr as (n-r.1) r.2 r.1 a1 (by rw[a3.size_eq];simp;omega) a4;refine fin _ (b1.trans a3) ?_;rw[show r.1+(n-r.1)=n by omega]at b2;exact b2
 ·rw[if_neg ag];have:r.1=n:=by omega
  exact fin _ a3 (this▸a4)
end
open PySem PySem.Spec PyProof.Rows PySem.SeqAt PySem.W
def InP{α:Type}(n:Nat)(P:α->Prop):KasT α->Prop
 |.ret a=>P a
 |.ask i j k=>i<n/\j<n/\∀b,InP n P (k b)
theorem InP.bind{α β:Type}{P:α->Prop}{Q:β->Prop}{f:α->KasT β}:∀{t:KasT α},InP n P t->(∀a,P a->InP n Q (f a))->InP n Q (t.bind f)
 |.ret a,h,hf=>hf a h
 |.ask i j k,⟨h1,h2,h3⟩,hf=>⟨h1,h2,λb=>InP.bind (h3 b) hf⟩
theorem InP.mono{α:Type}{P Q:α->Prop}(hq:∀a,P a->Q a):∀{t:KasT α},InP n P t->InP n Q t
 |.ret a,h=>hq a h
 |.ask i j k,⟨h1,h2,h3⟩=>⟨h1,h2,λb=>InP.mono hq (h3 b)⟩
def AllLt(n:Nat)(p:Array Nat):Prop:=∀k,p.getD k 0<n
theorem AllLt.of{p q:Array Nat}(h:AllLt n p)(g:∀k:Nat,q[k]?=none\/∃k':Nat,q[k]?=p[k']?)(hn:0<n):AllLt n q:=λk=>by
 have e:∀(r:Array Nat) k,r.getD k 0=(r[k]?).getD 0:=λr k=>by simp[Array.getD_eq_getD_getElem?]
 rw[e];rcases g k with h1|⟨k',h1⟩
 ·rw[h1];exact hn
 ·rw[h1,<-e];exact h k'
theorem AllLt.perm{p q:Array Nat}(h:AllLt n p)(hp:q.Perm p)(hn:0<n):AllLt n q:=by
 refine AllLt.of h (λk=>?_) hn;cases e:q[k]? with
 |none=>exact .inl rfl
 |some v=>
  right;have hm:v∈q.toList:=by
   have:q.toList[k]?=some v:=by simpa using e
   exact Qi this
  have oj:v∈p.toList:=(Array.perm_iff_toList_perm.mp hp).mem_iff.mp hm;obtain⟨k',hk⟩:=RR.mp oj;exact⟨k',by rw[<-hk];simp⟩
section
variable(hn:0<n)
include hn
theorem yA{p:Array Nat}(h:AllLt n p):∀f m,InP n (λ_=>True) (kas_asc p f m)
 |0,m=>trivial
 |f+1,m=>⟨h _,h _,λb=>by
  cases b with
  |true=>exact trivial
  |false=>exact yA h f (m+1)⟩
theorem oC:∀f (p:Array Nat) m q,AllLt n p->InP n (λr=>AllLt n r.1) (kas_desc f p m q)
 |0,p,m,q,h=>h
 |f+1,p,m,q,h=>⟨h _,h _,λb=>by
  cases b with
  |true=>
   show InP n _ (if q>0 then kas_desc f (kas_rev p (m-(q+1)) m) (m+1) 0 else kas_desc f p (m+1) 0)
   by_cases hq:q>0
   ·rw[if_pos hq];exact oC f _ _ _ (h.perm (RQ _ _ _ _) hn)
   ·rw[if_neg hq];exact oC f _ _ _ h
  | false=>exact ⟨h _,h _,fun d=>by
    cases d with
    |true=>exact h
    |false=>exact oC f _ _ _ h⟩⟩
theorem wA{p:Array Nat}(h:AllLt n p)(m r:Nat):InP n (λx=>AllLt n x.2) (kas_tail3 m r p):=by
 unfold kas_tail3;exact InP.bind (yA hn (h.perm (RQ _ _ _ _) hn) _ _) λa _=>h.perm (RQ _ _ _ _) hn
theorem oD{p:Array Nat}(h:AllLt n p)(m r:Nat):InP n (λx=>AllLt n x.2) (kas_descPart m r p):=by
 unfold kas_descPart;refine InP.bind (oC hn _ _ _ _ h) λa ha=>?_
 by_cases hq:a.2.2>0
 ·rw[if_pos hq];exact wA hn (ha.perm (RQ _ _ _ _) hn) _ _
 ·rw[if_neg hq];exact wA hn ha _ _
theorem DS{p:Array Nat}(h:AllLt n p)(r:Nat):InP n (λx=>AllLt n x.2) (kas_count r p):=by
 unfold kas_count;refine InP.bind (yA hn h _ _) λa _=>?_
 by_cases h1:(a == r)=true
 ·rw[if_pos h1];exact h
 ·rw[if_neg h1]
  by_cases h2:a>1
  ·rw[if_pos h2];exact⟨h _,h _,λb=>by
    cases b with
    |true=>exact h
    |false=>exact oD hn (h.perm (RQ _ _ _ _) hn) _ _⟩
  ·rw[if_neg h2];exact oD hn h _ _
theorem pL{p:Array Nat}(h:AllLt n p)(k:Nat):∀f l r,InP n (λ_=>True) (kas_place p k f l r)
 |0,l,r=>trivial
 |f+1,l,r=>by
  show InP n _ (if l >= r then .ret l else .ask (p.getD k 0) (p.getD ((l+r)/2) 0) λc=>if c=true then kas_place p k f l ((l+r)/2) else kas_place p k f ((l+r)/2+1) r)
  by_cases hl:l >= r
  ·rw[if_pos hl];exact trivial
  ·rw[if_neg hl];exact⟨h _,h _,λb=>by
    cases b with
    |true=>exact pL h k f _ _
    |false=>exact pL h k f _ _⟩
theorem CL:∀f (p:Array Nat) k,AllLt n p->InP n (λ_=>True) (kas_bin f p k)
 |0,p,k,_=>trivial
 |f+1,p,k,h=>InP.bind (pL hn h k _ _ _) λl _=>CL f _ _ (h.perm (bubble_perm _ _ _) hn)
theorem Ag:InP n (λ_=>True) (kas_sort n):=by
 have h0:AllLt n (Re (Pm n)):=λk=>by
  by_cases hk:k<n
  ·simp[SD,hk]
  ·simp[SD,hk,hn]
 unfold kas_sort;refine InP.bind (DS hn h0 n) λr hr=>?_
 by_cases h:r.1<n
 ·rw[if_pos h];exact CL hn _ _ _ hr
 ·rw[if_neg h];exact trivial
end
theorem Ah{α:Type}{n:Nat}{cmp:Nat->Nat->(Bool->Shared->Prop)->Shared->Prop}{lt:Nat->Nat->Bool}{s:Shared}(hc:∀i j C,i<n->j<n->C (lt i j) s->cmp i j C s){Q:α->Shared->Prop}{P:α->Prop}:
  ∀{t:KasT α},InP n P t->Q (evT lt t) s->t.kasWp cmp Q s
 |.ret _,_,h=>h
 |.ask i j k,⟨h1,h2,h3⟩,h=>hc i j _ h1 h2 (Ah hc (h3 _) h)
def ltX(n:Nat)(lt:Nat->Nat->Bool)(i j:Nat):Bool:=if i<n then(if j<n then lt i j else true) else false
theorem Kj{lt:Nat->Nat->Bool}(tr:∀i j k,i<n->j<n->k<n->lt j i=false->lt k j=false->lt k i=false)(i j k:Nat)(h1:ltX n lt j i=false)(h2:ltX n lt k j=false):ltX n lt k i=false:=by
 unfold ltX at*
 by_cases hi:i<n <;> by_cases hj:j<n <;> by_cases hk:k<n <;> simp only[hi,hj,hk,if_true,if_false]at h1 h2⊢ <;> first|exact tr i j k hi hj hk h1 h2|exact absurd h2 (by decide)|exact absurd h1 (by decide)|rfl
theorem Kk{lt:Nat->Nat->Bool}(as:∀i j,i<n->j<n->lt i j=true->lt j i=false)(i j:Nat)(h:ltX n lt i j=true):ltX n lt j i=false:=by
 unfold ltX at*
 by_cases hi:i<n <;> by_cases hj:j<n <;> simp only[hi,hj,if_true,if_false]at h⊢ <;> first|exact as i j hi hj h|exact absurd h (by decide)|rfl
theorem wB{α:Type}{n:Nat}{lt lt':Nat->Nat->Bool}(h:∀i j,i<n->j<n->lt i j=lt' i j){P:α->Prop}:∀{t:KasT α},InP n P t->evT lt t=evT lt' t
 |.ret _,_=>rfl
 |.ask i j k,⟨h1,h2,h3⟩=>by
  show evT lt (k (lt i j))=evT lt' (k (lt' i j))
  rw[h i j h1 h2];exact wB h (h3 _)
theorem Fp{lt:Nat->Nat->Bool}(tr:∀i j k,i<n->j<n->k<n->lt j i=false->lt k j=false->lt k i=false)(as:∀i j,i<n->j<n->lt i j=true->lt j i=false)(h1:1<=n):
  (evT lt (kas_sort n)).toList.Perm (Pm n)/\(evT lt (kas_sort n)).toList.Pairwise (λi j=>lt j i=false):=by
 have e:evT lt (kas_sort n)=evT (ltX n lt) (kas_sort n):=wB (λi j hi hj=>by unfold ltX;rw[if_pos hi,if_pos hj]) (Ag (by omega));obtain⟨a,b⟩:=HQ (lt:=ltX n lt) (Kj tr) (Kk as) h1;rw[e];refine⟨a,b.imp_of_mem λ{i j} hi hj h=>?_⟩;have bc:i<n:=by simpa using a.mem_iff.mp hi
 have m7:j<n:=by simpa using a.mem_iff.mp hj
 unfold ltX at h;rw[if_pos m7,if_pos bc]at h;exact h
variable{κ:SortKind}
theorem qY{vs:List Value}{P:PySem.Fin->Shared->Prop}(lt:Nat->Nat->Bool)(tr:∀i j k,i<vs.length->j<vs.length->k<vs.length->lt j i=false->lt k j=false->lt k i=false)(as:∀i j,i<vs.length->j<vs.length->lt i j=true->lt j i=false)(ho:s.heap.get? a=some (seqObj "list" vs.toArray n))(f7:vs.length<64)(hk:∀s':Shared,(∀b o,b≠a->s.heap.get? b=some o->s'.heap.get? b=some o)->∀Q:SortKind->Shared->Prop,Q κ s'->wpAny (model prog w) A (keyKind' vs.toArray) Q E s')(ag:∀s':Shared,(∀b o,b≠a->s.heap.get? b=some o->s'.heap.get? b=some o)->∀i j,i<vs.length->j<vs.length->∀Q:Bool->Shared->Prop,Q (lt i j) s'->wpAny (model prog w) A (keyLt' κ (vs.getD i PC) (vs.getD j PC)) Q (λ_ _=>False) s')(h:∀p:List Nat,p.Perm (Pm vs.length)->p.Pairwise (λi j=>lt j i=false)->P (.done (.ret .none)) { s with heap:=sortedHeap s.heap a vs (p.map λi=>vs.getD i PC).toArray }):
  wpAny (model prog w) A (Builtin.«list.sort» ⟨[.ref a],[]⟩) P E s:=by
 rw[list_sort_plain];have ha:a<s.heap.objs.size:=OS ho;refine ff (listItems_at ho rfl ?_);refine ff (listUpdate_at ho rfl ?_ (by rw[OV,Qy];omega) (Pu _));obtain⟨e1,jw⟩:∃e1,(s.heap.update a (Qk λ_=>#[])).get? a=some (seqObj "list" #[] e1):=⟨_,get?_update_seq ho (λ_=>#[])⟩;refine ff (seqEpoch_at jw rfl ?_);refine ff (wpAny_newTuple ?_ (by show vs.length<=_;rw[Qy];omega));refine ff (wpAny_newList ?_ (Pu _));refine Qf ?_;have jr:(((s.heap.update a (Qk λ_=>#[])).push (seqObj "tuple" vs.toArray 0)).push (seqObj "list" #[] 0)).get? a=some (seqObj "list" #[] e1):=by
  rw[R8 _ _ _ (by rw[size_push',Heap.size_update];exact OW (Q1 ha)),R8 _ _ _ (by rw[Heap.size_update];exact OW ha)];exact jw
 have kept:∀b o,b≠a->s.heap.get? b=some o->(((s.heap.update a (Qk λ_=>#[])).push (seqObj "tuple" vs.toArray 0)).push (seqObj "list" #[] 0)).get? b=some o:=λb o hb e=>
  zz _ (zz _ ((Ql s.heap (Qk λ_=>#[]) (Sn hb)).trans e))
 show wpAny (model prog w) A _ P E { s with heap:=((s.heap.update a (Qk λ_=>#[])).push (seqObj "tuple" vs.toArray 0)).push (seqObj "list" #[] 0) }
 dsimp only;have hsz:vs.toArray.size=vs.length:=by simp
 by_cases h2:vs.toArray.size<2
 ·rw[if_pos h2,if_pos h2];refine ff (z8 ?_);rw[StateT.run_pure];refine ff (z8 ?_);dsimp only;refine ff (seqEpoch_at jr rfl ?_);refine ff (listUpdate_at jr rfl ?_ (Pu _) (hsz2:=by rw[Array.size_map];show(pairsOf vs).size<=_;rw[pairsOf_size,Qy];omega));simp only[bne_self_eq_false,Qb,if_false];have e:(vs.toArray.zip vs.toArray).map (·.2)=((Pm vs.length).map λi=>vs.getD i PC).toArray:=by
   apply Array.toList_inj.mp;apply Rq;intro i
   by_cases hi:i<vs.length
   ·simp[hi]
   ·simp[hi]
  have key:=h (Pm vs.length) (RC _) (by
   rw[Qq];intro i j hi hj az;simp only[List.length_range]at hi hj;omega)
  rw[<-e]at key;exact z8 key
 ·rw[if_neg h2,if_neg h2];have gj:2<=vs.length:=by omega
  refine ff (hk _ kept _ ?_);refine ff (Qj (kat_run (ks:=vs) (vs:=vs) (E:=E) (Q:=λcw s'=>s'={ s with heap:=((s.heap.update a (Qk λ_=>#[])).push (seqObj "tuple" vs.toArray 0)).push (seqObj "list" #[] 0) }/\arrOf cw=(evT lt (kas_sort vs.length)).map (kas_item (vs.toArray.zip vs.toArray))/\failedOf cw=none)
   (G:=λp s'=>p=evT lt (kas_sort vs.length)/\s'={ s with heap:=((s.heap.update a (Qk λ_=>#[])).push (seqObj "tuple" vs.toArray 0)).push (seqObj "list" #[] 0) }) rfl gj f7 (λp cw s' _ a2 a3 a4=>⟨a4.2,by rw[a2,a4.1],a3⟩)
   (Ah (n:=vs.length) (lt:=lt) (λi j C hi hj hC=>ag _ kept i j hi hj C hC) (Ag (by omega)) ⟨rfl,rfl⟩)) ?_ λ_ _ e=>e)
  rintro⟨⟨⟩,cw⟩ s' ⟨rfl,har,hf⟩;dsimp only;have kg:=kat_snds (ks:=vs) (vs:=vs) rfl har;obtain⟨c1,c2⟩:=Fp tr as (by omega);refine ff (seqEpoch_at jr rfl ?_);refine ff (listUpdate_at jr rfl ?_ (Pu _) (hsz2:=by
   have:(Array.map (λx=>x.snd) (arrOf cw)).size<=OR:=by
    rw[kg,OV,OP,c1.length_eq,List.length_range,Qy];omega
   first|exact this|exact Nat.le_succ_of_le this))
  rw[hf];simp only[bne_self_eq_false,Qb,if_false];have key:=h _ c1 c2;rw[<-kg]at key;exact z8 key
def kD:Key->D
 |.inl i=>.int i
 |.inr x=>.str x
def tD(ks:List Key):D:=.tup (ks.map kD)
theorem HS{k:Key}{v:V}(h:Rep K H (kD k) v):v=kV k:=by
 cases k <;> exact h
theorem HU(k:Key):Rep K H (kD k) (kV k):=by
 cases k <;> rfl
theorem wC{K:z9}{H:Hp}:∀{ks:List Key}{vs:List V},cH K H (ks.map kD) vs->vs=ks.map kV
 |[],[],_=>rfl
 |k::ks,v::vs,⟨h,r⟩=>by rw[HS h,wC (ks:=ks) r];rfl
 |[],_::_,h=>h.elim
 |_::_,[],h=>h.elim
theorem wD{K:z9}{H:Hp}:∀(ks:List Key),cH K H (ks.map kD) (ks.map kV)
 |[]=>trivial
 |k::ks=>⟨HU k,wD ks⟩
abbrev eM(h:Heap):List Value->List (List Key)->Prop:=Paired λv ks=>∃a us,v=.ref a/\IsTup h a us.toArray/\aI (ks.map kV) us
theorem eM.kept{h:Heap}(k:∀b o,h.get? b=some o->h'.get? b=some o):∀{vs:List Value}{ae:List (List Key)},eM h vs ae->eM h' vs ae
 |_,_,.nil=>.nil
 |_,_,.cons ⟨a,us,e,⟨o,ho,r⟩,q⟩ t=>.cons ⟨a,us,e,⟨o,k a o ho,r⟩,q⟩ (eM.kept k t)
theorem eM.get{h:Heap}:∀{vs:List Value}{ae:List (List Key)}{i:Nat},eM h vs ae->i<vs.length->∃a us,vs.getD i PC=.ref a/\IsTup h a us.toArray/\aI ((ae.getD i []).map kV) us
 |_,_,i,.nil,hi=>by simp at hi
 |_,_,0,.cons ⟨a,us,e,p,q⟩ t,hi=>⟨a,us,by simpa using e,p,by simpa using q⟩
 |_,_,i+1,.cons _ t,hi=>by
  obtain⟨a,us,e,p,q⟩:=eM.get (i:=i) t (by simpa using hi)
  exact⟨a,us,by simpa using e,p,by simpa using q⟩
theorem sI{X:Cx}{pins:List (Addr×Obj)}{σ:St}{H:Hp}{s:Shared}(I:Inv X pins σ H s):∀{ae:List (List Key)}{vs:List V}{us:List Value},cH X.K H (ae.map tD) vs->aI vs us->eM s.heap us ae
 |[],[],_,_,.nil=>.nil
 |ks::ae,v::vs,_,⟨⟨a,ws,e,q,r⟩,rs⟩,.cons rv dz=>by
  subst e;cases rv
  obtain⟨its,r2,p,_⟩:=I.tuple q;rw[wC r]at r2;exact .cons ⟨a,its,rfl,p,r2⟩ (sI I rs dz)
 |[],_::_,_,h,_=>h.elim
 |_::_,[],_,h,_=>h.elim
variable{ls:List Key}{us ws:List Value}{ae:List (List Key)}{sh:List Bool}
section
theorem kG{b:Bool}{Q:Bool->Shared->Prop}:∀(ks ls:List Key)(us ws:List Value)(i:Nat),aI (ks.map kV) us->aI (ls.map kV) ws->shape ks=shape ls->Q (dI ks ls) s->KatLex prog w A b false Q (us.zip ws) i s
 |[],[],_,_,i,.nil,.nil,_,h=>h
 |[],_::_,_,_,_,_,_,e,_=>by cases e
 |_::_,[],_,_,_,_,_,e,_=>by cases e
 |x::ks,y::ls,_,_,i,.cons (b:=u) r1 t1,.cons (b:=v) r2 t2,e,h=>by
  have s1:cX x=cX y:=by simpa using congrArg List.head? e
  have s2:shape ks=shape ls:=by simpa using congrArg List.tail e
  rw[List.zip_cons_cons];unfold dI at h;cases x with
  |inl a=>
   cases y with
   |inr c=>cases s1
   |inl c=>
    obtain⟨t,rfl⟩:=r1;obtain⟨t',rfl⟩:=r2;refine kat_cons (EqAt.int_int a t c t' prog w _ _ ?_)
    by_cases ac:a=c
    ·subst ac;rw[if_pos rfl]at h;rw[beq_self_eq_true];exact kat_yes (kG ks ls _ _ (i+1) t1 t2 s2 h)
    ·rw[if_neg (λz=>ac (Sum.inl.inj z))]at h;rw[beq_eq_false_iff_ne.mpr ac];refine kat_no ?_;cases hb:(b&&i == 0) with
     |true=>exact oneLt_int h
     |false=>exact kat_one _ _ (lt_int (show PySem.W.BoolBack Q (.bool (decide (a<c))) s from h))
  |inr a=>
   cases y with
   |inl c=>cases s1
   |inr c=>
    obtain⟨t,rfl⟩:=r1;obtain⟨t',rfl⟩:=r2;refine kat_cons (EqAt.str_str a t c t' prog w _ _ ?_)
    by_cases ac:a=c
    ·subst ac;rw[if_pos rfl]at h;rw[beq_self_eq_true];exact kat_yes (kG ks ls _ _ (i+1) t1 t2 s2 h)
    ·rw[if_neg (λz=>ac (Sum.inr.inj z))]at h;rw[beq_eq_false_iff_ne.mpr ac];refine kat_no ?_;cases hb:(b&&i == 0) with
     |true=>exact oneLt_str h
     |false=>exact kat_one _ _ (lt_str (show PySem.W.BoolBack Q (.bool (decide (a.cps.toList<c.cps.toList))) s from h))
theorem BI{b:Bool}{x y:Addr}{ks:List Key}{Q:Bool->Shared->Prop}(hx:IsTup s.heap x us.toArray)(hy:IsTup s.heap y ws.toArray)(r1:aI (ks.map kV) us)(r2:aI (ls.map kV) ws)(e:shape ks=shape ls)(h:Q (dI ks ls) s):
  wpAny (model prog w) A (keyLt' (tuples' b) (.ref x) (.ref y)) Q E s:=by
 obtain⟨ox,w8,_,n,dx⟩:=hx;obtain⟨oy,yn,_,m,dy⟩:=hy;refine kat_lt w8 dx yn dy ?_;have l1:=r1.length;have l2:=r2.length;have l3:ks.length=ls.length:=by simpa using congrArg List.length e
 rw[OP]at l1 l2;have hf:decide (us.toArray.size<ws.toArray.size)=false:=decide_eq_false (by simp;omega);rw[hf];exact kG ks ls us ws 0 r1 r2 e h
set_option tactic.hygienic true in
theorem sJ{h:Heap}{b:Bool}{sh:List Bool}:∀{vs:List Value}{ae:List (List Key)},eM h vs ae->(∀ks∈ae,shape ks=b::sh)->∃fs:List Value,fs.length=vs.length/\KatTups h vs fs/\∀f∈fs,typeOf f=pure (.type (if b then "int" else "str"))
 |_,_,.nil,_=>⟨[],rfl,KatTups.nil,λ_ hf=>nomatch hf⟩
 |_,_,.cons (b:=ks) ⟨a,us,e,⟨o,ho,hc,n,hd⟩,r⟩ t,hs=>by
  obtain⟨fs,hl,ht,hT⟩:=sJ t λx hx=>hs x (OX _ hx);have h0:=hs ks Pb;subst e;cases ks with
  |nil=>cases h0
  |cons k ks=>
   cases r with
   |cons rk rks=>
    rename_i u us';have hk:cX k=b:=by simpa using congrArg List.head? h0
    refine⟨u::fs,by simp[hl],KatTups.cons ho hc hd (by simp) ht,λf hf=>?_⟩;rcases KP.mp hf with rfl|hf
    ·cases k with
     |inl i=>obtain⟨tk,rfl⟩:=rk;subst hk;rfl
     |inr x=>obtain⟨tk,rfl⟩:=rk;subst hk;rfl
    ·exact hT f hf
theorem DT{vs:List Value}{b:Bool}{Q:SortKind->Shared->Prop}(t:eM s.heap vs ae)(hs:∀ks∈ae,shape ks=b::sh)(h0:0<vs.length)(h:Q (tuples' true) s):wpAny (model prog w) A (keyKind' vs.toArray) Q E s:=by
 obtain⟨fs,hl,ht,hT⟩:=sJ t hs;refine kat_kind (T:=.type (if b then "int" else "str")) ht (by omega) (λv hv=>by rw[hT v hv];exact Looks.now) (by cases b <;> rfl) ?_;have:((R1 (if b then "int" else "str")) != R1 "tuple")=true:=by cases b <;> rfl
 rw[this];exact h
theorem pM{P:PySem.Fin->Shared->Prop}(ho:s.heap.get? a=some (seqObj "list" ([]:List Value).toArray n))(h:P (.done (.ret .none)) { s with heap:=sortedHeap s.heap a [] #[] }):wpAny (model prog w) A (Builtin.«list.sort» ⟨[.ref a],[]⟩) P E s:=by
 rw[list_sort_plain];refine ff (listItems_at ho rfl ?_);refine ff (listUpdate_at ho rfl ?_ (Pu _) (Pu _));have ha:a<s.heap.objs.size:=OS ho;obtain⟨e1,jw⟩:∃e1,(s.heap.update a (Qk λ_=>#[])).get? a=some (seqObj "list" #[] e1):=⟨_,get?_update_seq ho (λ_=>#[])⟩;refine ff (seqEpoch_at jw rfl ?_);refine ff (wpAny_newTuple ?_ (Pu _));refine ff (wpAny_newList ?_ (Pu _));refine Qf ?_;have jr:(((s.heap.update a (Qk λ_=>#[])).push (seqObj "tuple" ([]:List Value).toArray 0)).push (seqObj "list" #[] 0)).get? a=some (seqObj "list" #[] e1):=by
  rw[R8 _ _ _ (by rw[size_push',Heap.size_update];exact OW (Q1 ha)),R8 _ _ _ (by rw[Heap.size_update];exact OW ha)];exact jw
 show wpAny (model prog w) A _ P E { s with heap:=((s.heap.update a (Qk λ_=>#[])).push (seqObj "tuple" ([]:List Value).toArray 0)).push (seqObj "list" #[] 0) }
 dsimp only;rw[if_pos (by decide),if_pos (by decide)];refine ff (z8 ?_);rw[StateT.run_pure];refine ff (z8 ?_);dsimp only;refine ff (seqEpoch_at jr rfl ?_);have e0:(Array.map (λx=>x.snd) (arrOf (SortSt.mk' general' ((#[]:Array Value).zip (#[]:Array Value)) #[] 7 none)))=(#[]:Array Value):=by
  show Array.map (λx=>x.snd) ((#[]:Array Value).zip (#[]:Array Value))=#[]
  simp
 refine ff (listUpdate_at jr rfl ?_ (Pu _) (hsz2:=by
  have e1:(Array.map (λx=>x.snd) (arrOf (SortSt.mk' general' ((#[]:Array Value).zip (#[]:Array Value)) #[] 7 none))).size=0:=by rw[e0];rfl
  first|exact PD (Nat.le_of_eq e1) (Pu _)|(show _<=_;omega)))
 simp only[bne_self_eq_false,Qb,if_false];refine z8 ?_
 show P (.done (.ret .none)) { s with heap:=(((s.heap.update a (Qk λx=>#[])).push (seqObj "tuple" ([]:List Value).toArray 0)).push (seqObj "list" #[] 0)).update a (Qk λx=>Array.map (λx=>x.snd) (arrOf (SortSt.mk' general' ((#[]:Array Value).zip (#[]:Array Value)) #[] 7 none))) }
 rw[e0];exact h
theorem wF{v:Value}(wa:List Value->Shared->Prop)(hc:wpAny (model prog w) A.in1 (collect v) wa E s)(h:∀vs s1,wa vs s1->vs.length<64/\∃lt:Nat->Nat->Bool,(∀i j k,i<vs.length->j<vs.length->k<vs.length->lt j i=false->lt k j=false->lt k i=false)/\(∀i j,i<vs.length->j<vs.length->lt i j=true->lt j i=false)/\
   (∀(A':Around)(s':Shared),(∀b o,s1.heap.get? b=some o->s'.heap.get? b=some o)->0<vs.length->∀(Q:SortKind->Shared->Prop) E',Q κ s'->wpAny (model prog w) A' (keyKind' vs.toArray) Q E' s')/\
   (∀(s':Shared),(∀b o,s1.heap.get? b=some o->s'.heap.get? b=some o)->∀i j,i<vs.length->j<vs.length->∀Q:Bool->Shared->Prop,Q (lt i j) s'->wpAny (model prog w) A.in1.in1 (keyLt' κ (vs.getD i PC) (vs.getD j PC)) Q (λ_ _=>False) s')/\
   ∀(p:List Nat)(h':Heap)(e:Nat),p.Perm (Pm vs.length)->p.Pairwise (λi j=>lt j i=false)->(∀b o,s1.heap.get? b=some o->h'.get? b=some o)->h'.get? s1.heap.objs.size=some (seqObj "list" (p.map λi=>vs.getD i PC).toArray e)->Q (.ref s1.heap.objs.size) { s1 with heap:=h' }):
  wpAny (model prog w) A (call (.builtin "sorted") [v]) Q E s:=by
 refine Calls.call_function_entry kind_sorted plain_sorted entry_sorted (args_sorted1 _) ?_;unfold Builtin.«sorted»;refine ff (m:=checkCount "sorted" 1 1 _) (z8 ?_);refine ff (Qj hc (λvs s1 c=>?_) λ_ _ x=>x);obtain⟨f7,lt,tr,as,hk,ag,fin⟩:=h vs s1 c;refine ff (wpAny_newList ?_ (by rw[Qy];omega));have j8:(s1.heap.push (seqObj "list" vs.toArray 0)).get? s1.heap.objs.size=some (seqObj "list" vs.toArray 0):=OQ _ rfl;have keep:∀b o,s1.heap.get? b=some o->b≠s1.heap.objs.size/\(s1.heap.push (seqObj "list" vs.toArray 0)).get? b=some o:=λb o q=>⟨OW (OS q),zz _ q⟩
 show wpAny _ _ _ _ _ { s1 with heap:=s1.heap.push (seqObj "list" vs.toArray 0) }
 refine ff (Qf (PL slot_list_sort ⟨_,j8,rfl⟩ entry_list_sort ?_ (args_list_sort _)));have tree:wpAny (model prog w) A.in1.in1 (Builtin.«list.sort» ⟨[.ref s1.heap.objs.size],[]⟩) (λr s'=>∃p:List Nat,r=.done (.ret .none)/\p.Perm (Pm vs.length)/\p.Pairwise (λi j=>lt j i=false)/\s'={ s1 with heap:=sortedHeap (s1.heap.push (seqObj "list" vs.toArray 0)) s1.heap.objs.size vs (p.map λi=>vs.getD i PC).toArray }) E { s1 with heap:=s1.heap.push (seqObj "list" vs.toArray 0) }:=by
  by_cases h0:0<vs.length
  ·exact qY (κ:=κ) lt tr as j8 f7 (λs' kp Q hq=>hk _ s' (λb o e=>kp b o (keep b o e).1 (keep b o e).2) h0 Q _ hq) (λs' kp i j hi hj Q hq=>ag s' (λb o e=>kp b o (keep b o e).1 (keep b o e).2) i j hi hj Q hq) λp a1 a2=>⟨p,rfl,a1,a2,rfl⟩
  ·have e0:vs=[]:=List.length_eq_zero_iff.mp (by omega);subst e0;exact pM j8 ⟨[],rfl,RC _,R7,rfl⟩
 refine Qj tree (λr s' hr=>?_) λ_ _ x=>x;obtain⟨p,rfl,a1,a2,rfl⟩:=hr;refine⟨_,rfl,z8 ⟨_,rfl,?_⟩⟩;obtain⟨e,he⟩:=sortedHeap_at (h:=s1.heap.push (seqObj "list" vs.toArray 0)) (out:=(p.map λi=>vs.getD i PC).toArray) j8;exact fin p _ e a1 a2 (λb o q=>(sortedHeap_old (keep b o q).1 (by rw[size_push'];exact Q1 (OS q))).trans (keep b o q).2) he
end
def pN(H:Hp)(ps:List (Addr×List V)):Hp:=λb=>match ps.lookup b with
 |some xs=>some (.tup xs)
 |none=>H b
theorem qN{κ:Type}{x:Addr}{k:κ}:∀{l:List (Addr×κ)},l.lookup x=some k->(x,k)∈l
 |[],h=>by simp at h
 |(n,v)::r,h=>by
  by_cases hx:x=n
  ·subst hx;simp only[Pg,beq_self_eq_true]at h;cases h
   exact Pb
  ·have:(x == n)=false:=by simpa using hx
   simp only[Pg,this]at h;exact OX _ (qN h)
theorem oE{κ:Type}{x:Addr}:∀{l:List (Addr×κ)},(∀p∈l,p.1≠x)->l.lookup x=none
 |[],_=>rfl
 |(n,v)::r,h=>by
  have hx:(x == n)=false:=by
   have:=h (n,v) Pb;simpa using λe:x=n=>this e.symm
  simp only[Pg,hx];exact oE λp hp=>h p (OX _ hp)
theorem Ai{ps:List (Addr×List V)}{b:Addr}(h:∀p∈ps,p.1≠b):pN H ps b=H b:=by
 unfold pN;rw[oE h]
theorem Aj{H:Hp}:∀{ps:List (Addr×List V)}{j:Nat}{a:Addr}{xs:List V},(ps.map (·.1)).Nodup->ps[j]?=some (a,xs)->pN H ps a=some (.tup xs)
 |[],_,_,_,_,h=>by simp at h
 |(n,v)::r,0,a,xs,_,h=>by
  simp at h;obtain⟨rfl,rfl⟩:=h;unfold pN;simp[Pg]
 |(n,v)::r,j+1,a,xs,nd,h=>by
  have km:(n::r.map (·.1)).Nodup:=nd;obtain⟨n1,n2⟩:=Q2.mp km;have h':r[j]?=some (a,xs):=by simpa using h
  have ne:(a == n)=false:=by
   have:a∈r.map (·.1):=OU.mpr ⟨_,Qi h',rfl⟩;simpa using λe:a=n=>n1 (e▸this)
  have ih:=Aj (H:=H) n2 h';unfold pN at ih⊢;simp only[Pg,ne];exact ih
section
variable{σ:St}
theorem Inv.laidT{ps:List (Addr×List V)}(I:Inv X pins σ H s)(k:∀b u,s.heap.get? b=some u->h'.get? b=some u)(hp:∀p∈ps,s.heap.objs.size<=p.1)(new:∀p∈ps,p.2.length<=OR/\∃its:List Value,aI p.2 its/\nO h' p.1 its.toArray):
  Inv X pins σ (pN H ps) { s with heap:=h',toks:=t' }:=by
 have nb:∀b,b<s.heap.objs.size->∀p∈ps,p.1≠b:=λb hb p rj e=>Qs _ (Pd hb (e▸hp p rj));have old:∀b,b<s.heap.objs.size->pN H ps b=H b:=λb hb=>Ai (nb b hb);refine I.un ⟨λb u q _ _ _=>k b u q,λb u q _ _ _=>⟨u.slots,k b u q⟩,λb u q n _=>(old b (OS q)).trans n,λb u q _=>⟨u,k b u q⟩,λb xs q=>(old b (I.hok.lt q)).trans q,λb u xs q=>(old b (I.hok.lt q)).trans q,λb ps' q=>⟨#[],by rw[old b (I.hok.lt q),q];simp⟩⟩ ?_;intro b u e;unfold pN at e;cases q:ps.lookup b with
 |some xs=>
  rw[q]at e;cases e
  obtain⟨z,its,r,p⟩:=new _ (qN q);exact⟨z,its,r,p⟩
 |none=>
  rw[q]at e;have hb:=I.hok.lt e;exact(I.hok b u e).stay (λc v _ q=>k c v q) (λc q=>(old c (I.hok.lt q)).trans q) λc xs q=>(old c (I.hok.lt q)).trans q
theorem DU(I:Inv X pins σ H s){ps:List (Addr×List V)}(hp:∀p∈ps,s.heap.objs.size<=p.1):xU H (pN H ps):=λb o e=>by
 have nb:∀p∈ps,p.1≠b:=λp rj z=>Qs _ (Pd (I.hok.lt e) (z▸hp p rj));rw[Ai nb];exact e
end
def BJ(v d:Addr):HO:=.ext λh=>h.IsItemsView v d
def Fq:V->List V->Hp->VK->Prop:=λx xs H Q=>∃d kvs,x=.ref d/\xs=[]/\H d=some (.dK kvs)/\∀l,H l=none->Q (.ref l) (upd H l (BJ l d))
theorem Fs:MtR X "dict.items" Fq:=by
 intro pins s σ H x xs v us Q I rx rv h;obtain⟨d,kvs,rfl,rfl,hd,q⟩:=h;cases rx
 cases rv
 obtain⟨z,y,vs,r,D⟩:=I.hok d _ hd;refine Ru PySem.F.slot_dict_items D.typeIs PySem.F.entry_dict_items (PySem.F.args_dict_items_1 _) (meets_dict_items (aQ X.prog X.w) d y) ⟨⟨vs,D⟩,?_⟩;refine⟨.ref s.heap.objs.size,_,I.laid (t':=s.toks) (o:=BJ s.heap.objs.size d) (λb u e=>zz _ e) (OO _) ?_,rfl,q _ I.fresh⟩;exact⟨⟨_,OQ _ rfl,rfl,rfl⟩,⟨_,OQ _ rfl⟩,λh1 h2 ⟨o,e,p⟩ k=>⟨o,k o e,p⟩⟩
def yB(K:z9)(ae:List (List Key))(Q:VK)(H1:Hp):Prop:=∀(l:Addr)(fv:List (List Key))(fg:List V),H1 l=none->fv.Perm ae->fv.Pairwise (λa b=>dI b a=false)->cH K H1 (fv.map tD) fg->Q (.ref l) (upd H1 l (.lst fg))
def Kl(K:z9):List V->Hp->VK->Prop:=λxs H Q=>∃(p:Addr)(ae:List (List Key))(sh:List Bool)(b:Bool),xs=[.ref p]/\ae.length<64/\(∀ks∈ae,shape ks=b::sh)/\
 ((∃vs,SqL K H p vs/\cH K H (ae.map tD) vs/\yB K ae Q H)\/
  (∃d kvs,H p=some (BJ p d)/\H d=some (.dK kvs)/\kvs.map (λkv=>[kV kv.1,kv.2])=ae.map (λks=>ks.map kV)/\∀H1,xU H H1->yB K ae Q H1))
theorem DV{α:Type}{xs:List α}{d:α}{p:List Nat}(h:p.Perm (Pm xs.length)):(p.map λi=>xs.getD i d).Perm xs:=by
 have e:(Pm xs.length).map (λi=>xs.getD i d)=xs:=by
  apply Rq;intro i
  by_cases hi:i<xs.length
  ·simp[hi]
  ·simp[hi]
 have:=h.map λi=>xs.getD i d
 rwa[e]at this
theorem wG{K:z9}{H:Hp}{ds:List D}{vs:List V}(r:cH K H ds vs):∀{p:List Nat},(∀i∈p,i<ds.length)->cH K H (p.map λi=>ds.getD i .non) (p.map λi=>vs.getD i .non)
 |[],_=>trivial
 |i::p,h=>by
  have hi:=h i Pb;have g:ds[i]?=some (ds.getD i .non):=by simp[hi]
  obtain⟨v,hv,hr⟩:=r.at g;have e:vs.getD i .non=v:=by simp[Sd,hv]
  refine⟨?_,wG r λj hj=>h j (OX _ hj)⟩
  show Rep K H (ds.getD i .non) (vs.getD i .non)
  rw[e];exact hr
theorem wH{vs:List V}{us:List Value}(r:aI vs us):∀{p:List Nat},(∀i∈p,i<vs.length)->aI (p.map λi=>vs.getD i .non) (p.map λi=>us.getD i PC)
 |[],_=>.nil
 |i::p,h=>by
  have hi:=h i Pb;have g:vs[i]?=some (vs.getD i .non):=by simp[hi]
  obtain⟨u,hu,hr⟩:=r.get g;have e:us.getD i PC=u:=by simp[Sd,hu]
  refine .cons ?_ (wH r λj hj=>h j (OX _ hj))
  show RelV (vs.getD i .non) (us.getD i PC)
  rw[e];exact hr
theorem yC(hc:X.calm=true)(K:z9)(hK:X.K=K):cG X (.builtin "sorted") (Kl K):=by
 subst hK;intro pins s σ H xs us Q I r h;obtain⟨p,ae,sh,b,rfl,f7,hsh,h⟩:=h;obtain⟨u,rfl,ru⟩:=vals1 r;cases ru
 have e8:∀i,i<ae.length->shape (ae.getD i [])=b::sh:=λi hi=>by
  have:ae.getD i []=ae[i]:=by simp[hi]
  rw[this];exact hsh _ (Qt hi)
 refine wF (κ:=tuples' true) (λits s1=>∃H1 vs,Inv X pins σ H1 s1/\aI vs its/\cH X.K H1 (ae.map tD) vs/\yB X.K ae Q H1) ?col ?fin
 case fin=>
  rintro its s1 ⟨H1,vs,I1,rv,rr,fin⟩;have l1:=rv.length;have l2:ae.length=vs.length:=by simpa using rr.length
  have hlen:its.length=ae.length:=by omega
  have tk:=sI I1 rr rv;refine⟨by omega,λi j=>dI (ae.getD i []) (ae.getD j []),λi j k hi hj hk h1 h2=>?_,λi j _ _ h=>xY h,λA' s' kp h0 Q' E' hq=>?_,λs' kp i j hi hj Q' hq=>?_,λq h' e a1 a2 kp he=>?_⟩
  ·exact rF ((e8 i (by omega)).trans (e8 j (by omega)).symm) ((e8 j (by omega)).trans (e8 k (by omega)).symm) h1 h2
  ·exact DT (tk.kept kp) hsh h0 hq
  ·obtain⟨a,ua,e1,p1,r1⟩:=(tk.kept kp).get hi;obtain⟨c,uc,e2,p2,r2⟩:=(tk.kept kp).get hj;rw[e1,e2];exact BI p1 p2 r1 r2 ((e8 i (by omega)).trans (e8 j (by omega)).symm) hq
  ·have gk:∀i∈q,i<ae.length:=λi hi=>by
    have:=a1.mem_iff.mp hi;rw[QX]at this;omega
   rw[hlen]at a1;have vh:=wG rr (p:=q) (λi hi=>by rw[OP];exact gk i hi);have em:(q.map λi=>(ae.map tD).getD i .non)=(q.map λi=>ae.getD i []).map tD:=by
    rw[Ph];apply QL;intro i hi;have:=gk i hi;simp[this]
   rw[em]at vh;refine⟨.ref s1.heap.objs.size,_,I1.laid (t':=s1.toks) (o:=.lst (q.map λi=>vs.getD i .non)) kp (OO _) ?_,rfl,fin _ _ _ I1.fresh (DV a1) ?_ vh⟩
   ·refine⟨?_,q.map (λi=>its.getD i PC),e,wH rv (λi hi=>by have:=gk i hi;omega),he⟩;rw[OP,a1.length_eq,List.length_range,Qy];omega
   ·rw[QM];exact a2
 case col=>
  rcases h with⟨vs,hq,rr,fin⟩|⟨d,kvs,hv,hd,hk,fin⟩
  ·obtain⟨its,rv,pl,hz⟩:=I.list hq;refine collect_list pl.isList ?_ (by have:=rv.length;omega);exact⟨H,vs,I.kept (t':=s.toks) λb o e=>by
    have ag:b<s.heap.objs.size:=OS e
    first
     |(rw[Heap.get?_update_ne _ _ _ _ (OW ag),R8 _ _ _ (OW ag)];exact e)
     |exact zz _ e,rv,rr,fin⟩
  ·obtain⟨my,_,_⟩:=I.hok p _ hv;obtain⟨z,y,vs,u4,D⟩:=I.hok d _ hd;obtain⟨ep,D'⟩:=D.dictAt;have lkv:kvs.length=vs.length:=KV.length u4;have lks:kvs.length=ae.length:=by simpa using congrArg List.length hk
   refine kdx_collect (A:=X.A.in1) (knd:=aQ X.prog X.w) (kvs:=vs) (ep:=ep) (I.ok.hd hc) my D' (by rw[Qy];omega) λh' tk as kp hl hG=>?_
   -- the new tuples
   let ps:List (Addr×List V):=as.zip (ae.map λks=>ks.map kV);have o8:ps.map (·.1)=as:=by
    show(as.zip _).map Prod.fst=as
    rw[List.map_fst_zip];rw[OP];omega
   have bx:∀q∈ps,s.heap.objs.size<=q.1:=λq hq=>by
    have:q.1∈as:=by rw[<-o8];exact OU.mpr ⟨q,hq,rfl⟩
    exact Sr (hG.above _ this)
   have nd:(ps.map (·.1)).Nodup:=by
    rw[o8];exact hG.rise.imp λh=>OW h
   have each:∀(j:Nat)(a:Addr),as[j]?=some a->∃ks us,ae[j]?=some ks/\ps[j]?=some (a,ks.map kV)/\aI (ks.map kV) us/\nO h' a us.toArray/\ks.length<=2:=λj a ha=>by
    obtain⟨key,kk,x,e1,e2,e3⟩:=hG.pairs j a ha;have hj:j<ae.length:=by
     have:=(Io.mp ha).1;omega
    have xc:j<kvs.length:=by omega
    have g1:ae[j]?=some ae[j]:=by simp[hj]
    have g2:kvs[j]?=some kvs[j]:=by simp[xc]
    have g3:(ae[j]).map kV=[kV kvs[j].1,kvs[j].2]:=by
     have:=congrArg (λl=>l[j]?) hk;simp[g1,g2]at this;exact this.symm
    -- the raw pair
    have rr:∀{kvs:List (Key×V)}{vs:List (Key×Value)}{j:Nat}{kv:Key×V}{w':Key×Value},KV kvs vs->kvs[j]?=some kv->vs[j]?=some w'->kv.1=w'.1/\RelV kv.2 w'.2:=by
     intro kvs vs j kv w' h
     induction h generalizing j with
     |nil=>intro h1;simp at h1
     |cons r t ih=>
      intro h1 h2;cases j with
      |zero=>simp at h1 h2;subst h1 h2;exact r
      |succ j=>exact ih (by simpa using h1) (by simpa using h2)
    obtain⟨q1,q2⟩:=rr u4 g2 e1;refine⟨ae[j],[key,x],g1,?_,?_,⟨_,e3,rfl,⟨0,rfl⟩,rfl⟩,?_⟩
    ·show(as.zip _)[j]?=_
     rw[List.getElem?_zip_eq_some];exact⟨ha,by simp[g1]⟩
    ·rw[g3];refine .cons ?_ (.cons q2 .nil);rw[q1];have zi:rT kk key=true:=e2;rcases bJ zi with⟨i,t,rfl,rfl⟩|⟨y,t,rfl,rfl⟩
     ·exact⟨t,rfl⟩
     ·exact⟨t,rfl⟩
    ·have:=congrArg List.length g3;simp at this;omega
   have I1:Inv X pins σ (pN H ps) { s with heap:=h',toks:=tk }:=I.laidT kp bx λq hq=>by
    obtain⟨j,hj⟩:=RR.mp hq;have ha:as[j]?=some q.1:=by
     have:=congrArg (λl=>l[j]?) o8;simp[hj]at this;exact this.symm
    obtain⟨ks,us,_,e2,e3,e4,e5⟩:=each j q.1 ha;rw[hj]at e2;have eq2:q.2=ks.map kV:=by
     have:=Pv e2;rw[this]
    refine⟨?_,us,by rw[eq2];exact e3,e4⟩;rw[eq2,OP,Qy];omega
   refine⟨pN H ps,as.map V.ref,I1,?_,?_,fin _ (DU I bx)⟩
   ·have:∀l:List Addr,aI (l.map V.ref) (l.map Py):=λl=>by
     induction l with
     |nil=>exact .nil
     |cons a l ih=>exact .cons rfl ih
    exact this as
   ·have gen:∀(l:List Addr)(ls:List (List Key)),l.length=ls.length->(∀(j:Nat) a ks,l[j]?=some a->ls[j]?=some ks->pN H ps a=some (.tup (ks.map kV)))->cH X.K (pN H ps) (ls.map tD) (l.map V.ref):=by
     intro l
     induction l with
     |nil=>
      intro ls hl _;cases ls with
      |nil=>exact trivial
      |cons _ _=>cases hl
     |cons a l ih=>
      intro ls hl hh;cases ls with
      |nil=>cases hl
      |cons ks ls=>
       refine⟨⟨a,_,rfl,SqT.of (hh 0 a ks rfl rfl),wD ks⟩,ih ls (by simpa using hl) λj a' c9 h1 h2=>hh (j+1) a' c9 (by simpa using h1) (by simpa using h2)⟩
    refine gen as ae (by omega) λj a ks h1 h2=>?_;obtain⟨c9,us,e1,e2,_⟩:=each j a h1;rw[h2]at e1;cases e1
    exact Aj nd e2
open PySem PySem.Spec PyProof.Rows
theorem uO:typeLookup (.type "tuple") "keys" = pure none:=by rw[typeLookup_type,RS];kernel_rfl
theorem mH:entryFor table "dict.update.loop" = some Builtin.«dict.update.loop»:=entryFor_of_tree (by kernel_rfl)
theorem eO:plainId "dict.update.loop" = true:=by decide +kernel
variable{o:Obj}
theorem uP{xs:Array Value}{k:Nat}{Q:Option Value->Shared->Prop}(hx:s.heap.get? a=some o)(hc:o.cls=.type "tuple")(fw:o.data=.seq xs k)(hd:o.dict=none)(hA:A.handled=none)(h:∀h' tk,(∀b u,s.heap.get? b=some u->h'.get? b=some u)->Q none { s with heap:=h',toks:=tk }):wpAny (model prog w) A (getAttr? (.ref a) "keys") Q E s:=by
 obtain⟨c,dct,dat,sl⟩:=o;simp only at hc fw hd;subst hc fw hd;obtain⟨hp,g,d,tk,os⟩:=s;have hT:∀je,(⟨hp,g,d,je,os⟩:Shared).TypeIs (.ref a) "tuple" := λ_=>⟨_,hx,rfl⟩;have f1:=sub_AttributeError;have f3:=F.slot_tuple_getattribute.lookup;have f4:=F.slot_tuple_getattribute.bind (.ref a);have f5:=am_tuple_getattr_none;unfold getAttr? getAttrBy? getAttrBy
 repeat (any_goals (first|assumption|exact hT _|((with_reducible show wpAny _ _ (call (Value.builtin "tuple.__getattribute__") _ _) _ _ _);refine R6 F.slot_tuple_getattribute (hT _) am_entry_tuple_getattribute (F.args_tuple_getattribute_2 _ _) (meets_getattribute_miss_tuple a xs k sl "keys" _ uO (by decide) (by size_fits)) ⟨hx,hA,λh' je e cf=>?_⟩)|wp_step))
 obtain⟨t',u',he⟩:=cf.there
 show wpAny _ _ (getattributeRaised _ _ _ _ _ _ _) _ _ _
 unfold getattributeRaised
 repeat (any_goals (first|assumption|wp_step))
 exact h _ _ cf.of.keeps
variable{I:Addr}{fp wr:List Addr}
section
variable{K:Type}[DecidableEq K]{knd:KeyKind prog w K}
theorem BK{d:Addr}{P:Nat->Value->Prop}{St:Nat->Heap->Prop}(W:Walks prog w A.in1 I fp wr n P St)(hd:d∉fp)(ps:List (Addr×K×Value×Value))(hn:ps.length=n)(hP:∀i v,P i v->∃p,ps[i]?=some p/\v=.ref p.1)(hT:∀p∈ps,p.1∉wr/\p.1≠d)(hk:∀p∈ps,knd.is p.2.1 p.2.2.1=true)(res:Value):
  ∀(m i:Nat)(s:Shared)(kvs:List (K×Value)),n-i=m->i<=n->St i s.heap->s.heap.DictOf knd d kvs->kvs.length+n<=OR+i->(∀p∈ps,IsTup s.heap p.1 #[p.2.2.1,p.2.2.2])->
  (∀h' tk,h'.DictOf knd d (merged kvs ((ps.drop i).map λp=>(p.2.1,p.2.2.2)))->(∀b o,b≠d->b∉wr->s.heap.get? b=some o->h'.get? b=some o)->R (.ok (.ret res)) { s with heap:=h',toks:=tk })->
  codeAny (model prog w) A (.builtin "dict.update.loop" ⟨[.ref d,.ref I,rawInt i,res],[]⟩) R s:=by
 have v5:d∉wr:=λh=>hd (W.sub _ h);intro m
 induction m with
 |zero=>
  intro i s kvs hm hi cz ji hz hit hR;have gk:i=n:=by omega
  subst gk;refine Q3 mH ?_;rw[QE eO _]
  show wpAny _ A.in1 (pyNext (.ref I) >>= _) _ _ s
  refine ff (W.done s _ _ cz λh' tk f'=>?_)
  show wpAny _ A.in1 (Builtin.Dict.addKeywords d [] >>= _) _ _ _
  have jm:=hR h' tk (by
   rw[List.drop_of_length_le (by omega)];obtain⟨o,es,ep,h1,h2⟩:=ji;exact⟨o,es,ep,f' d _ v5 h1,h2⟩) λb o _ hb e=>f' b o hb e
  exact ff (z8 (z8 jm))
 |succ m ih=>
  intro i s kvs hm hi cz ji hz hit hR;have ag:i<n:=by omega
  refine Q3 mH ?_;rw[QE eO _]
  show wpAny _ A.in1 (pyNext (.ref I) >>= _) _ _ s
  refine ff (W.item i s _ _ ag cz λv h' tk zj gb f'=>?_);obtain⟨p,hp,rfl⟩:=hP i v zj;have uj:=Qi hp;obtain⟨ob,yq,ph,nn,xn⟩:=hit p uj;have lr:=f' _ _ (hT p uj).1 yq;have yx:({ s with heap:=h',toks:=tk }:Shared).TypeIs (.ref p.1) "tuple" := ⟨ob,lr,ph⟩;have um:h'.DictOf knd d kvs:=by
   obtain⟨o,es,ep,h1,h2⟩:=ji;exact⟨o,es,ep,f' d _ v5 h1,h2⟩
  refine ff (Qf (ff (wpAny_tryCatch ?_)));unfold Builtin.Dict.pairItems;refine ff (Rt yx ?_);rw[if_pos (by decide)];refine ff (QO lr xn (z8 ?_))
  show wpAny _ _ (holding [p.2.2.1,p.2.2.2] (dictSet d p.2.2.1 p.2.2.2)) _ _ _
  refine Qf (wpAny_dictSet_pairs (hk p uj) um (hsz:=by omega) λh2 hd2 d6=>?_);refine z8 ⟨R9 eO _,?_⟩;have j6:St (i+1) h2:=W.frame (i+1) h' h2 gb λb hb o e=>(d6.2 b (λz=>hd (z▸hb))).trans e;refine ih (i+1) _ (stored kvs p.2.1 p.2.2.2) (by omega) ag j6 hd2 ?_ (λq hq=>?_) λh3 xp xo ya=>?_
  ·have:=stored_length_le kvs p.2.1 p.2.2.2;omega
  ·obtain⟨zb,c1,c2⟩:=hit q hq;exact⟨zb,(d6.2 _ (hT q hq).2).trans (f' _ _ (hT q hq).1 c1),c2⟩
  ·refine hR h3 xp ?_ λb o hb hw e=>ya b o hb hw ((d6.2 b hb).trans (f' b o hw e));have xk:ps.drop i=p::ps.drop (i+1):=by
    obtain⟨hl,e⟩:=Io.mp hp;rw[Ri hl,e]
   rw[xk];exact xo
theorem qZ{k:Nat}{ps:List (Addr×K×Value×Value)}(hA:A.handled=none)(hx:s.heap.get? a=some o)(hc:o.cls=.type "tuple")(fw:o.data=.seq (ps.map λp=>Py p.1).toArray k)(hd:o.dict=none)(hk:∀p∈ps,knd.is p.2.1 p.2.2.1=true)(hit:∀p∈ps,IsTup s.heap p.1 #[p.2.2.1,p.2.2.2])(hz:ps.length<=OR)(h:∀h' tk,h'.DictOf knd s.heap.objs.size (merged [] (ps.map λp=>(p.2.1,p.2.2.2)))->(∀b u,s.heap.get? b=some u->h'.get? b=some u)->Q (.ref s.heap.objs.size) { s with heap:=h',toks:=tk }):
  wpAny (model prog w) A (call (.type "dict") [.ref a]) Q E s:=by
 refine callType_codes (Q₁:=λobj s₁=>obj=.ref s.heap.objs.size/\s₁={ s with heap:=s.heap.push { cls:=.type "dict",data:=.dict #[] } }) F.kt_called_dict (F.kt_typeCall_dict_1 _) F.entry_dict_init (kt_code_dict_new _ ⟨rfl,rfl⟩) ?_;rintro obj s₁ ⟨rfl,rfl⟩;have jv:(s.heap.push { cls:=.type "dict",data:=.dict #[] }).DictOf knd s.heap.objs.size []:=Heap.DictOf.new s.heap;have up:∀b u,s.heap.get? b=some u->(s.heap.push { cls:=.type "dict",data:=.dict #[] }).get? b=some u:=λb u e=>zz _ e;have yb:({ s with heap:=s.heap.push { cls:=.type "dict",data:=.dict #[] } }:Shared).TypeIs (.ref a) "tuple" := ⟨o,up _ _ hx,hc⟩;refine⟨jv.typeIs,F.args_dict_init_2 _ _,?_⟩;unfold Builtin.«dict.__init__»;refine ff ?_;unfold Builtin.Dict.selfAndRest;refine ff (wpAny_notOrdered_dict jv.typeIs (show wpAny _ _ (pure (s.heap.objs.size,[Py a])) _ _ _ from z8 ?_))
 show wpAny _ _ (Builtin.Dict.updateFrom "dict.__init__" s.heap.objs.size (.ref a) [] .none) _ _ _
 unfold Builtin.Dict.updateFrom;refine ff (Rt yb ?_);rw[if_pos (by decide)];refine ff (uP (up _ _ hx) hc fw hd hA λh1 xt kc=>?_);rw[if_pos (by rfl)];refine ff (Rn ?_);have uw:IsTup h1 a (ps.map λp=>Py p.1).toArray:=⟨o,kc _ _ (up _ _ hx),hc,k,fw⟩;refine ff (wpAny_pyIter_tuple (show({ s with heap:=h1,toks:=xt }:Shared).heap.IsTuple a _ from uw) (z8 ⟨R9 eO _,?_⟩))
 have o6:s.heap.objs.size<h1.objs.size:=by
  have:=kc s.heap.objs.size _ (OQ s.heap rfl);exact OS this
 have ag:∀b u,s.heap.get? b=some u->b<s.heap.objs.size:=λb u e=>OS e;have vt:=ag _ _ hx;refine BK (knd:=knd) (fp:=[h1.objs.size,a]) (wr:=[h1.objs.size]) (n:=(ps.map λp=>Py p.1).toArray.size) (Walks.tuple (A:=A.in1.in1) hA h1.objs.size a (OW (RM vt o6)) (ps.map λp=>Py p.1).toArray) ?_ ps (by simp) (λi v e=>?_) (λp hp=>?_) hk .none _ 0 _ [] (Nat.sub_zero _) (Pu _) ?_ ?_ (by simpa using hz) (λp hp=>?_) λh' tk dd kk=>?_
 ·intro z;rcases KP.mp z with z|z
  ·exact OW o6 z
  ·exact OW vt (P4.mp z).symm
 ·have e':(ps.map λp=>Py p.1)[i]?=some v:=by simpa using e
  rw[PF]at e';obtain⟨p,hp,rfl⟩:=Qn.mp e';exact⟨p,hp,rfl⟩
 ·obtain⟨ob,e,_⟩:=hit p hp;have h0:=ag _ _ e;exact⟨λz=>OW (RM h0 o6) (P4.mp z),OW h0⟩
 ·refine⟨⟨_,OQ _ rfl,rfl,rfl⟩,?_⟩;obtain⟨ob,e,r⟩:=uw;exact⟨ob,zz _ e,r⟩
 ·obtain⟨oo,es,ep,e,r⟩:=jv;exact⟨oo,es,ep,zz _ (kc _ _ e),r⟩
 ·obtain⟨ob,e,r⟩:=hit p hp;exact⟨ob,zz _ (kc _ _ (up _ _ e)),r⟩
 ·refine⟨rfl,h h' tk (by simpa using dd) λb u e=>?_⟩
  have h0:=ag _ _ e;exact kk b u (OW h0) (λz=>OW (RM h0 o6) (P4.mp z)) (zz _ (kc _ _ (up _ _ e)))
end
theorem Ft(xs:Array Nat)(j:Nat):∀(fuel lo hi:Nat),hi-lo<=fuel->lo<=hi->hi<=xs.size->(∀i(h:i<xs.size),i<lo->xs[i]<j)->(∀i(h:i<xs.size),hi<=i->¬ xs[i]<j)->
  (xs.toList.Pairwise (· < ·))->SetTable.below.go xs j fuel lo hi<=xs.size/\(∀i(h:i<xs.size),(xs[i]<j↔i<SetTable.below.go xs j fuel lo hi)):=by
 intro fuel
 induction fuel with
 |zero=>
  intro lo hi hf hl hs ha hb _;have:lo=hi:=by omega
  subst this
  show lo<=_/\∀i(h:i<xs.size),(xs[i]<j↔i<lo)
  refine⟨hs,λi h=>⟨λh1=>Decidable.byContradiction λh2=>hb i h (by omega) h1,λh1=>ha i h h1⟩⟩
 |succ fuel ih=>
  intro lo hi hf hl hs ha hb hp
  show(if lo<hi then _ else lo)<=_/\∀i(h:i<xs.size),(xs[i]<j↔i<(if lo<hi then _ else lo))
  by_cases h:lo<hi
  ·simp only[if_pos h];have hm:(lo+hi)/2<xs.size:=by omega
   have mono:∀a b(ha:a<xs.size)(hb:b<xs.size),a<b->xs[a]<xs[b]:=λa b h1 h2 h3=>by
    have:=(Qq.mp hp) a b (by simpa using h1) (by simpa using h2) h3
    simpa using this
   show(if xs.getD ((lo+hi)/2) j<j then _ else _)<=_/\∀i(h:i<xs.size),(xs[i]<j↔i<(if xs.getD ((lo+hi)/2) j<j then _ else _))
   have e:xs.getD ((lo+hi)/2) j=xs[(lo+hi)/2]:=by simp[SD,hm]
   rw[e]
   by_cases hc:xs[(lo+hi)/2]<j
   ·simp only[if_pos hc];exact ih _ _ (by omega) (by omega) hs (λi h1 h2=>by
     by_cases h3:i=(lo+hi)/2
     ·subst h3;exact hc
     ·have:=mono i _ h1 hm (by omega);omega) hb hp
   ·simp only[if_neg hc];exact ih _ _ (by omega) (by omega) (by omega) ha (λi h1 h2=>by
     by_cases h3:i=(lo+hi)/2
     ·subst h3;exact hc
     ·have:=mono _ i hm h1 (by omega);omega) hp
  ·simp only[if_neg h];have:lo=hi:=by omega
   subst this;exact⟨hs,λi h=>⟨λh1=>Decidable.byContradiction λh2=>hb i h (by omega) h1,λh1=>ha i h h1⟩⟩
theorem sL{xs:Array Nat}(hp:xs.toList.Pairwise (· < ·))(j:Nat):Rj xs j<=xs.size/\(∀i(h:i<xs.size),(xs[i]<j↔i<Rj xs j)):=
 Ft xs j xs.size 0 xs.size (by omega) (by omega) (by omega) (λi h h1=>by omega) (λi h h1=>by omega) hp
variable{j:Nat}
theorem uQ{xs:Array Nat}(hp:xs.toList.Pairwise (· < ·))(hj:xs[Rj xs j]?≠some j):(SetTable.insertAt xs (Rj xs j) j).toList.Pairwise (· < ·):=by
 obtain⟨h1,h2⟩:=sL hp j;generalize Rj xs j=p at h1 h2 hj;have e:(SetTable.insertAt xs p j).toList=xs.toList.take p++[j]++xs.toList.drop p:=by
  simp[SetTable.insertAt,List.take_of_length_le]
 rw[e];rw[List.append_assoc,List.pairwise_append,List.singleton_append,QT];refine⟨hp.sublist (List.take_sublist ..),⟨λa ha=>?_,hp.sublist (List.drop_sublist ..)⟩,λa ha b hb=>?_⟩
 ·obtain⟨i,hi,rfl⟩:=Se.mp ha;rw[List.getElem_drop];have ag:p+i<xs.size:=by simp at hi;omega
  have hn:=mt (h2 (p+i) ag).mp (by omega);have d8:xs[p+i]≠j:=by
   intro he
   by_cases hi0:i=0
   ·subst hi0;apply hj;rw[Po (by omega)];exact congrArg some he
   ·have:=(Qq.mp hp) p (p+i) (by simp;omega) (by simpa using ag) (by omega)
    have h3:=mt (h2 p (by omega)).mp (by omega);simp at this;omega
  simp;omega
 ·obtain⟨i,hi,rfl⟩:=Se.mp ha;rw[List.getElem_take];have bc:i<p:=by simp at hi;omega
  have ag:i<xs.size:=by omega
  have hx:=(h2 i ag).mpr bc;rcases KP.mp hb with rfl|hb
  ·simpa using hx
  ·obtain⟨k,hk,rfl⟩:=Se.mp hb;rw[List.getElem_drop];have rf:p+k<xs.size:=by simp at hk;omega
   have:=(Qq.mp hp) i (p+k) (by simpa using ag) (by simpa using rf) (by omega)
   simpa using this
structure TOk(bt:Bool)(t:Rf):Prop where
 dum:t.dummies=#[]
 led:bt=false->t.led=true
 ris:t.plain=true->t.place.toList.Pairwise (· < ·)
variable{bt:Bool}
theorem TOk.standIn{t:Rf}(h:TOk bt t)(n:Nat):TOk bt (t.standIn n):=⟨rfl,h.led,λe=>by cases e⟩
theorem TOk.off{t:Rf}(h:TOk bt t):TOk bt { t with plain:=false }:=⟨h.dum,h.led,λe=>by cases e⟩
theorem yD{t:Rf}(h:t.dummies=#[])(j:Nat):t.slot j≠.dummy:=by
 unfold SetTable.slot;simp only[h,show SetTable.has #[] j=false from by simp[SetTable.has]]
 split <;> simp
theorem BL{t:Rf}(h:t.slot j=.empty):t.place[Rj t.place j]?≠some j:=by
 unfold SetTable.slot at h;intro e;simp[e]at h
theorem DW(t:Rf)(p:SetTable.Probe):(t.advance p).dummy=p.dummy:=by
 unfold SetTable.advance;split
 ·rfl
 ·rfl
set_option tactic.hygienic true in
theorem Fu{t:Rf}(hd:t.dummies=#[])(f:Nat->Int)(h:Int):∀(fuel:Nat)(p:SetTable.Probe),p.dummy=none->∀j d,SetTable.probe.go t f h fuel p=some (.empty j d)->d=none/\t.slot j=.empty:=by
 intro fuel
 induction fuel with
 |zero=>intro p _ j d e;cases e
 |succ fuel ih=>
  intro p hp j d e;unfold SetTable.probe.go at e;split at e
  ·rename_i he;cases e
   exact⟨hp,he⟩
  ·rename_i he;exact(yD hd _ he).elim
  ·split at e
   ·cases e
   ·exact ih _ (by rw[DW];exact hp) j d e
set_option tactic.hygienic true in
theorem DX{t:Rf}(hd:t.dummies=#[]){h:Int}{b:Bool}(e:t.freeSlot h=some (j,b)):t.slot j=.empty:=by
 unfold SetTable.freeSlot at e;split at e
 ·rename_i j' d he;obtain⟨h1,h2⟩:=Fu hd _ _ _ _ rfl _ _ he;subst h1;cases e
  exact h2
 ·cases e
theorem TOk.put{t:Rf}(h:TOk bt t)(he:t.slot j=.empty):TOk bt (t.put j).1:=by
 refine⟨?_,h.led,λe=>uQ (h.ris e) (BL he)⟩;simp[SetTable.put,h.dum,SetTable.has]
theorem TOk.orSt{t:Rf}(h:TOk bt t)(n:Nat):TOk bt (t.orStandIn n):=by
 unfold SetTable.orStandIn;split
 ·exact h
 ·exact h.standIn n
set_option tactic.hygienic true in
theorem TOk.lay{t:Rf}(h:TOk bt t)(es:Array (Int×Value))(k:Int)(x:Value):TOk bt (layNew t es k x).2.1:=by
 unfold layNew;split
 ·rename_i slot wd e;exact(h.put (DX h.dum e)).orSt _
 ·exact h.standIn _
theorem DY(f:Nat->Option Nat):∀n,((List.filterMap (λj=>Option.map (λx=>(j,x)) (f j)) (Pm n)).map (·.1)).Pairwise (· < ·):=by
 intro n;have h1:(Pm n).Pairwise (· < ·):=List.pairwise_lt_range;have h2:((List.filterMap (λj=>Option.map (λx=>(j,x)) (f j)) (Pm n)).map (·.1)).Sublist (Pm n):=by
  induction Pm n with
  |nil=>simp
  |cons a l ih=>
   simp only[Sm];cases f a with
   |none=>exact ih.cons _
   |some x=>exact ih.cons₂ _
 exact h1.sublist h2
set_option tactic.hygienic true in
theorem TOk.relay{t:Rf}(h:TOk bt t)(es:Array (Int×Value))(n:Nat):TOk bt (relayAll t es n).2.1:=by
 unfold relayAll;split
 ·rename_i t' order e;have zd:TOk bt t':=by
   unfold SetTable.relaid SetTable.laid at e;simp only[Option.bind_eq_bind]at e;cases ho:SetTable.layClean (SetTable.sizeAbove n-1) (Array.map (λx=>x.fst) es) with
   |none=>rw[ho]at e;cases e
   |some owner=>
    rw[ho]at e;have e2:=Pv e;have e3:_=t':=congrArg Prod.fst e2;subst e3;refine⟨rfl,h.led,λ_=>?_⟩;exact DY (λj=>owner.getD j none) _
  dsimp only;split
  ·exact zd
  ·exact h.standIn _
 ·exact h.standIn _
def cB(w:World):Bool:=w.params.followText "set-order"
variable{ep:Nat}{es':Array (Int×Value)}
theorem CM{h:Heap}{es:Array (Int×Value)}{t t':Rf}(ho:h.get? a=some o)(hd:o.data=.set es ep t):
  (h.update a (Obj.putSet es' t')).get? a=some { o with data:=.set es' (ep+1) t' }:=by
 obtain⟨c,d,da,sl⟩:=o;cases hd
 rw[QQ _ ho (by rfl)];rfl
variable{Q₁:Value->Shared->Prop}
theorem code_set_new(x:Value)(q:Q₁ (.ref s.heap.objs.size) { s with heap:=s.heap.push { cls:=.type "set",data:=.set #[] 0 (Qd 0 0 !cB w) } }):
  codeAny (model prog w) A (.call (.builtin "set.__new__") ⟨[.type "set",x],[]⟩) (wants Q₁ E) s:=by
 refine codeAny_of_tree ?_;refine ff (Rk (F.newCall_set_1 x) (z8 ⟨R9 F.plain_set_new _,Q3 F.entry_set_new ?_⟩));rw[QE F.plain_set_new];unfold Builtin.«set.__new__»;refine ff ?_;unfold Builtin.Frozenset.newClass;refine(show wpAny _ _ (isType (.type "set") >>= _) _ _ s from ff (z8 ?_))
 rw[if_neg (by decide)];refine ff (Rk sub_set_self ?_);rw[if_neg (by decide)];refine z8 (ff ?_);unfold newSet setsByText;refine ff (ff (Sl (z8 ?_)));exact Pw (z8 q)
theorem bA:Slot "set_iterator" (PJ "__next__") "set_iterator.__next__" := Slot.of (owner:="set_iterator") (n:="__next__")
 (by rw[typeLookup_type,RS];rfl) (by decide +kernel) (by decide +kernel) (by decide +kernel) (.inl (by decide +kernel)) (by rw[isSubtype_type];rfl) (by decide +kernel)
theorem oF:Slot "set_iterator" (PJ "__iter__") "set_iterator.__iter__" := Slot.of (owner:="set_iterator") (n:="__iter__")
 (by rw[typeLookup_type,RS];rfl) (by decide +kernel) (by decide +kernel) (by decide +kernel) (.inl (by decide +kernel)) (by rw[isSubtype_type];rfl) (by decide +kernel)
theorem eP:entryFor table "set_iterator.__next__" = some Builtin.«set_iterator.__next__»:=entryFor_of_tree (by rfl)
theorem sM:entryFor table "set.__iter__" = some Builtin.«frozenset.__iter__»:=entryFor_alias (id:="set.__iter__") (id':="frozenset.__iter__") (by first|rfl|decide +kernel) (by first|rfl|decide +kernel) (by decide +kernel) (by rfl)
theorem Ak:List.lookup (String.ofList ['r','o','t','a','r','e','t','i','_','t','e','s'].reverse) Manifest.owners=some Manifest.sig_set_iterator:=by rfl
theorem fC(a:Value):argsOk "set_iterator.__next__" ⟨[a],[]⟩:=by
 have e:=signature?_of (id:="set_iterator.__next__") (n:=['_','_','t','x','e','n','_','_']) (o:=['r','o','t','a','r','e','t','i','_','t','e','s']) (by rfl) Ak;unfold argsOk;rw[e];rfl
theorem mS{α:Type}:∀{l:List α}{i:Nat}(h:i<l.length),(l[i]::l.eraseIdx i).Perm l
 |[],i,h=>by simp at h
 |x::l,0,h=>by simp
 |x::l,i+1,h=>by
  simp only[List.getElem_cons_succ,List.eraseIdx_cons_succ];exact(List.Perm.swap _ _ _).trans (List.Perm.cons _ (mS (by simpa using h)))
variable{src:Source}
theorem wp_choose{Q:Nat->Shared->Prop}(hn:n≠0)(h:∀i d,i<n->Q i { s with drawn:=d }):wpAny M A (choose src n) Q E s:=λΓ p _=>by
 unfold choose;unfold Sem.wp;exact⟨hn,h _ _ (Nat.mod_lt _ (Nat.pos_of_ne_zero hn))⟩
theorem HV{α:Type}:∀(n:Nat)(xs:List α)(s:Shared)(Q:List α->Shared->Prop),xs.length=n->(∀ys d,ys.Perm xs->Q ys { s with drawn:=d })->wpAny M A (drawOrder n xs) Q E s:=by
 intro n
 induction n with
 |zero=>
  intro xs s Q hl h;have:xs=[]:=QU hl;subst this;exact z8 (h [] s.drawn (RC _))
 |succ n ih=>
  intro xs s Q hl h;cases xs with
  |nil=>simp at hl
  |cons x l=>
   refine(show wpAny _ _ (choose Source.order (x::l).length >>= _) _ _ _ from ff (wp_choose (by simp) λi d hi=>?_))
   have e:(x::l)[i]?=some (x::l)[i]:=Qc hi;rw[e];refine ff (ih _ _ _ (by rw[List.length_eraseIdx_of_lt hi];simp at hl⊢;omega) λys d' hp=>z8 (h _ _ ?_));exact(List.Perm.cons _ hp).trans (mS hi)
theorem HW{α:Type}(next:Nat->Nat):∀(fuel k:Nat)(left:List α)(out:Array α),left.length=fuel->(pickOrder.go next fuel k left out).toList.Perm (out.toList++left):=by
 intro fuel
 induction fuel with
 |zero=>
  intro k left out hl;have:left=[]:=QU hl;subst this;simp[pickOrder.go]
 |succ fuel ih=>
  intro k left out hl;have hi:next k%left.length<left.length:=Nat.mod_lt _ (by omega)
  show(match left[next k%left.length]? with|some x=>pickOrder.go next fuel (k+1) (left.eraseIdx (next k%left.length)) (out.push x)|none=>out).toList.Perm _
  rw[Qc hi];dsimp only;refine(ih _ _ _ (by rw[List.length_eraseIdx_of_lt hi];omega)).trans ?_;rw[Array.toList_push,List.append_assoc];exact List.Perm.append_left _ (mS hi)
theorem DZ{α:Type}(next:Nat->Nat)(xs:Array α):(pickOrder next xs).toList.Perm xs.toList:=by
 have:=HW next xs.size 0 xs.toList #[] (by simp);unfold pickOrder;simpa using this
def iF(w:World)(a:Addr)(ep:Nat)(es:Array (Int×Value)):Array (Int×Value):=if cB w=true then pickOrder (w.params.setOrder a ep) es else es
theorem iW{es:Array (Int×Value)}:(iF w a ep es).toList.Perm es.toList:=by
 unfold iF;split
 ·exact DZ _ _
 ·exact RC _
def slotAt(w:World)(t:Rf)(i:Nat):Nat:=if cB w=true then 0 else if i=0 then 0 else t.place.getD (i-1) 0+1
theorem Km{es:Array (Int×Value)}{t:Rf}(ht:TOk (cB w) t)(hf:t.fits es.size=true)(dh:cB w=true\/(!t.plain&&decide (es.size>1))=false)(hb:cB w=false):t.place.toList.Pairwise (· < ·):=by
 rcases dh with h|h
 ·rw[hb]at h;cases h
 ·cases hp:t.plain with
  |true=>exact ht.ris hp
  |false=>
   rw[hp]at h;have:es.size<=1:=by simpa using h
   have hs:t.place.size=es.size:=by
    have:=hf;simp[SetTable.fits]at this;exact this.1
   have:t.place.toList.length<=1:=by simp;omega
   match hl:t.place.toList with
   |[]=>exact R7
   |[x]=>exact List.pairwise_singleton _ _
   |x::y::r=>rw[hl]at this;simp at this
theorem Al{es:Array (Int×Value)}{t:Rf}{Q:Option (Value×Nat)->Shared->Prop}(ho:s.heap.get? a=some o)(hd:o.data=.set es ep t)(ht:TOk (cB w) t)(hf:t.fits es.size=true)(dh:cB w=true\/(!t.plain&&decide (es.size>1))=false)(hi:i<=es.size)(q:Q ((iF w a ep es)[i]?.map λe=>(e.2,slotAt w t (i+1))) s):wpAny (model prog w) A (setNext a (slotAt w t i) i ep) Q E s:=by
 unfold setNext;refine ff (Rr ho hd hf ?_);unfold setsByText;refine ff (ff (Sl (z8 ?_)))
 show wpAny _ _ (if cB w=true then _ else _) _ _ _
 by_cases hb:cB w=true
 ·rw[if_pos hb];refine Qr (show decide _=false from by simp) ?_
  unfold setWalk;refine ff (ff (Rr ho hd hf ?_));unfold setsByText;refine ff (ff (Sl (z8 ?_)))
  show wpAny _ _ (if cB w=true then _ else _) _ _ _
  rw[if_pos hb];refine ff (Sl (z8 (z8 ?_)));have e1:iF w a ep es=pickOrder (w.params.setOrder a ep) es:=if_pos hb;have e2:∀j,slotAt w t j=0:=λj=>if_pos hb;rw[e1,e2]at q;rw[e2];exact q
 ·have ny:cB w=false:=by simpa using hb
  rw[if_neg hb];have hr:=Km ht hf dh ny;have rm:(!t.plain&&decide (es.size>1))=false:=by
   rcases dh with h|h
   ·exact(hb h).elim
   ·exact h
  refine Qr (show decide ((!t.plain&&decide (es.size>1))=true)=false from by rw[rm];rfl) ?_
  have ud:=ht.led ny;refine ff (Rk (a:=()) (show(if(!t.led && !es.isEmpty)=true then _ else pure ())=pure () from by rw[ud];rfl) (z8 ?_))
  have hs:t.place.size=es.size:=by
   have:=hf;simp[SetTable.fits]at this;exact this.1
  have sk:Rj t.place (slotAt w t i)=i:=by
   obtain⟨h1,h2⟩:=sL hr (slotAt w t i);generalize hp:Rj t.place (slotAt w t i)=p at h1 h2;have mono:∀x y(hx:x<t.place.size)(hy:y<t.place.size),x<y->t.place[x]<t.place[y]:=λx y hx hy ue=>by
    have:=(Qq.mp hr) x y (by simpa using hx) (by simpa using hy) ue
    simpa using this
   have ba:slotAt w t i=if i=0 then 0 else t.place.getD (i-1) 0+1:=if_neg hb;rw[ba]at h2
   by_cases h0:i=0
   ·subst h0;rcases Nat.eq_zero_or_pos p with h|h
    ·exact h
    ·have:=(h2 0 (by omega)).mpr h;simp at this
   ·rw[if_neg h0]at h2;have nh:i-1<t.place.size:=by omega
    have eg:t.place.getD (i-1) 0=t.place[i-1]:=by simp[SD,nh]
    rw[eg]at h2;have l1:i-1<p:=(h2 (i-1) nh).mp (by omega);rcases Nat.lt_or_ge i p with h|h
    ·have:=(h2 i (by omega)).mpr h;have:=mono (i-1) i nh (by omega) (by omega);omega
    ·omega
  rw[sk];have e1:iF w a ep es=es:=if_neg hb;rw[e1]at q
  by_cases ag:i<es.size
  ·rw[Po ag]at q⊢;rw[Po (show i<t.place.size by omega)];have e2:slotAt w t (i+1)=t.place[i]+1:=by
    have:slotAt w t (i+1)=if i+1=0 then 0 else t.place.getD (i+1-1) 0+1:=if_neg hb;rw[this];simp[SD,show i<t.place.size by omega]
   simpa[e2] using q
  ·rw[QH (by omega)]at q⊢;simpa using q
variable{E':Value->Shared->Prop}{it:Addr}{first:Value}
section
variable{es:Array (Int×Value)}{t:Rf}
def siO(a:Addr)(first:Value)(i n ep:Nat):Obj:={ cls:=.type "set_iterator",data:=.fields #[first,.int i 0,.ref a,.int n 0,.int ep 0] }
theorem Fv(ho:s.heap.get? a=some o)(hx:o.ExactSet)(hd:o.data=.set es ep t)(hf:t.fits es.size=true)(hz:es.size<=OR)(q1:(cB w=true\/(!t.plain&&decide (es.size>1))=false)->Q (.ref s.heap.objs.size) { s with heap:=s.heap.push (siO a (.int 0 0) 0 es.size ep) })(q2:∀(ys:List Nat) d,ys.Perm (Pm es.size)->Q (.ref (s.heap.objs.size+1)) { s with heap:=(s.heap.push { cls:=.type "tuple",data:=.seq (ys.map λi=>Rm (i:Nat) 0).toArray }).push (siO a (.ref s.heap.objs.size) 0 es.size ep),drawn:=d }):
  wpAny (model prog w) A (pyIter (.ref a)) Q E s:=by
 have hT:s.TypeIs (.ref a) "set" := ⟨o,ho,hx.1⟩;refine wpAny_pyIter_slot hT F.slot_set_iter (PL F.slot_set_iter hT sM (show wpAny _ _ (Builtin.«frozenset.__iter__» _) _ _ _ from ?_) (F.args_set_iter_1 _))
 unfold Builtin.«frozenset.__iter__» Builtin.Frozenset.slot0;refine ff (ff (z8 (z8 ?_)));unfold Builtin.Frozenset.sizeOf;refine ff (ff (Rz ho hd hf (z8 ?_)));unfold setDrawn setsByText;refine ff (ff (Rr ho hd hf (ff (ff (Sl (z8 (z8 ?_)))))))
 show wpAny _ _ (if(!(cB w)&&(!t.plain&&decide (es.size>1)))=true then _ else _) _ _ _
 by_cases hc:(!(cB w)&&(!t.plain&&decide (es.size>1)))=true
 ·rw[if_pos hc];refine ff (HV _ _ _ _ (by simp) λys d hp=>?_);unfold newTuple newFields;refine ff (Pw ?_ ?_)
  ·refine ff (wpAny_setEpoch_of (o:=o) (zz _ ho) hd hf ?_);refine ff (Pw (z8 ⟨_,rfl,"set_iterator",_,⟨_,OQ _ rfl,rfl⟩,bA.lookup,?_⟩));have:=q2 ys d hp;rw[<-Qp s.heap { cls:=.type "tuple",data:=.seq (ys.map λi=>Rm (i:Nat) 0).toArray }]at this;exact this
  ·show(List.map (λi=>rawInt ((i:Nat):Int)) ys).toArray.size<=OR
   have:=hp.length_eq;simp at this⊢;omega
 ·rw[if_neg hc];refine ff (z8 ?_);refine ff (wpAny_setEpoch_of ho hd hf ?_);unfold newFields;refine ff (Pw (z8 ⟨_,rfl,"set_iterator",_,⟨_,OQ _ rfl,rfl⟩,bA.lookup,q1 ?_⟩));simp at hc;cases hb:cB w with
  |true=>exact .inl rfl
  |false=>
   refine .inr ?_;have:=hc hb;simpa using this
theorem lR{h1:Heap}{fs:Array Value}{x:Value}{α:Type}{f:Unit->Sem α}{R:α->Shared->Prop}(g:h1.get? it=some { cls:=.type "set_iterator",data:=.fields fs })(hj:j<fs.size)(k:∀h2:Heap,h2.get? it=some { cls:=.type "set_iterator",data:=.fields (fs.setIfInBounds j x) }->(∀(b:Addr),b≠it->h2.get? b=h1.get? b)->Heap.ExtBut it h1 h2->wpAny (model prog w) A (f ()) R E' { s with heap:=h2 }):
  wpAny (model prog w) A (setField (.ref it) j x >>= f) R E' { s with heap:=h1 }:=by
 refine ff (wpAny_setField (s:={ s with heap:=h1 }) g rfl hj ?_);refine k _ ?_ (λb hb=>(Q4 ..).2 b hb) (Q4 ..).extBut;rw[QQ _ g (Obj.isFreed_of_fields (Obj.data_mapFields rfl _))];simp[Obj.mapFields]
theorem Am(hI:s.heap.get? it=some (siO a first i n ep)):s.TypeIs (.ref it) "set_iterator" := ⟨_,hI,rfl⟩
theorem E1{Q:Option Value->Shared->Prop}(hI:s.heap.get? it=some (siO a (.int (slotAt w t i) 0) i es.size ep))(ho:s.heap.get? a=some o)(hd:o.data=.set es ep t)(ht:TOk (cB w) t)(hf:t.fits es.size=true)(dh:cB w=true\/(!t.plain&&decide (es.size>1))=false)(ag:i<es.size)(fj:i<(iF w a ep es).size)(q:∀h',h'.get? it=some (siO a (.int (slotAt w t (i+1)) 0) (i+1) es.size ep)->(∀(b:Addr),b≠it->h'.get? b=s.heap.get? b)->Q (some (iF w a ep es)[i].2) { s with heap:=h' }):wpAny (model prog w) A (pyNext (.ref it)) Q E s:=by
 have hT:=Am hI;unfold pyNext;refine ff (wpAny_attempt (Pz (name:=PJ "__next__") hT bA (PL bA hT eP ?_ (fC _))));refine ff (z8 (ff (wpAny_fieldsOf hI rfl ?_)));refine(show wpAny _ _ (setEntries a >>= _) _ _ s from ff (Rz ho hd hf ?_))
 refine Qr (show decide _=false from by simp) ?_
 refine(show wpAny _ _ (setNext a (slotAt w t i) i ep >>= _) _ _ s from ff (Al ho hd ht hf dh (Sr ag) ?_))
 rw[Po fj];refine(show wpAny _ _ (setField (.ref it) 0 _ >>= _) _ _ { s with heap:=s.heap } from lR hI (by simp[siO]) λh2 g2 k2 _=>?_)
 refine lR g2 (by simp) λh3 g3 k3 _=>?_;refine z8 ⟨_,rfl,z8 (q h3 ?_ λb hb=>by rw[k3 b hb,k2 b hb])⟩;rw[g3];simp[siO,rawInt]
theorem Fw{Q:Option Value->Shared->Prop}(hh:A.handled=none)(hI:s.heap.get? it=some (siO a (.int (slotAt w t es.size) 0) es.size es.size ep))(ho:s.heap.get? a=some o)(hd:o.data=.set es ep t)(ht:TOk (cB w) t)(hf:t.fits es.size=true)
  (dh:cB w=true\/(!t.plain&&decide (es.size>1))=false)
  (q:∀h',Heap.ExtBut it s.heap h'->Q none { s with heap:=h' }):wpAny (model prog w) A (pyNext (.ref it)) Q E s:=by
 have hT:=Am hI;have hsz:(iF w a ep es).size=es.size:=by have:=(iW (w:=w) (a:=a) (ep:=ep) (es:=es)).length_eq;simpa using this
 unfold pyNext;refine ff (wpAny_attempt (Pz (name:=PJ "__next__") hT bA (PL bA hT eP ?_ (fC _))));refine ff (z8 (ff (wpAny_fieldsOf hI rfl ?_)));refine(show wpAny _ _ (setEntries a >>= _) _ _ s from ff (Rz ho hd hf ?_))
 refine Qr (show decide _=false from by simp) ?_
 refine(show wpAny _ _ (setNext a (slotAt w t es.size) es.size ep >>= _) _ _ s from ff (Al ho hd ht hf dh (OO _) ?_))
 rw[QH (by omega)];refine(show wpAny _ _ (setField (.ref it) 2 _ >>= _) _ _ { s with heap:=s.heap } from lR hI (by simp[siO]) λh2 g2 k2 x2=>?_)
 refine(show wpAny _ _ (newExc (.type "StopIteration") [] >>= _) _ _ _ from ff ?_);simp only[newExc,newTuple]
 refine ff (Pw (ff (m:=Si _ _) (Rk (a:=PC) (by first|rfl|(simp only[Si];rfl)) (Pw ?_ (by size_fits)))) (by size_fits))
 simp only[raiseNew];refine ff (wpAny_handled ?_);rw[show A.in1.handled=none from hh]
 refine ff (z8 (wpAny_throw ?_));refine ff (QV (T:="StopIteration") (b:=true) ⟨_,OQ _ rfl,rfl⟩ isSubtype_stop ?_);exact z8 (q _ ((x2.push _).push _))
def uR(ys:List Nat):Obj:={ cls:=.type "tuple",data:=.seq (ys.map λi=>Rm (i:Nat) 0).toArray }
theorem E2{tp p:Nat}{e:Int×Value}{ys:List Nat}{Q:Option Value->Shared->Prop}(hI:s.heap.get? it=some (siO a (.ref tp) i es.size ep))(pb:s.heap.get? tp=some (uR ys))(ho:s.heap.get? a=some o)(hd:o.data=.set es ep t)(hf:t.fits es.size=true)(hp:ys[i]?=some p)(he:es[p]?=some e)(q:∀h',h'.get? it=some (siO a (.ref tp) (i+1) es.size ep)->(∀(b:Addr),b≠it->h'.get? b=s.heap.get? b)->Q (some e.2) { s with heap:=h' }):wpAny (model prog w) A (pyNext (.ref it)) Q E s:=by
 have hT:=Am hI;unfold pyNext;refine ff (wpAny_attempt (Pz (name:=PJ "__next__") hT bA (PL bA hT eP ?_ (fC _))));refine ff (z8 (ff (wpAny_fieldsOf hI rfl ?_)));refine(show wpAny _ _ (setEntries a >>= _) _ _ s from ff (Rz ho hd hf ?_))
 refine Qr (show decide _=false from by simp) ?_
 unfold seqItems?;refine(show wpAny _ _ ((load tp >>= _) >>= _) _ _ s from ff (ff (wpAny_load pb (show wpAny _ _ (pure (some _)) _ _ s from z8 ?_))))
 have e1:(ys.map λi=>Rm (i:Nat) 0).toArray[((i:Nat):Int).toNat]?=some (.int p 0):=by simp[hp]
 refine(show wpAny _ _ (match(ys.map λi=>Rm (i:Nat) 0).toArray[((i:Nat):Int).toNat]? with|some (Rm place tok)=>_|some val=>_|none=>_) _ _ s from ?_)
 rw[e1];unfold setNextDrawn;refine ff (ff (Rr ho hd hf ?_));refine Qr (show decide _=false from by simp) ?_
 refine(show wpAny _ _ (match es[p]? with|some (fst,x)=>pure x|x=>_) _ _ s from ?_)
 rw[he];refine z8 ?_;refine(show wpAny _ _ (setField (.ref it) 1 _ >>= _) _ _ { s with heap:=s.heap } from lR hI (by simp[siO]) λh2 g2 k2 _=>?_)
 refine z8 ⟨_,rfl,z8 (q h2 ?_ k2)⟩;rw[g2];simp[siO,rawInt]
theorem Fx{tp:Nat}{ys:List Nat}{Q:Option Value->Shared->Prop}(hh:A.handled=none)(hI:s.heap.get? it=some (siO a (.ref tp) es.size es.size ep))(pb:s.heap.get? tp=some (uR ys))(ho:s.heap.get? a=some o)(hd:o.data=.set es ep t)(hf:t.fits es.size=true)
  (hy:ys.length=es.size) (q:∀h',Heap.ExtBut it s.heap h'->Q none { s with heap:=h' }):wpAny (model prog w) A (pyNext (.ref it)) Q E s:=by
 have hT:=Am hI;unfold pyNext;refine ff (wpAny_attempt (Pz (name:=PJ "__next__") hT bA (PL bA hT eP ?_ (fC _))));refine ff (z8 (ff (wpAny_fieldsOf hI rfl ?_)));refine(show wpAny _ _ (setEntries a >>= _) _ _ s from ff (Rz ho hd hf ?_))
 refine Qr (show decide _=false from by simp) ?_
 unfold seqItems?;refine(show wpAny _ _ ((load tp >>= _) >>= _) _ _ s from ff (ff (wpAny_load pb (show wpAny _ _ (pure (some _)) _ _ s from z8 ?_))))
 have e1:(ys.map λi=>Rm (i:Nat) 0).toArray[((es.size:Nat):Int).toNat]?=none:=by simp[hy]
 refine(show wpAny _ _ (match(ys.map λi=>Rm (i:Nat) 0).toArray[((es.size:Nat):Int).toNat]? with|some (Rm place tok)=>_|some val=>_|none=>_) _ _ s from ?_)
 rw[e1];refine(show wpAny _ _ (setField (.ref it) 0 _ >>= _) _ _ { s with heap:=s.heap } from lR hI (by simp[siO]) λh1 g1 k1 x1=>?_)
 refine lR g1 (by simp) λh2 g2 k2 x2=>?_;refine(show wpAny _ _ (newExc (.type "StopIteration") [] >>= _) _ _ _ from ff ?_);simp only[newExc,newTuple]
 refine ff (Pw (ff (m:=Si _ _) (Rk (a:=PC) (by first|rfl|(simp only[Si];rfl)) (Pw ?_ (by size_fits)))) (by size_fits))
 simp only[raiseNew];refine ff (wpAny_handled ?_);rw[show A.in1.handled=none from hh]
 refine ff (z8 (wpAny_throw ?_));refine ff (QV (T:="StopIteration") (b:=true) ⟨_,OQ _ rfl,rfl⟩ isSubtype_stop ?_);exact z8 (q _ (((x1.trans x2).push _).push _))
end
theorem yE:typeLookup (R1 "set") (PJ "__len__")=pure (some (Value.builtin "set.__len__")):=by
 rw[typeLookup_type,RS];rfl
theorem uS:entryFor table "set_iterator.__iter__" = some Builtin.«dict_keyiterator.__iter__»:=entryFor_alias (id:="set_iterator.__iter__") (id':="dict_keyiterator.__iter__") (by first|rfl|decide +kernel) (by first|rfl|decide +kernel) (by decide +kernel) (by rfl)
theorem yF(a:Value):argsOk "set_iterator.__iter__" ⟨[a],[]⟩:=by
 have e:=signature?_of (id:="set_iterator.__iter__") (n:=['_','_','r','e','t','i','_','_']) (o:=['r','o','t','a','r','e','t','i','_','t','e','s']) (by rfl) Ak;unfold argsOk;rw[e];rfl
section
variable{es:Array (Int×Value)}{t:Rf}
theorem Fy{Q:Bool->Shared->Prop}(hT:s.TypeIs (.ref a) "set")(q:Q false s):wpAny (model prog w) A (RT (.ref a)) Q E s:=by
 unfold RT;refine ff (Rp hT yE ?_);dsimp only;rw[show splitId "set.__len__" = some ("set","__len__") by decide +kernel];refine ff (QV hT sub_set_self ?_);refine wpAny_ite_split (λh=>absurd h (by decide)) λ_=>?_;refine wpAny_ite_split (λ_=>ff (Rt hT (z8 q))) λh=>?_;exact absurd (by decide) h
theorem An(hI:s.heap.get? it=some (siO a first i n ep))(q:Q (.ref it) s):wpAny (model prog w) A (pyIter (.ref it)) Q E s:=by
 have hT:=Am hI;refine wpAny_pyIter_slot hT oF (PL oF hT uS (show wpAny _ _ (Builtin.«dict_keyiterator.__iter__» _) _ _ _ from ?_) (yF _))
 unfold Builtin.«dict_keyiterator.__iter__»;refine ff (z8 ?_);exact z8 ⟨_,rfl,"set_iterator",_,hT,bA.lookup,q⟩
theorem BM(hh:A.handled=none)(d8:a≠it)(hd:o.data=.set es ep t)(ht:TOk (cB w) t)(hf:t.fits es.size=true)(dh:cB w=true\/(!t.plain&&decide (es.size>1))=false):
  Walks prog w A it [it,a] [it] es.size (λi v=>(iF w a ep es)[i]?.map (·.2)=some v) (λi h=>h.get? it=some (siO a (.int (slotAt w t i) 0) i es.size ep)/\h.get? a=some o):=by
 have hsz:(iF w a ep es).size=es.size:=by have:=(iW (w:=w) (a:=a) (ep:=ep) (es:=es)).length_eq;simpa using this
 refine⟨λb hb=>by simp at hb;simp[hb],λi h h' hs k=>⟨k it (by simp) _ hs.1,k a (by simp) _ hs.2⟩,λi s Q E hi hs q=>?_,λs Q E hs q=>?_,λi s Q E hs q=>?_⟩
 ·have hl:i<(iF w a ep es).size:=by omega
  refine E1 hs.1 hs.2 hd ht hf dh hi hl λh' g k=>q _ h' s.toks (by rw[Po hl];rfl) ⟨g,by rw[k a d8];exact hs.2⟩ λb o' hb e=>by rw[k b (by simpa using hb)];exact e
 ·exact Fw hh hs.1 hs.2 hd ht hf dh λh' k=>q h' s.toks λb o' hb e=>k b o' (by simpa using hb) e
 ·exact An hs.1 q
theorem BN{tp:Nat}{ys:List Nat}(hh:A.handled=none)(d8:a≠it)(yr:tp≠it)(hd:o.data=.set es ep t)(hf:t.fits es.size=true)(hy:ys.Perm (Pm es.size)):
  Walks prog w A it [it,tp,a] [it] es.size (λi v=>∃p e,ys[i]?=some p/\es[p]?=some e/\v=e.2) (λi h=>h.get? it=some (siO a (.ref tp) i es.size ep)/\h.get? tp=some (uR ys)/\h.get? a=some o):=by
 have hl:ys.length=es.size:=by have:=hy.length_eq;simpa using this
 refine⟨λb hb=>by simp at hb;simp[hb],λi h h' hs k=>⟨k it (by simp) _ hs.1,k tp (by simp) _ hs.2.1,k a (by simp) _ hs.2.2⟩,λi s Q E hi hs q=>?_,λs Q E hs q=>?_,λi s Q E hs q=>?_⟩
 ·have h1:i<ys.length:=by omega
  have e1:ys[i]?=some ys[i]:=Qc h1;have h2:ys[i]<es.size:=by have:=hy.mem_iff.mp (Qt h1);simpa using this
  have e2:es[ys[i]]?=some es[ys[i]]:=Po h2;exact E2 hs.1 hs.2.1 hs.2.2 hd hf e1 e2 λh' g k=>q _ h' s.toks ⟨_,_,e1,e2,rfl⟩ ⟨g,by rw[k tp yr];exact hs.2.1,by rw[k a d8];exact hs.2.2⟩ λb o' hb e=>by rw[k b (by simpa using hb)];exact e
 ·exact Fx hh hs.1 hs.2.1 hs.2.2 hd hf hl λh' k=>q h' s.toks λb o' hb e=>k b o' (by simpa using hb) e
 ·exact An hs.1 q
theorem BO(hh:A.handled=none)(ho:s.heap.get? a=some o)(hx:o.ExactSet)(hd:o.data=.set es ep t)(ht:TOk (cB w) t)(hf:t.fits es.size=true)(hz:es.size<=OR)(S:Addr)(ug:S≠a)(res:Value)(c₀:Nat)(hS:s.heap.get? S=some { cls:=.type "list",data:=.seq #[] c₀ })(hR:∀h' d tk (acc:Array Value) c',(∀b o,b≠S->s.heap.get? b=some o->h'.get? b=some o)->h'.get? S=some { cls:=.type "list",data:=.seq acc c' }->acc.toList.Perm (es.toList.map (·.2))->R (.ok (.ret res)) { s with heap:=h',drawn:=d,toks:=tk }):
  wpAny (model prog w) A.in1 (RU (.ref S) (.ref a) res) (λfin s'=>match fin with|.done f=>R (.ok f) s'|.again c'=>c'.quiet=true/\codeAny (model prog w) A c' R s') (λe s'=>R (.error e) s') s:=by
 have hT:s.TypeIs (.ref a) "set" := ⟨o,ho,hx.1⟩
 have uv:=OS ho
 have mn:=OS hS
 unfold RU
 refine ff (Rt hT ?_)
 have hc:(Ss (.ref S) (.ref a) || R1 "set" == R1 "list" || R1 "set" == R1 "tuple")=false:=by
  have:Ss (.ref S) (.ref a)=false:=by simp[Ss,ug]
  rw[this]
  decide
 rw[hc,if_neg Pc]
 have tail:∀{s1:Shared}{I:Addr}{fp:List Addr}{P:Nat->Value->Prop}{St:Nat->Heap->Prop},Walks prog w A.in1 I fp [I] es.size P St->S∉fp->St 0 s1.heap->I≠S->s1.heap.get? S=some { cls:=.type "list",data:=.seq #[] c₀ }->s1.TypeIs (.ref a) "set" -> s1.gens=s.gens->s1.os=s.os->
   (∀b o,s.heap.get? b=some o->s1.heap.get? b=some o)->s.heap.objs.size<=I->(∀acc,ItemsOf P acc es.size->acc.toList.Perm (es.toList.map (·.2)))->
   ∀{f:Bool->Sem PySem.Fin},(∀b,f b=(if(b || false)=true then(do rule "list.extend.makes-room";RD (.ref S);again (.builtin "list.extend.loop" ⟨[.ref S,.ref I,res],[]⟩)) else again (.builtin "list.extend.loop" ⟨[.ref S,.ref I,res],[]⟩))\/
    f b=(do rule "list.extend.makes-room";RD (.ref S);again (.builtin "list.extend.loop" ⟨[.ref S,.ref I,res],[]⟩)))->
   wpAny (model prog w) A.in1 (holding [Py I] (RT (.ref a)) >>= f) (λfin s'=>match fin with|.done f=>R (.ok f) s'|.again c'=>c'.quiet=true/\codeAny (model prog w) A c' R s') (λe s'=>R (.error e) s') s1:=by
  intro s1 I fp P St W lh cz hIS hS1 hT1 hg gu kp hI hit f hf'
  have key:∀h c₁ tk,St 0 h->(∀b o,b≠S->s1.heap.get? b=some o->h.get? b=some o)->h.get? S=some { cls:=.type "list",data:=.seq #[] c₁ }->codeAny (model prog w) A (.builtin "list.extend.loop" ⟨[.ref S,.ref I,res],[]⟩) R { s1 with heap:=h,toks:=tk }:=by
   intro h c₁ tk gb hk k0
   refine codeAny_extend_loopS (Walks.toS W) hz S lh res es.size 0 _ #[] c₁ (Nat.sub_zero _) (Pu _) gb k0 (ItemsOf.nil P) λs' acc c' hm l8 b8=>?_
   have e:=Moved.eq_with hm
   rw[e]
   have:=hR s'.heap s1.drawn s'.toks acc c' (λb o hb e=>hm.heap b o (λz=>?_) (hk b o hb (kp b o e))) l8 (hit acc b8)
   ·rw[<-hg,<-gu]at this
    exact this
   ·rcases KP.mp z with z|z
    ·exact hb z
    ·have h1:=OS e
     exact absurd (P4.mp z▸h1) (Nat.not_lt.mpr hI)
  refine ff (Qf (Fy hT1 ?_))
  have m5:wpAny (model prog w) A.in1 (do rule "list.extend.makes-room";RD (.ref S);again (.builtin "list.extend.loop" ⟨[.ref S,.ref I,res],[]⟩)) (λfin s'=>match fin with|.done f=>R (.ok f) s'|.again c'=>c'.quiet=true/\codeAny (model prog w) A c' R s') (λe s'=>R (.error e) s') s1:=by
   refine ff (Rn (ff ?_))
   unfold RD
   refine ff (wpAny_updateSeq hS1 rfl ?_)
   have u7:=QQ (Qk λx=>x.push PC) hS1 rfl
   refine wpAny_updateSeq u7 rfl ?_
   have xm:=QQ (Qk λx=>x.pop) u7 rfl
   refine z8 ⟨R9 F.plain_extend_loop _,key _ _ _ (W.frame 0 s1.heap _ cz λb hb o e=>?_) (λb o hb e=>?_) xm⟩
   ·have vm:b≠S:=λh=>lh (h▸hb)
    exact(Ql _ _ (Sn vm)).trans ((Ql _ _ (Sn vm)).trans e)
   ·exact(Ql _ _ (Sn hb)).trans ((Ql _ _ (Sn hb)).trans e)
  rcases hf' false with h|h
  ·rw[h,if_neg (by decide)]
   exact z8 ⟨R9 F.plain_extend_loop _,key s1.heap _ s1.toks cz (λb o _ e=>e) hS1⟩
  ·rw[h]
   exact m5
 refine ff (Fv ho hx hd hf hz (λdh=>?_) λys d hp=>?_)
 ·refine tail (s1:={ s with heap:=s.heap.push (siO a (.int 0 0) 0 es.size ep) }) (BM (A:=A.in1) hh (OW uv) hd ht hf dh) ?_ ⟨?_,zz _ ho⟩ (QY mn) (zz _ hS) ⟨o,zz _ ho,hx.1⟩ rfl rfl (λb o e=>zz _ e) (OO _) (λacc ha=>?_) (λb=>?_)
  ·intro z
   rcases KP.mp z with z|z
   ·exact OW mn z
   ·exact ug (P4.mp z)
  ·have e0:slotAt w t 0=0:=by unfold slotAt;split <;> rfl
   rw[e0]
   exact OQ _ rfl
  ·have hsz:(iF w a ep es).size=es.size:=by have:=(iW (w:=w) (a:=a) (ep:=ep) (es:=es)).length_eq;simpa using this
   have:acc.toList=(iF w a ep es).toList.map (·.2):=by
    apply Rq
    intro i
    rw[PF,Array.getElem?_toList,Array.getElem?_toList]
    by_cases hi:i<acc.size
    ·have e:=ha.2 i acc[i] (Po hi)
     rw[Po hi]
     exact e.symm
    ·have h1:=ha.1
     rw[QH (by omega),QH (by omega)]
     rfl
   rw[this]
   exact iW.map _
  ·cases b <;> first|exact Or.inl rfl|exact Or.inr rfl
 ·have pz:(s.heap.push (uR ys)).objs.size=s.heap.objs.size+1:=Qp ..
  have gS:(s.heap.push (uR ys)).get? S=some { cls:=.type "list",data:=.seq #[] c₀ }:=zz _ hS
  have ga:(s.heap.push (uR ys)).get? a=some o:=zz _ ho
  have gt:(s.heap.push (uR ys)).get? s.heap.objs.size=some (uR ys):=OQ _ rfl
  refine tail (s1:={ s with heap:=(s.heap.push (uR ys)).push (siO a (.ref s.heap.objs.size) 0 es.size ep),drawn:=d }) (BN (A:=A.in1) (it:=s.heap.objs.size+1) (tp:=s.heap.objs.size) hh (OW (Q1 uv)) (OW (Nat.lt_succ_self _)) hd hf hp) ?_ ⟨?_,zz _ gt,zz _ ga⟩ (QY (Q1 mn)) (zz _ gS) ⟨o,zz _ ga,hx.1⟩ rfl rfl (λb o e=>zz _ (zz _ e)) (Nat.le_succ _) (λacc ha=>?_) (λb=>?_)
  ·intro z
   rcases KP.mp z with z|z
   ·exact OW (Q1 mn) z
   rcases KP.mp z with z|z
   ·exact OW mn z
   ·exact ug (P4.mp z)
  ·have:=OQ (s.heap.push (uR ys)) (o:=siO a (.ref s.heap.objs.size) 0 es.size ep) rfl
   rw[pz]at this
   exact this
  ·have hl:ys.length=es.size:=by have:=hp.length_eq;simpa using this
   have:acc.toList=ys.map λp=>(es.toList.map (·.2)).getD p .none:=by
    apply Rq
    intro i
    rw[PF,Array.getElem?_toList]
    by_cases hi:i<acc.size
    ·obtain⟨p,e,h1,h2,h3⟩:=ha.2 i acc[i] (Po hi)
     rw[Po hi,h1,h3]
     simp[h2]
    ·have h1:=ha.1
     rw[QH (by omega),List.getElem?_eq_none (by omega)]
     rfl
   rw[this]
   refine(hp.map _).trans ?_
   have e2:(Pm es.size).map (λp=>(es.toList.map (·.2)).getD p .none)=es.toList.map (·.2):=by
    apply List.ext_getElem
    ·simp
    ·intro i h1 h2
     simp at h1 h2
     simp[h2]
   rw[e2]
  ·cases b <;> first|exact Or.inl rfl|exact Or.inr rfl
end
def sN(e:Int×Value):Str:=match e.2 with|.str k _=>k|_=>""
def cY(w:World)(h:Heap)(a:Addr)(ks:List Str):Prop:=∃o es ep t,h.get? a=some o/\o.ExactSet/\o.data=.set es ep t/\TOk (cB w) t/\t.fits es.size=true/\
 (∀e∈es.toList,∃k tk,e=(hashStr w k,Qv k tk))/\(es.toList.map sN).Perm ks
theorem Ao(k:Str)(tk:Tok):Value.isStrOf k (.str k tk)=true:=by first|rfl|simp[Value.isStrOf]
theorem E3{es:Array (Int×Value)}(h:∀e∈es.toList,∃k tk,e=(hashStr w k,Qv k tk)):ElemsOf (strKind prog w) es.toList:=λe he=>by
 obtain⟨k,tk,rfl⟩:=h e he;exact⟨⟨k,Ao k tk,rfl⟩,rfl⟩
variable{tk:Tok}
theorem Fz{ks:List Str}{k:Str}{Q:Bool->Shared->Prop}(hS:cY w s.heap a ks)(hb:ks.length+1<scanBound)(h:∀b h',RK a s.heap h'->cY w h' a (if k∈ks then ks else ks++[k])->Q b { s with heap:=h' }):wpAny (model prog w) A (setAddHashed a (Qv k tk) (hashStr w k)) Q E s:=by
 obtain⟨o,es,ep,t,ho,hx,hd,ht,hf,jk,hp⟩:=hS;have hlen:es.size=ks.length:=by have:=hp.length_eq;simpa using this
 have hE:ElemsOf (strKind prog w) es.toList:=E3 jk;unfold setAddHashed;refine Qf ?_;rw[setAddHashedIn.eq_def];refine ff (Rr ho hd hf ?_);dsimp only;rw[byScan_of (prog:=prog) (w:=w) (knd:=strKind prog w) (show(Qv k tk).scannable=true from rfl) (by omega) hE,if_pos rfl]
 refine ff ?_;unfold setAddByScan;refine ff (Rn (ff (wpAny_setScan_of (knd:=strKind prog w) (Ao k tk) ho hd hf hE ?_)));cases hi:List.findIdx? (λe=>(strKind prog w).is k e.snd) es.toList with
 |some j=>
  have hm:k∈ks:=by
   obtain⟨hj,h1,_⟩:=List.findIdx?_eq_some_iff_getElem.mp hi;have gk:=Qt hj;obtain⟨k',je,e⟩:=jk _ gk;rw[e]at h1;have:k=k':=(strKind prog w).inj _ _ _ h1 (Ao k' je);subst this;refine hp.mem_iff.mp (OU.mpr ⟨_,gk,?_⟩);rw[e];rfl
  refine z8 (z8 (h _ s.heap (Heap.SameBut.refl ..) ?_));rw[if_pos hm];exact⟨o,es,ep,t,ho,hx,hd,ht,hf,jk,hp⟩
 |none=>
  have hm:k∉ks:=by
   intro hk;obtain⟨e,he,zg⟩:=OU.mp (hp.mem_iff.mpr hk);obtain⟨k',je,rfl⟩:=jk _ he;have h1:=List.findIdx?_eq_none_iff.mp hi _ he;have h2:k'=k:=zg;subst h2;have h3:Value.isStrOf k' (.str k' je)=false:=h1;rw[Ao k' je]at h3;cases h3
  have pe:=layNew_perm t es (hashStr w k) (Qv k tk);have fi:=layNew_fits t es (hashStr w k) (Qv k tk);have tl:=ht.lay es (hashStr w k) (Qv k tk);generalize layNew t es (hashStr w k) (Qv k tk)=L at pe fi tl;obtain⟨ba,t1,wd,qz⟩:=L;dsimp only at pe fi tl⊢;have hsz:ba.size<scanBound:=by have:=pe.length_eq;simp at this;omega
  have fin:∀h' es' ie t',RK a s.heap h'->h'.get? a=some { o with data:=.set es' ie t' }->es'.toList.Perm ba.toList->TOk (cB w) t'->t'.fits es'.size=true->Q true { s with heap:=h' }:=λh' es' ie t' h1 h2 h3 h4 h5=>by
   have p2:es'.toList.Perm (es.toList++[(hashStr w k,Qv k tk)]):=h3.trans (by simpa using pe)
   refine h _ _ h1 ?_;rw[if_neg hm];refine⟨_,_,_,_,h2,⟨hx.1,hx.2.1,hx.2.2⟩,rfl,h4,h5,λe he=>?_,?_⟩
   ·rcases Pr.mp (p2.mem_iff.mp he) with h6|h6
    ·exact jk e h6
    ·exact⟨k,tk,P4.mp h6⟩
   ·refine(p2.map sN).trans ?_;rw[RW];exact hp.append (RC _)
  refine ff ?_;refine Qj (Q:=λ_ s'=>s'=s) ?_ (λ_ s' e=>?_) (λ_ _ e=>e)
  ·cases qz
   ·exact z8 rfl
   ·exact Rn rfl
  subst e;have zk:∀{m:Sem Bool},m=pure true->∀{f:Bool->Sem (Option Bool)}{R:Option Bool->Shared->Prop},wpAny (model prog w) A (f true) R E s'->wpAny (model prog w) A (m >>= f) R E s':=λe _ _ hq=>by subst e;exact ff (z8 hq)
  have ti:∀{m:Sem Bool},m=pure false->∀{f:Bool->Sem (Option Bool)}{R:Option Bool->Shared->Prop},wpAny (model prog w) A (f false) R E s'->wpAny (model prog w) A (m >>= f) R E s':=λe _ _ hq=>by subst e;exact ff (z8 hq)
  by_cases bx:t1.plain=true
  rw[if_pos bx];refine ti (hashByValue_scannable 8 (show(Qv k tk).scannable=true from rfl)) ?_
  rw[if_neg Pc];have tl:=tl.off;have fi:SetTable.fits { t1 with plain:=false } ba.size=true:=fi;generalize ({ t1 with plain:=false }:Rf)=t1 at tl fi⊢
  rotate_left
  rw[if_neg bx];refine zk rfl ?_;rw[if_pos rfl]
  all_goals
   have w9:∀{f:Unit->Sem (Option Bool)}{R:Option Bool->Shared->Prop},wpAny (model prog w) A (f ()) R E { s' with heap:=s'.heap.update a (Obj.putSet ba t1) }->wpAny (model prog w) A (storeSet a ba t1 >>= f) R E s':=λhq=>
    ff (wpAny_storeSet_of ho hd hq (fits_of_scanBound hsz))
   have g1:=CM (es':=ba) (t':=t1) ho hd;have sb:=Q4 s'.heap a (Obj.putSet ba t1);refine w9 ?_
   by_cases hc:(!wd&&t1.tooFull)=true
   ·rw[if_pos hc];have r6:=relayAll_perm t1 ba (SK ba.size);have uu:=relayAll_fits t1 ba (SK ba.size);have tr:=tl.relay ba (SK ba.size);have hl:(relayAll t1 ba (SK ba.size)).fst.size=ba.size:=by have:=r6.length_eq;simpa using this
    generalize relayAll t1 ba (SK ba.size)=L at r6 uu tr hl;obtain⟨es2,t2,g2⟩:=L;refine ff (Qj (Q:=λ_ s2=>s2={ s' with heap:=s'.heap.update a (Obj.putSet ba t1) }) ?_ (λ_ s2 e2=>?_) (λ_ _ e=>e))
    ·cases g2
     ·exact z8 rfl
     ·exact Rn rfl
    ·subst e2;refine ff (wpAny_storeSet_of (s:={ s' with heap:=s'.heap.update a (Obj.putSet ba t1) }) g1 rfl ?_ (by rw[hl];exact fits_of_scanBound hsz));exact z8 (z8 (fin _ _ _ _ (sb.trans (Q4 _ _ _)) (CM (h:=s'.heap.update a (Obj.putSet ba t1)) (o:={ o with data:=.set ba (ep+1) t1 }) g1 rfl) r6 tr uu))
   ·rw[if_neg hc];exact z8 (z8 (fin _ _ _ _ sb g1 (RC _) tl fi))
theorem cY.kept{h:Heap}{ks:List Str}(H:cY w h a ks)(k:∀o,h.get? a=some o->h'.get? a=some o):cY w h' a ks:=by
 obtain⟨o,es,ep,t,ho,r⟩:=H;exact⟨o,es,ep,t,k o ho,r⟩
def fmT(val:Nat->Str):Nat->List Str
 |0=>[]
 |i+1=>if val i∈fmT val i then fmT val i else fmT val i++[val i]
theorem yG(val:Nat->Str):∀i,(fmT val i).length<=i
 |0=>OO _
 |i+1=>by
  have:=yG val i;unfold fmT;split
  ·omega
  ·simp;omega
set_option tactic.hygienic true in
theorem CN(val:Nat->Str)(x:Str):∀i,x∈fmT val i ↔ ∃j,j<i/\val j=x
 |0=>by simp[fmT]
 |i+1=>by
  have ih:=CN val x i;have key:x∈fmT val (i+1)↔x∈fmT val i\/x=val i:=by
   show x∈(if val i∈fmT val i then fmT val i else fmT val i++[val i])↔_
   split
   ·rename_i h;constructor
    ·exact .inl
    ·rintro(h1|h1)
     ·exact h1
     ·rw[h1];exact h
   ·simp
  rw[key,ih];constructor
  ·rintro(⟨j,h1,h2⟩|h)
   ·exact⟨j,by omega,h2⟩
   ·exact⟨i,by omega,h.symm⟩
  ·rintro⟨j,h1,h2⟩
   by_cases e:j=i
   ·right;rw[<-h2,e]
   ·left;exact⟨j,by omega,h2⟩
set_option tactic.hygienic true in
theorem FA(val:Nat->Str):∀i,(fmT val i).Nodup
 |0=>List.nodup_nil
 |i+1=>by
  have ih:=FA val i;unfold fmT;split
  ·exact ih
  ·rename_i h;rw[List.nodup_append];refine⟨ih,by simp,λa ha b hb=>?_⟩;simp at hb;subst hb;intro e;subst e;exact h ha
variable{G:Array GenState->Array GenState->Prop}
theorem E4{P:Nat->Value->Prop}{St:Nat->Shared->Prop}(W:WalksS prog w A.in1 I fp wr G n P St)(S:Addr)(lh:S∉fp)(val:Nat->Str)(qk:∀i v,P i v->∃t,v=Qv (val i) t)(hb:n+1<scanBound):∀(k i:Nat)(s:Shared),n-i=k->i<=n->St i s->cY w s.heap S (fmT val i)->
   (∀s',Moved (S::wr) G s s'->cY w s'.heap S (fmT val n)->R (.ok (.ret .none)) s')->codeAny (model prog w) A (.builtin "set.update.loop" ⟨[.ref S,.ref I],[]⟩) R s:=by
 have ux:S∉wr:=λh=>lh (W.sub S h);have f9:∀b∈wr,b∈S::wr:=λb hb=>OX S hb;intro k
 induction k with
 |zero=>
  intro i s hk hi cz hS hR;have:i=n:=by omega
  subst this;refine Q3 PyProof.Rows.F.entry_set_update_loop ?_;rw[QE QZ];refine(show wpAny _ _ (pyNext (.ref I) >>= _) _ _ s from ff (W.done s _ _ cz λs' hm=>?_))
  exact z8 (hR s' (hm.mono f9) (hS.kept λo ho=>hm.heap S o ux ho))
 |succ k ih=>
  intro i s hk hi cz hS hR;have ag:i<n:=by omega
  refine Q3 PyProof.Rows.F.entry_set_update_loop ?_;rw[QE QZ];refine(show wpAny _ _ (pyNext (.ref I) >>= _) _ _ s from ff (W.item i s _ _ ag cz λv s' hP gb hm=>?_))
  obtain⟨t,rfl⟩:=qk i v hP;have l8:cY w s'.heap S (fmT val i):=hS.kept λo ho=>hm.heap S o ux ho;refine(show wpAny _ _ (holding [Qv (val i) t] (setAdd S (.str (val i) t)) >>= _) _ _ s' from ff (Qf ?_))
  unfold setAdd;refine Qf (ff ((strKind prog w).pyHash (Ao (val i) t) ?_));have hl:=yG val i;refine Fz (s:={ s' with toks:=s'.toks+1 }) l8 (by omega) λb h' vo k0=>?_;have k0:cY w h' S (fmT val (i+1)):=k0;refine z8 ⟨R9 QZ _,ih (i+1) _ (by omega) ag (W.frame (i+1) s' h' (s'.toks+1) gb (Nat.le_succ _) λb hb o e=>?_) k0 λl9 rn pj=>hR l9 ?_ pj⟩
  ·rw[vo.2 b λh=>lh (h▸hb)];exact e
  ·refine Moved.trans W.gtrans (Moved.then_heap (hm.mono f9) (Nat.le_succ _) λb o hb e=>?_) rn;rw[vo.2 b λh=>hb (h▸Pb)];exact e
theorem HX{vs:List Value}{ns:List Str}(h:StrsAre vs ns)(i:Nat)(v:Value)(hv:vs[i]?=some v):∃t,v=Qv (ns.getD i "") t:=by
 obtain⟨y,t,e,hy⟩:=StrsAre.item h i v hv;exact⟨t,by rw[e];simp[Sd,hy]⟩
variable{items:Array Value}{l:Addr}
theorem E5{ns:List Str}(hh:A.handled=none)(hl:s.heap.IsList l items)(hi:StrsAre items.toList ns)(hb:items.size+1<scanBound)(h:∀h' tk,cY w h' s.heap.objs.size (fmT (λi=>ns.getD i "") items.size)->(∀b o,s.heap.get? b=some o->h'.get? b=some o)->Q (.ref s.heap.objs.size) { s with heap:=h',toks:=tk }):
  wpAny (model prog w) A (call (.type "set") [.ref l]) Q E s:=by
 obtain⟨c,tl,qm⟩:=Su.mro;have lb:=Su.made;have f9:=Su.sub;refine wpAny_call (codeAny_of_tree (show wpAny _ _ _ _ _ _ from z8 ⟨Code.quiet_builtin _ (by simp),Q3 F.entry_type_call ?_⟩))
 rw[show A.under (Code.builtin "type.__call__" ⟨R1 "set" :: [Py l],[]⟩)=A.in1 from Around.under_plain (weight_type_call_type "set" [Py l] []) rfl]
 unfold Builtin.«type.__call__»;dsimp only;have h1:=Su.notType;have h2:=Su.canCreate;refine Qr (show decide _=false from rfl) ?_
 refine Qr (show decide _=false from rfl) ?_
 refine ff (Rk (F.typeCall_set_1 (Py l)) ?_);refine ff (Rk qm ?_);refine Qr (show decide _=false from rfl) ?_
 refine ff (Rk lb ?_);refine ff (z8 ?_);refine ff (Qf (wpAny_call (codeAny_mono (code_set_new (E:=E) (Q₁:=λobj s₁=>obj=.ref s.heap.objs.size/\s₁={ s with heap:=s.heap.push { cls:=.type "set",data:=.set #[] 0 (Qd 0 0 !cB w) } }) (Py l) ⟨rfl,rfl⟩) λr s₁ hr=>?_)));cases r with
 |error e=>exact hr
 |ok fl=>
 cases fl with
 |next=>exact hr.elim
 |brk=>exact hr.elim
 |cont=>exact hr.elim
 |ret obj=>
  obtain⟨rfl,rfl⟩:=hr;have hT:({ s with heap:=s.heap.push { cls:=.type "set",data:=.set #[] 0 (Qd 0 0 !cB w) } }:Shared).TypeIs (.ref s.heap.objs.size) "set" := ⟨_,OQ _ rfl,rfl⟩;refine(show wpAny _ _ _ _ _ _ from ff (QV hT f9 ?_))
  rw[if_neg (by decide)];refine ff (Qf (Pz (name:=PJ "__init__") hT Su.init ?_));refine wpAny_call (codeAny_call_builtin Su.init.plain F.entry_set_init (check_set_init_1 hT ?_));have ho:(s.heap.push { cls:=.type "set",data:=.set #[] 0 (Qd 0 0 !cB w) }).get? s.heap.objs.size=some { cls:=.type "set",data:=.set #[] 0 (Qd 0 0 !cB w) }:=OQ _ rfl;have jj:(s.heap.push { cls:=.type "set",data:=.set #[] 0 (Qd 0 0 !cB w) }).IsList l items:=by
   obtain⟨o,e,r⟩:=hl;exact⟨o,zz _ e,r⟩
  have oi:({ s with heap:=s.heap.push { cls:=.type "set",data:=.set #[] 0 (Qd 0 0 !cB w) } }:Shared).TypeIs (.ref l) "list" := by
   obtain⟨o,e,r,_⟩:=jj;exact⟨o,e,r⟩
  have y0:cY w (s.heap.push { cls:=.type "set",data:=.set #[] 0 (Qd 0 0 !cB w) }) s.heap.objs.size []:=
   ⟨_,_,_,_,ho,⟨rfl,rfl,rfl⟩,rfl,⟨rfl,λe=>by simp[Qd,e],λ_=>R7⟩,rfl,λe he=>(by cases he),RC _⟩
  unfold Builtin.«set.__init__»;refine ff (show wpAny _ _ (pure ()) _ _ _ from z8 ?_)
  refine(show wpAny _ _ (typeNameOfCut 200 (Py s.heap.objs.size) >>= _) _ _ _ from ff ?_)
  unfold typeNameOfCut shownTypeOf;refine ff (ff (Rt hT ?_));rw[if_neg (by decide)];refine z8 (Rk (a:="set") (by rfl) ?_);refine ff (Rk (a:=()) (by rfl) ?_);refine ff (z8 ?_);unfold setUsed;refine ff (ff (Rr ho rfl rfl (z8 ?_)));refine Qr (show decide _=false from by cases cB w <;> rfl) ?_
  refine(show wpAny _ _ (Builtin.Frozenset.updateFrom "set.__init__" s.heap.objs.size (.ref l) >>= _) _ _ _ from ff ?_)
  unfold Builtin.Frozenset.updateFrom Builtin.Frozenset.isAnySet;refine ff ?_;refine ff (QV oi F.sub_list_set ?_);refine QV oi F.sub_list_frozenset ?_;rw[if_neg (by decide)];refine ff (Rt oi ?_);rw[if_neg (by decide)];refine ff (Sa jj ?_);refine ff (wpAny_runValue ?_);have ne1:s.heap.objs.size≠(s.heap.push { cls:=.type "set",data:=.set #[] 0 (Qd 0 0 !cB w) }).objs.size:=OW (OS ho);have vi:l<s.heap.objs.size:=by obtain⟨o,e,_⟩:=hl;exact OS e
  have ne2:s.heap.objs.size≠l:=QY vi;have zr:∀b o,s.heap.get? b=some o->(s.heap.push { cls:=.type "set",data:=.set #[] 0 (Qd 0 0 !cB w) }).get? b=some o:=λb o e=>zz _ e;have hsz:s.heap.objs.size<(s.heap.push { cls:=.type "set",data:=.set #[] 0 (Qd 0 0 !cB w) }).objs.size:=OS ho;clear hT oi ho;generalize s.heap.push { cls:=.type "set",data:=.set #[] 0 (Qd 0 0 !cB w) }=h0 at*;refine E4 (A:=A.in1.in1) (Walks.toS (Walks.list (A:=A.in1.in1.in1) hh h0.objs.size l (OW (RM vi hsz)) items)) s.heap.objs.size ?_ (λi=>ns.getD i "") (λi v hv=>HX hi i v (by simpa using hv)) hb items.size 0 _ (Nat.sub_zero _) (Pu _) ⟨⟨_,OQ _ rfl,rfl,rfl⟩,?_⟩ (y0.kept λo e=>zz _ e) λs' hm hS=>?_
  ·intro z;rcases KP.mp z with z|z
   ·exact ne1 z
   ·exact ne2 (P4.mp z)
  ·obtain⟨o,e,r⟩:=jj;exact⟨o,zz _ e,r⟩
  ·refine z8 (z8 (z8 ?_));have e:=Moved.eq_with hm;rw[e];refine h s'.heap s'.toks hS λb o e=>hm.heap b o (λz=>?_) (zz _ (zr b o e));rcases KP.mp z with z|z
   ·exact OW (OS e) z
   ·exact OW (RM (OS e) hsz) (P4.mp z)
open PySem PySem.Spec PyProof.Rows PySem.SeqAt
inductive PV where
 |non|bl (b:Bool)|int (i:Int)|str (x:Str)|tup (xs:List PV)|ref (n:Nat)|ty (n:String)|fl (xs:List PV)
mutual
def PV.beq:PV->PV->Bool
 |.non,.non=>true
 |.bl a,.bl b=>a == b
 |.int a,.int b=>a == b
 |.str a,.str b=>a == b
 |.tup a,.tup b=>PV.beqs a b
 |.ref a,.ref b=>a == b
 |.ty a,.ty b=>a == b
 |.fl a,.fl b=>PV.beqs a b
 |_,_=>false
def PV.beqs:List PV->List PV->Bool
 |[],[]=>true
 |x::xs,y::ys=>PV.beq x y&&PV.beqs xs ys
 |_,_=>false
end
mutual
theorem PV.beq_self:∀x:PV,PV.beq x x=true
 |.non=>rfl
 |.bl a=>by simp[PV.beq]
 |.int a=>by simp[PV.beq]
 |.str a=>by simp[PV.beq]
 |.tup a=>by simp only[PV.beq];exact PV.beqs_self a
 |.ref a=>by simp[PV.beq]
 |.ty a=>by simp[PV.beq]
 |.fl a=>by simp only[PV.beq];exact PV.beqs_self a
theorem PV.beqs_self:∀x:List PV,PV.beqs x x=true
 |[]=>rfl
 |x::xs=>by simp only[PV.beqs,PV.beq_self x,PV.beqs_self xs,Bool.and_self]
end
mutual
theorem PV.beq_eq:∀{x y:PV},PV.beq x y=true->x=y
 |.non,y,h=>by cases y <;> first|rfl|(simp[PV.beq]at h)
 |.bl a,y,h=>by cases y <;> first|(simp[PV.beq]at h;rw[h])|(simp[PV.beq]at h)
 |.int a,y,h=>by cases y <;> first|(simp[PV.beq]at h;rw[h])|(simp[PV.beq]at h)
 |.str a,y,h=>by cases y <;> first|(simp[PV.beq]at h;rw[h])|(simp[PV.beq]at h)
 |.tup a,y,h=>by
  cases y with
  |tup b=>simp only[PV.beq]at h;rw[PV.beqs_eq h]
  |_=>simp[PV.beq]at h
 |.ref a,y,h=>by cases y <;> first|(simp[PV.beq]at h;rw[h])|(simp[PV.beq]at h)
 |.ty a,y,h=>by cases y <;> first|(simp[PV.beq]at h;rw[h])|(simp[PV.beq]at h)
 |.fl a,y,h=>by
  cases y with
  |fl b=>simp only[PV.beq]at h;rw[PV.beqs_eq h]
  |_=>simp[PV.beq]at h
theorem PV.beqs_eq:∀{x y:List PV},PV.beqs x y=true->x=y
 |[],y,h=>by cases y <;> first|rfl|(simp[PV.beqs]at h)
 |x::xs,y,h=>by
  cases y with
  |nil=>simp[PV.beqs]at h
  |cons y ys=>
   simp only[PV.beqs,Pj]at h;rw[PV.beq_eq h.1,PV.beqs_eq h.2]
end
instance:DecidableEq PV:=λx y=>match h:PV.beq x y with
 |true=>isTrue (PV.beq_eq h)
 |false=>isFalse λe=>by rw[e,PV.beq_self]at h;cases h
def PV.ky:Nat->PV->Bool
 |_,.int _=>true
 |_,.str _=>true
 |n+1,.tup xs=>xs.all (PV.ky n)
 |_,_=>false
section
variable(w:World)
mutual
def hsh:PV->Int
 |.int i=>Jq w (.inl i)
 |.str x=>Jq w (.inr x)
 |.tup xs=>reduceHash (P9 (rA xs))
 |_=>0
def rA:List PV->List Int
 |[]=>[]
 |x::xs=>hsh x::rA xs
end
end
mutual
def drw:PV->Nat
 |.tup xs=>Ap xs+1
 |_=>1
def Ap:List PV->Nat
 |[]=>0
 |x::xs=>drw x+Ap xs
end
mutual
/-- the raw value is the key -/
def HR(h:Heap):PV->Value->Prop
 |.int i,v=>∃t,v=.int i t
 |.str x,v=>∃t,v=.str x t
 |.tup ps,v=>∃a its,v=.ref a/\IsTup h a its.toArray/\HRs h ps its
 |_,_=>False
def HRs(h:Heap):List PV->List Value->Prop
 |[],[]=>True
 |p::ps,v::vs=>HR h p v/\HRs h ps vs
 |[],_::_=>False
 |_::_,[]=>False
end
theorem HRs.length{h:Heap}:∀{ps:List PV}{vs:List Value},HRs h ps vs->ps.length=vs.length
 |[],[],_=>rfl
 |_::_,_::_,r=>congrArg (·+1) (HRs.length r.2)
 |[],_::_,r=>r.elim
 |_::_,[],r=>r.elim
theorem HRs.at{h:Heap}:∀{ps:List PV}{vs:List Value}{j:Nat}{p:PV},HRs h ps vs->ps[j]?=some p->∃v,vs[j]?=some v/\HR h p v
 |[],[],_,_,_,e=>by simp at e
 |q::_,v::_,0,p,r,e=>by
  have:q=p:=by simpa using e
  subst this;exact⟨v,rfl,r.1⟩
 |_::ps,_::vs,j+1,p,r,e=>by
  obtain⟨v,h1,h2⟩:=HRs.at (ps:=ps) (vs:=vs) (j:=j) (p:=p) r.2 (by simpa using e)
  exact⟨v,by simpa using h1,h2⟩
 |[],_::_,_,_,r,_=>r.elim
 |_::_,[],_,_,r,_=>r.elim
theorem E6{h:Heap}{x y:Array Value}(p:IsTup h a x)(q:IsTup h a y):x=y:=by
 obtain⟨o,ho,_,n,hd⟩:=p;obtain⟨o',b7,_,n',j4⟩:=q;obtain rfl:o=o':=Pv (ho.symm.trans b7);rw[hd]at j4;injection j4
mutual
theorem HR.one{h:Heap}:∀{p q:PV}{v:Value},HR h p v->HR h q v->p=q
 |.int i,q,v,r,r'=>by
  obtain⟨t,rfl⟩:=r;cases q with
  |int j=>obtain⟨t',e⟩:=r';injection e with e;rw[e]
  |str j=>obtain⟨t',e⟩:=r';cases e
  |tup j=>obtain⟨_,_,e,_⟩:=r';cases e
  |_=>exact r'.elim
 |.str i,q,v,r,r'=>by
  obtain⟨t,rfl⟩:=r;cases q with
  |int j=>obtain⟨t',e⟩:=r';cases e
  |str j=>obtain⟨t',e⟩:=r';injection e with e;rw[e]
  |tup j=>obtain⟨_,_,e,_⟩:=r';cases e
  |_=>exact r'.elim
 |.tup ps,q,v,r,r'=>by
  obtain⟨a,its,rfl,p,rs⟩:=r;cases q with
  |int j=>obtain⟨t',e⟩:=r';cases e
  |str j=>obtain⟨t',e⟩:=r';cases e
  |tup qs=>
   obtain⟨b,its',e,p',ki⟩:=r';cases e
   have:its=its':=by simpa using congrArg Array.toList (E6 p p')
   subst this;rw[HRs.one rs ki]
  |_=>exact r'.elim
 |.non,_,_,r,_=>r.elim
 |.bl _,_,_,r,_=>r.elim
 |.ref _,_,_,r,_=>r.elim
 |.ty _,_,_,r,_=>r.elim
 |.fl _,_,_,r,_=>r.elim
theorem HRs.one{h:Heap}:∀{ps qs:List PV}{vs:List Value},HRs h ps vs->HRs h qs vs->ps=qs
 |[],[],[],_,_=>rfl
 |p::ps,q::qs,v::vs,r,r'=>by rw[HR.one r.1 r'.1,HRs.one r.2 r'.2]
 |[],_::_,[],_,r=>r.elim
 |[],_,_::_,r,_=>r.elim
 |_::_,_,[],r,_=>r.elim
 |_::_,[],_::_,_,r=>r.elim
end
theorem BP{h:Heap}{d:Addr}{es ep}{x:Array Value}(p:IsTup h a x)(ho:h.get? d=some o)(hd:o.data=.dict es ep)(hs:RK d h h'):IsTup h' a x:=by
 obtain⟨q,hq,hc,n,ji⟩:=p;have ne:a≠d:=by
  rintro rfl;obtain rfl:q=o:=Pv (hq.symm.trans ho);rw[hd]at ji;cases ji
 exact⟨q,(hs.2 a ne).trans hq,hc,n,ji⟩
mutual
theorem HR.keep{h h':Heap}(k:∀a x,IsTup h a x->IsTup h' a x):∀{p:PV}{v:Value},HR h p v->HR h' p v
 |.int i,v,r=>r
 |.str i,v,r=>r
 |.tup ps,v,⟨a,its,e,p,rs⟩=>⟨a,its,e,k _ _ p,HRs.keep k rs⟩
 |.non,_,r=>r.elim
 |.bl _,_,r=>r.elim
 |.ref _,_,r=>r.elim
 |.ty _,_,r=>r.elim
 |.fl _,_,r=>r.elim
theorem HRs.keep{h h':Heap}(k:∀a x,IsTup h a x->IsTup h' a x):∀{ps:List PV}{vs:List Value},HRs h ps vs->HRs h' ps vs
 |[],[],_=>trivial
 |_::_,_::_,r=>⟨HR.keep k r.1,HRs.keep k r.2⟩
 |[],_::_,r=>r.elim
 |_::_,[],r=>r.elim
end
theorem FB:∀(n:Nat){A:Around}{E:Value->Shared->Prop}{s:Shared}{p:PV}{v:Value}{Q:Int->Shared->Prop},p.ky n=true->A.units+n<cLine->HR s.heap p v->Q (hsh w p) { s with toks:=s.toks+drw p }->
  wpAny (model prog w) A (pyHash v) Q E s:=by
 intro n
 induction n with
 |zero=>
  intro A E s p v Q hk hu r h;cases p with
  |int i=>obtain⟨t,rfl⟩:=r;exact wpAny_pyHash_int h
  |str i=>obtain⟨t,rfl⟩:=r;exact wpAny_pyHash_str h
  |_=>cases hk
 |succ n ih=>
  intro A E s p v Q hk hu r h;cases p with
  |int i=>obtain⟨t,rfl⟩:=r;exact wpAny_pyHash_int h
  |str i=>obtain⟨t,rfl⟩:=r;exact wpAny_pyHash_str h
  |tup ps=>
   obtain⟨a,its,rfl,⟨o,ho,hc,m,hd⟩,rs⟩:=r;have f':∀q∈ps,q.ky n=true:=Pp.mp hk;have hT:s.TypeIs (.ref a) "tuple" := ⟨o,ho,hc⟩;unfold pyHash;unfold pyHashByItsType;refine ff (wpAny_cRoomFor_or (.inr (show A.units<cLine by omega)) (ff (Rp hT F.slot_tuple_hash.lookup ?_)))
   show wpAny _ _ (if((some (Value.builtin "tuple.__hash__"):Option Value) == some PC)=true then _ else _) Q E s
   rw[if_neg (show ¬ _ from by rw[beq_builtin_none];decide)]
   refine ff (Rp hT F.slot_tuple_hash.lookup (show wpAny _ _ (callSpecialIfBoundUnlessNone? (.ref a) "__hash__" _ >>= _) Q E s from ?_))
   refine ff (wpAny_callSpecialIfBoundUnlessNone?_slot hT F.slot_tuple_hash (PL F.slot_tuple_hash hT F.entry_tuple_hash (show wpAny _ _ (Sb (.ref a) >>= _) _ _ s from ?_) (F.args_tuple_hash_1 _)))
   refine ff (wpAny_tupleItemsOf ho hd (ff ?_));rw[<-Array.forIn_toList];refine wpAny_forIn_list _ (λrest (b:Array Int) s'=>∃left,HRs s.heap left rest/\(∀q∈left,q.ky n=true)/\b.toList++rA w left=rA w ps/\s'.heap=s.heap/\s'={ s with toks:=s'.toks }/\s'.toks+Ap left=s.toks+Ap ps) _ ?turn ?stop _ _ ⟨ps,rs,f',rfl,rfl,rfl,rfl⟩
   case turn=>
    rintro x rest b s' ⟨left,rl,kl,eb,eh,es,et⟩;cases left with
    |nil=>exact rl.elim
    |cons q left=>
     have r1:HR s'.heap q x:=by rw[eh];exact rl.1
     refine ff (ih (kl q Pb) (show A.units+1+n<cLine by omega) r1 (z8 ?_));refine⟨left,rl.2,λz hz=>kl z (OX _ hz),?_,eh,?_,?_⟩
     ·rw[<-eb];simp[rA]
     ·rw[es]
     ·rw[<-et]
      show s'.toks+drw q+Ap left=s'.toks+(drw q+Ap left)
      omega
   case stop=>
    rintro b s' ⟨left,rl,kl,eb,eh,es,et⟩;cases left with
    |cons q left=>exact rl.elim
    |nil=>
     have yk:b.toList=rA w ps:=by rw[<-eb];simp[rA]
     have yt:s'.toks=s.toks+Ap ps:=et
     show wpAny _ _ (retInt (P9 b.toList)) _ _ _
     rw[yk,es];refine wpAny_ret_mkInt ?_
     show wpAny _ _ (if(decide (-(2:Int) ^ 63<=P9 (rA w ps))&&decide (P9 (rA w ps)<2 ^ 63))=true then _ else _) Q E _
     have h':Q (reduceHash (P9 (rA w ps))) { s with toks:=s.toks+(Ap ps+1) }:=h;unfold reduceHash at h';rw[yt]
     by_cases hr:(decide (-(2:Int) ^ 63<=P9 (rA w ps))&&decide (P9 (rA w ps)<2 ^ 63))=true
     ·rw[if_pos hr]at h'⊢;exact z8 (by simpa[Nat.add_assoc] using h')
     ·rw[if_neg hr]at h'⊢;exact ff (Rn (z8 (by simpa[Nat.add_assoc] using h')))
  |_=>cases hk
theorem Kn:∀(n:Nat){A:Around}{s:Shared}{p q:PV}{v u:Value},p.ky n=true->q.ky n=true->A.units+n<cLine->HR s.heap p v->HR s.heap q u->RcAt A s v u (decide (p=q)):=by
 intro n
 induction n with
 |zero=>
  intro A s p q v u hp hq hu r r';cases p with
  |int i=>
   obtain⟨t,rfl⟩:=r;cases q with
   |int j=>obtain⟨t',rfl⟩:=r';have:=RcAt.int_int (A:=A) (s:=s) i t j t';rwa[show decide (PV.int i=PV.int j)=(i == j) by simp[RX]]
   |str j=>obtain⟨t',rfl⟩:=r';exact RcAt.int_str i t j t'
   |_=>cases hq
  |str i=>
   obtain⟨t,rfl⟩:=r;cases q with
   |int j=>obtain⟨t',rfl⟩:=r';exact RcAt.str_int i t j t'
   |str j=>obtain⟨t',rfl⟩:=r';have:=RcAt.str_str (A:=A) (s:=s) i t j t';rwa[show decide (PV.str i=PV.str j)=(i == j) by simp[RX]]
   |_=>cases hq
  |_=>cases hp
 |succ n ih=>
  intro A s p q v u hp hq hu r r';cases p with
  |int i=>
   obtain⟨t,rfl⟩:=r;cases q with
   |int j=>obtain⟨t',rfl⟩:=r';have:=RcAt.int_int (A:=A) (s:=s) i t j t';rwa[show decide (PV.int i=PV.int j)=(i == j) by simp[RX]]
   |str j=>obtain⟨t',rfl⟩:=r';exact RcAt.int_str i t j t'
   |tup js=>obtain⟨b,its,rfl,p',_⟩:=r';exact RcAt.int_tuple i t p' (by omega)
   |_=>cases hq
  |str i=>
   obtain⟨t,rfl⟩:=r;cases q with
   |int j=>obtain⟨t',rfl⟩:=r';exact RcAt.str_int i t j t'
   |str j=>obtain⟨t',rfl⟩:=r';have:=RcAt.str_str (A:=A) (s:=s) i t j t';rwa[show decide (PV.str i=PV.str j)=(i == j) by simp[RX]]
   |tup js=>obtain⟨b,its,rfl,p',_⟩:=r';exact RcAt.str_tuple i t p' (by omega)
   |_=>cases hq
  |tup ps=>
   obtain⟨a,its,rfl,ta,rs⟩:=r;cases q with
   |int j=>obtain⟨t',rfl⟩:=r';exact RcAt.tuple_int j t' ta (by omega)
   |str j=>obtain⟨t',rfl⟩:=r';exact RcAt.tuple_str j t' ta (by omega)
   |tup qs=>
    obtain⟨b,its',rfl,tb,ki⟩:=r';have kp:∀z∈ps,z.ky n=true:=Pp.mp hp;have kq:∀z∈qs,z.ky n=true:=Pp.mp hq;have l1:=rs.length;have l2:=ki.length;have key:=RcAt.tuples (A:=A) (e:=λj=>match ps[j]?,qs[j]? with|some x,some y=>decide (x=y)|_,_=>false) ta tb (by omega) (λj h1 h2=>by
     have dj:j<ps.length:=by simp at h1;omega
     have gj:j<qs.length:=by simp at h2;omega
     have g1:ps[j]?=some ps[j]:=by simp[dj]
     have g2:qs[j]?=some qs[j]:=by simp[gj]
     obtain⟨xu,jx,de⟩:=rs.at g1;obtain⟨yu,jl,b6⟩:=ki.at g2;have e1:its.toArray[j]=xu:=by simpa using(Io.mp jx).2
     have e2:its'.toArray[j]=yu:=by simpa using(Io.mp jl).2
     rw[e1,e2];simp only[g1,g2];refine iV (ih (kp _ (Qt dj)) (kq _ (Qt gj)) (show A.units+1+n<cLine by omega) de b6) (λev=>?_) (λf t e=>?_)
     ·subst ev;rw[HR.one de b6];exact decide_eq_true rfl
     ·subst e;generalize ps[j]=z at de;cases z with
      |int i=>obtain⟨_,e⟩:=de;cases e
      |str i=>obtain⟨_,e⟩:=de;cases e
      |tup i=>obtain⟨_,_,e,_⟩:=de;cases e
      |_=>exact de.elim)
    have sz:((Pm (min its.toArray.size its'.toArray.size)).all (λj=>match ps[j]?,qs[j]? with|some x,some y=>decide (x=y)|_,_=>false)&&its.toArray.size == its'.toArray.size)=decide (PV.tup ps=PV.tup qs):=by
     have a1:its.toArray.size=ps.length:=by simp;omega
     have a2:its'.toArray.size=qs.length:=by simp;omega
     rw[a1,a2,QS];simp only[Pj,Pp,QX,beq_iff_eq,decide_eq_true_eq,PV.tup.injEq];constructor
     ·rintro⟨hall,hlen⟩;apply List.ext_getElem hlen;intro i hi bc;have:=hall i (by omega);simpa[hi,bc] using this
     ·rintro rfl;refine⟨λx hx=>?_,rfl⟩;have:x<ps.length:=by omega
      simp[this]
    rw[<-sz];exact key
   |_=>cases hq
  |_=>cases hp
variable{p:PV}
theorem HR.noflt{h:Heap}{v:Value}(r:HR h p v):∀f t,v≠.float f t:=λf t e=>by
 subst e;cases p with
 |int i=>obtain⟨_,e⟩:=r;cases e
 |str i=>obtain⟨_,e⟩:=r;cases e
 |tup i=>obtain⟨_,_,e,_⟩:=r;cases e
 |_=>exact r.elim
theorem Ko{q:PV}{v:Value}(hp:p.ky n=true)(hq:q.ky n=true)(hu:A.units+n<cLine)(r:HR s.heap p v)(r':HR s.heap q u):EqAt A s v u (decide (p=q)):=
 iV (Kn n hp hq hu r r') (λev=>by subst ev;rw[HR.one r r'];exact decide_eq_true rfl) r.noflt
theorem E7:∀(n m:Nat){A:Around}{E:Value->Shared->Prop}{s:Shared}{p:PV}{v:Value}{Q:Bool->Shared->Prop},p.ky n=true->n<=m->HR s.heap p v->Q true s->wpAny (model prog w) A (eqIsQuiet m v) Q E s:=by
 intro n
 induction n with
 |zero=>
  intro m A E s p v Q hk hm r h;cases p with
  |int i=>obtain⟨t,rfl⟩:=r;rw[eqIsQuiet_byValue _ rfl];exact z8 h
  |str i=>obtain⟨t,rfl⟩:=r;rw[eqIsQuiet_byValue _ rfl];exact z8 h
  |_=>cases hk
 |succ n ih=>
  intro m A E s p v Q hk hm r h;cases p with
  |int i=>obtain⟨t,rfl⟩:=r;rw[eqIsQuiet_byValue _ rfl];exact z8 h
  |str i=>obtain⟨t,rfl⟩:=r;rw[eqIsQuiet_byValue _ rfl];exact z8 h
  |tup ps=>
   obtain⟨a,its,rfl,⟨o,ho,hc,m',hd⟩,rs⟩:=r;have f':∀q∈ps,q.ky n=true:=Pp.mp hk;have hT:s.TypeIs (.ref a) "tuple" := ⟨o,ho,hc⟩;obtain⟨m,rfl⟩:∃j,m=j+1:=⟨m-1,by omega⟩;unfold eqIsQuiet;refine ff (Rp hT F.slot_tuple_eq.lookup (show wpAny _ _ (isInstance (.ref a) (.type "tuple") >>= _) _ _ s from ?_))
   refine ff (QV hT isSubtype_tuple_tuple ?_);simp only[Bool.not_true,Qb,if_false];refine ff (QO ho hd (ff (show wpAny _ _ (forIn its.toArray _ _) _ _ s from ?_)));rw[<-Array.forIn_toList]
   refine wpAny_forIn_list _ (λrest r s'=>r.1=none/\s'=s/\∃left,HRs s.heap left rest/\∀q∈left,q.ky n=true) _ ?_ ?_ _ _ ⟨rfl,rfl,ps,rs,f'⟩
   ·rintro v rest r s' ⟨hr,rfl,left,rl,kl⟩;cases left with
    |nil=>exact rl.elim
    |cons q left=>
     refine ff (ih m (kl q Pb) (by omega) rl.1 ?_);simp only[Bool.not_true,Qb,if_false];exact z8 ⟨rfl,rfl,left,rl.2,λz hz=>kl z (OX _ hz)⟩
   ·rintro⟨r1,r2⟩ s' ⟨hr,rfl,_⟩;simp only at hr;subst hr;exact z8 h
  |_=>cases hk
def sO(prog:Program)(w:World):HeapKind prog w PV where
 is:=λh p a=>p.ky 6=true/\HR h p (.ref a)
 hash:=hsh w
 draws:=drw
 room:=λA=>A.units+6<cLine
 inj:=λx y=>HR.one x.2 y.2
 keeps:=λx ho hd hs=>⟨x.1,HR.keep (λa it p=>BP p ho hd hs) x.2⟩
 pyHash:=λhu x h=>FB 6 x.1 hu x.2 h
 eqBool:=λhu x y h=>Ko x.1 y.1 hu x.2 y.2 _ _ _ _ h
 quiet:=λx h=>E7 6 8 x.1 (by omega) x.2 h
def dDO(w:World)(a:Addr)(ks:List (PV×Addr×V)):HO:=.ext λh=>ks.length<=OR/\(a == QI)=false/\∃xs:List (PV×Addr×Value),
 Paired (λ(p:PV×Addr×V)(q:PV×Addr×Value)=>p.1=q.1/\p.2.1=q.2.1/\RelV p.2.2 q.2.2) ks xs/\
 ∃o es ep,h.get? a=some o/\o.ExactDict/\o.data=.dict es ep/\es.toList=xs.map (λx=>(⟨hsh w x.1,.ref x.2.1,x.2.2⟩:DictEntry))/\(xs.map (·.1)).Nodup
def Md(kd:Nat)(v d:Addr):HO:=.ext λh=>match kd with
 |0=>h.IsItemsView v d
 |1=>h.IsValuesView v d
 |_=>∃o,h.get? v=some o/\o.cls=.type "dict_keys" /\ o.data=.fields #[.ref d]
open PySem PySem.Spec PyProof.Rows
inductive MO where
 |lst (xs:List PV)
 |dK (kvs:List (Key×PV))
 |ins (C:Str) (fs:List (Str×PV))
 |dD (kvs:List (PV×PV))
 |vw (kd d:Nat)
 |fz (o:MO)
abbrev PH:=List MO
abbrev Ev:=List (Option PV)
structure PX where
 cls:Str
 fs:List (Str×PV)
inductive Rs(α:Type) where
 |ok (a:α) (h:PH)
 |exc (x:PX) (h:PH)
 |bad
inductive Fl where
 |nx (δ:Ev) (h:PH)
 |rt (p:PV) (h:PH)
 |bk (δ:Ev) (h:PH)
 |ct (δ:Ev) (h:PH)
 |exc (x:PX) (h:PH)
 |bad
abbrev Me:=Ev->PH->Rs PV
abbrev Ms:=Ev->PH->Fl
abbrev Fn:=List PV->PH->Rs PV
def Rs.bind{α β:Type}(r:Rs α)(f:α->PH->Rs β):Rs β:=match r with
 |.ok a h=>f a h
 |.exc x h=>.exc x h
 |.bad=>.bad
@[simp]theorem Rs.bind_ok{α β:Type}(a:α)(h:PH)(f:α->PH->Rs β):(Rs.ok a h).bind f=f a h:=rfl
@[simp]theorem Rs.bind_exc{α β:Type}(x:PX)(h:PH)(f:α->PH->Rs β):(Rs.exc x h:Rs α).bind f=.exc x h:=rfl
@[simp]theorem Rs.bind_bad{α β:Type}(f:α->PH->Rs β):(Rs.bad:Rs α).bind f=.bad:=rfl
structure MC where
 K:z9
 cl:Str->Option Addr
 bs:List Str
 ex:List Addr->Hp->PX->Prop
 w:World
def SqF(K:z9)(H:Hp)(a:Addr)(xs:List V):Prop:=
 (∃o,H a=some (.frz o (.lst xs)))\/
  ∃(o:Obj)(its:Array Value)(n:Nat),K.lookup a=some o/\o.cls=.type "list" /\ o.dict=none/\o.data=.seq its n/\its.size<=OR/\aI xs its.toList
theorem SqF.sq{xs:List V}(h:SqF K H a xs):SqL K H a xs:=by
 rcases h with⟨o,h⟩|h
 ·exact .inl (.inr ⟨o,h⟩)
 ·exact .inr h
def Kp(H H':Hp):Prop:=iU H H'/\∀a o u,H a=some (.frz o u)->H' a=some (.frz o u)
theorem Kp.refl(H:Hp):Kp H H:=⟨iU.refl H,λ_ _ _ h=>h⟩
theorem Kp.trans(a:Kp H H1)(b:Kp H1 H2):Kp H H2:=⟨a.1.trans b.1,λc o u h=>b.2 c o u (a.2 c o u h)⟩
theorem Kp.same(s:xU H H'):Kp H H':=⟨iU.same s,λ_ _ _ h=>s _ _ h⟩
theorem Kp.new{o:HO}(h:H a=none):Kp H (upd H a o):=Kp.same (xU.upd h)
theorem Kp.upd{p:Addr}{o:HO}(h:CK (H p)):Kp H (upd H p o):=⟨iU.upd h,λa ob u q=>by
 have ne:a≠p:=by
  rintro rfl;rw[q]at h;exact h
 rw[aW ne];exact q⟩
theorem Kp.lst{H:Hp}{p:Addr}{o:HO}{xs:List V}(h:H p=some (.lst xs)):Kp H (L2.upd H p o):=Kp.upd (by rw[h];trivial)
theorem Kp.dK{H:Hp}{p:Addr}{o:HO}{xs:List (Key×V)}(h:H p=some (.dK xs)):Kp H (L2.upd H p o):=Kp.upd (by rw[h];trivial)
theorem Kp.sq{xs:List V}(t:Kp H H')(h:SqT K H a xs):SqT K H' a xs:=t.1.sq h
theorem Kp.sf{xs:List V}(t:Kp H H')(h:SqF K H a xs):SqF K H' a xs:=by
 rcases h with⟨o,h⟩|h
 ·exact .inl ⟨o,t.2 _ _ _ h⟩
 ·exact .inr h
section
variable(C:MC)(φ:List Addr)(H:Hp)
mutual
def RV:PV->V->Prop
 |.non,v=>v=.non
 |.bl b,v=>v=.bl b
 |.int i,v=>v=.int i
 |.str x,v=>v=.str x
 |.ty n,v=>v=.ty n
 |.tup ps,v=>∃a vs,v=.ref a/\SqT C.K H a vs/\RVs ps vs
 |.ref n,v=>∃a,v=.ref a/\φ[n]?=some a
 |.fl ps,v=>∃a vs,v=.ref a/\SqF C.K H a vs/\RVs ps vs
def RVs:List PV->List V->Prop
 |[],[]=>True
 |p::ps,v::vs=>RV p v/\RVs ps vs
 |[],_::_=>False
 |_::_,[]=>False
end
def RKv{κ:Type}:List (κ×PV)->List (κ×V)->Prop:=Paired λp q=>p.1=q.1/\RV C φ H p.2 q.2
def RKd:List (PV×PV)->List (PV×Addr×V)->Prop:=Paired λp q=>p.1=q.1/\p.1.ky 6=true/\RV C φ H p.1 (.ref q.2.1)/\RV C φ H p.2 q.2.2
def RO(a:Addr):MO->Prop
 |.lst ps=>∃vs,H a=some (.lst vs)/\RVs C φ H ps vs
 |.dK kvs=>∃ks,H a=some (.dK ks)/\RKv C φ H kvs ks
 |.ins n fs=>∃c dx ks,C.cl n=some c/\H a=some (.ins c dx ks)/\RKv C φ H fs ks
 |.dD kvs=>∃ks,H a=some (dDO C.w a ks)/\RKd C φ H kvs ks
 |.vw kd d=>∃b,φ[d]?=some b/\H a=some (Md kd a b)
 |.fz (.dK kvs)=>∃ob ks,H a=some (.frz ob (.dK ks))/\RKv C φ H kvs ks
 |.fz (.dD kvs)=>∃ob ks,H a=some (.frz ob (dDO C.w a ks))/\RKd C φ H kvs ks
 |.fz _=>False
structure RH(h:PH):Prop where
 len:φ.length=h.length
 nd:φ.Nodup
 at':∀(n:Nat)(a:Addr)(o:MO),φ[n]?=some a->h[n]?=some o->RO C φ H a o
def RE(δ:Ev)(σ:St):Prop:=δ.length=σ.length/\∀(i:Nat)(p:PV),δ[i]?=some (some p)->∃v,σ[i]?=some (some v)/\RV C φ H p v
end
theorem lS{α:Type}{l l':List α}(p:l<+:l'){a:α}(h:l[n]?=some a):l'[n]?=some a:=by
 obtain⟨t,rfl⟩:=p;have:=(Io.mp h).1;rw[PQ this];exact h
def Kq(H H':Hp):Prop:=iU H H'/\∀a o xs,H a=some (.frz o (.lst xs))->H' a=some (.frz o (.lst xs))
theorem Kp.q(t:Kp H H'):Kq H H':=⟨t.1,λa o xs h=>t.2 a o _ h⟩
theorem Kq.sq{xs:List V}(t:Kq H H')(h:SqT K H a xs):SqT K H' a xs:=t.1.sq h
theorem Kq.sf{xs:List V}(t:Kq H H')(h:SqF K H a xs):SqF K H' a xs:=by
 rcases h with⟨o,h⟩|h
 ·exact .inl ⟨o,t.2 _ _ _ h⟩
 ·exact .inr h
mutual
theorem RV.monoQ(p:φ<+:φ')(t:Kq H H'):∀{x:PV}{v:V},RV C φ H x v->RV C φ' H' x v
 |.non,_,h=>h
 |.bl _,_,h=>h
 |.int _,_,h=>h
 |.str _,_,h=>h
 |.ty _,_,h=>h
 |.tup _,_,⟨a,vs,e,q,r⟩=>⟨a,vs,e,t.sq q,RVs.monoQ p t r⟩
 |.ref _,_,⟨a,e,q⟩=>⟨a,e,lS p q⟩
 |.fl _,_,⟨a,vs,e,q,r⟩=>⟨a,vs,e,t.sf q,RVs.monoQ p t r⟩
theorem RVs.monoQ(p:φ<+:φ')(t:Kq H H'):∀{xs:List PV}{vs:List V},RVs C φ H xs vs->RVs C φ' H' xs vs
 |[],[],_=>trivial
 |_::_,_::_,⟨h,r⟩=>⟨RV.monoQ p t h,RVs.monoQ p t r⟩
 |[],_::_,h=>h.elim
 |_::_,[],h=>h.elim
end
variable{C:MC}{φ φ':List Addr}
theorem RV.mono(p:φ<+:φ')(t:Kp H H'){x:PV}{v:V}(h:RV C φ H x v):RV C φ' H' x v:=RV.monoQ p t.q h
variable{xs:List PV}
theorem RVs.mono(p:φ<+:φ')(t:Kp H H')(h:RVs C φ H xs vs):RVs C φ' H' xs vs:=RVs.monoQ p t.q h
theorem RVs.length:∀{xs:List PV}{vs:List V},RVs C φ H xs vs->xs.length=vs.length
 |[],[],_=>rfl
 |_::_,_::_,⟨_,r⟩=>by simp[RVs.length r]
 |[],_::_,h=>h.elim
 |_::_,[],h=>h.elim
theorem RVs.get:∀{xs:List PV}{vs:List V}{i:Nat}{v:V},RVs C φ H xs vs->vs[i]?=some v->∃x,xs[i]?=some x/\RV C φ H x v
 |[],[],_,_,_,e=>by simp at e
 |x::_,w::_,0,v,⟨h,_⟩,e=>by
  have:w=v:=by simpa using e
  subst this;exact⟨x,rfl,h⟩
 |_::xs,_::vs,i+1,v,⟨_,r⟩,e=>by
  obtain⟨x,h1,h2⟩:=RVs.get (xs:=xs) (vs:=vs) (i:=i) (v:=v) r (by simpa using e)
  exact⟨x,by simpa using h1,h2⟩
 |[],_::_,_,_,h,_=>h.elim
 |_::_,[],_,_,h,_=>h.elim
theorem RVs.at:∀{xs:List PV}{vs:List V}{i:Nat}{x:PV},RVs C φ H xs vs->xs[i]?=some x->∃v,vs[i]?=some v/\RV C φ H x v
 |[],[],_,_,_,e=>by simp at e
 |x::_,w::_,0,x',⟨h,_⟩,e=>by
  have:x=x':=by simpa using e
  subst this;exact⟨w,rfl,h⟩
 |_::xs,_::vs,i+1,x,⟨_,r⟩,e=>by
  obtain⟨v,h1,h2⟩:=RVs.at (xs:=xs) (vs:=vs) (i:=i) (x:=x) r (by simpa using e)
  exact⟨v,by simpa using h1,h2⟩
 |[],_::_,_,_,h,_=>h.elim
 |_::_,[],_,_,h,_=>h.elim
theorem RVs.append:∀{xs ys:List PV}{vs us:List V},RVs C φ H xs vs->RVs C φ H ys us->RVs C φ H (xs++ys) (vs++us)
 |[],_,[],_,_,h=>h
 |_::_,_,_::_,_,⟨h,r⟩,h'=>⟨h,RVs.append r h'⟩
 |[],_,_::_,_,h,_=>h.elim
 |_::_,_,[],_,h,_=>h.elim
theorem RVs.snoc{x:PV}{v:V}(r:RVs C φ H xs vs)(h:RV C φ H x v):RVs C φ H (xs++[x]) (vs++[v]):=r.append ⟨h,trivial⟩
theorem RVs.drop:∀{xs:List PV}{vs:List V}(n:Nat),RVs C φ H xs vs->RVs C φ H (xs.drop n) (vs.drop n)
 |_,_,0,h=>h
 |[],[],_+1,_=>trivial
 |_::_,_::_,n+1,⟨_,r⟩=>RVs.drop n r
 |[],_::_,_+1,h=>h.elim
 |_::_,[],_+1,h=>h.elim
theorem RVs.take:∀{xs:List PV}{vs:List V}(n:Nat),RVs C φ H xs vs->RVs C φ H (xs.take n) (vs.take n)
 |[],[],0,_=>trivial
 |_::_,_::_,0,_=>trivial
 |[],[],_+1,_=>trivial
 |_::_,_::_,n+1,⟨h,r⟩=>⟨h,RVs.take n r⟩
 |[],_::_,_,h=>h.elim
 |_::_,[],_,h=>h.elim
theorem RVs.set{x:PV}{v:V}(h:RV C φ H x v):∀{xs:List PV}{vs:List V}(n:Nat),RVs C φ H xs vs->RVs C φ H (xs.set n x) (vs.set n v)
 |[],[],_,_=>trivial
 |_::_,_::_,0,⟨_,r⟩=>⟨h,r⟩
 |_::_,_::_,n+1,⟨q,r⟩=>⟨q,RVs.set h n r⟩
 |[],_::_,_,h=>h.elim
 |_::_,[],_,h=>h.elim
theorem RKv.monoQ{κ:Type}(p:φ<+:φ')(t:Kq H H'){x:List (κ×PV)}{v:List (κ×V)}(h:RKv C φ H x v):RKv C φ' H' x v:=Paired.mapP h λ_ _ q=>⟨q.1,q.2.monoQ p t⟩
theorem RKd.monoQ(p:φ<+:φ')(t:Kq H H'){x:List (PV×PV)}{v:List (PV×Addr×V)}(h:RKd C φ H x v):RKd C φ' H' x v:=Paired.mapP h λ_ _ q=>⟨q.1,q.2.1,q.2.2.1.monoQ p t,q.2.2.2.monoQ p t⟩
theorem RKv.mono{κ:Type}(p:φ<+:φ')(t:Kp H H'){x:List (κ×PV)}{v:List (κ×V)}(h:RKv C φ H x v):RKv C φ' H' x v:=Paired.mapP h λ_ _ q=>⟨q.1,q.2.mono p t⟩
theorem RKd.mono(p:φ<+:φ')(t:Kp H H'){x:List (PV×PV)}{v:List (PV×Addr×V)}(h:RKd C φ H x v):RKd C φ' H' x v:=Paired.mapP h λ_ _ q=>⟨q.1,q.2.1,q.2.2.1.mono p t,q.2.2.2.mono p t⟩
variable{δ:Ev}
theorem RE.mono(p:φ<+:φ')(t:Kp H H'){σ:St}(h:RE C φ H δ σ):RE C φ' H' δ σ:=⟨h.1,λi x e=>let ⟨v,q,r⟩:=h.2 i x e;⟨v,q,r.mono p t⟩⟩
theorem RE.set{σ:St}{x:PV}{v:V}(h:RE C φ H δ σ)(r:RV C φ H x v)(i:Nat):RE C φ H (δ.set i (some x)) (σ.set i (some v)):=by
 refine⟨by rw[Sy,Sy];exact h.1,λj p e=>?_⟩
 by_cases hj:i=j
 ·subst hj
  by_cases hl:i<δ.length
  ·rw[QG hl]at e;cases e
   exact⟨v,by rw[QG (by rw[<-h.1];exact hl)],r⟩
  ·rw[List.getElem?_eq_none (by rw[Sy];omega)]at e;cases e
 ·rw[QD hj]at e;rw[QD hj];exact h.2 j p e
theorem RO.stayQ{o:MO}(p:φ<+:φ')(t:Kq H H')(e:H' a=H a)(h:RO C φ H a o):RO C φ' H' a o:=by
 cases o with
 |lst ps=>obtain⟨vs,q,r⟩:=h;exact⟨vs,e.trans q,r.monoQ p t⟩
 |dK ps=>obtain⟨vs,q,r⟩:=h;exact⟨vs,e.trans q,r.monoQ p t⟩
 |ins n fs=>obtain⟨c,dx,ks,hc,q,r⟩:=h;exact⟨c,dx,ks,hc,e.trans q,r.monoQ p t⟩
 |dD kvs=>obtain⟨ks,q,r⟩:=h;exact⟨ks,e.trans q,r.monoQ p t⟩
 |vw kd d=>obtain⟨b,hb,q⟩:=h;exact⟨b,lS p hb,e.trans q⟩
 |fz o=>
  cases o with
  |dK kvs=>obtain⟨ob,ks,q,r⟩:=h;exact⟨ob,ks,e.trans q,r.monoQ p t⟩
  |dD kvs=>obtain⟨ob,ks,q,r⟩:=h;exact⟨ob,ks,e.trans q,r.monoQ p t⟩
  |_=>exact h.elim
theorem RO.stay{o:MO}(p:φ<+:φ')(t:Kp H H')(e:H' a=H a)(h:RO C φ H a o):RO C φ' H' a o:=h.stayQ p t.q e
theorem RO.some{o:MO}(h:RO C φ H a o):∃u,H a=some u:=by
 cases o with
 |lst ps=>obtain⟨vs,q,r⟩:=h;exact⟨_,q⟩
 |dK ps=>obtain⟨vs,q,r⟩:=h;exact⟨_,q⟩
 |ins n fs=>obtain⟨c,dx,ks,hc,q,r⟩:=h;exact⟨_,q⟩
 |dD kvs=>obtain⟨ks,q,r⟩:=h;exact⟨_,q⟩
 |vw kd d=>obtain⟨b,hb,q⟩:=h;exact⟨_,q⟩
 |fz o=>
  cases o with
  |dK kvs=>obtain⟨ob,ks,q,r⟩:=h;exact⟨_,q⟩
  |dD kvs=>obtain⟨ob,ks,q,r⟩:=h;exact⟨_,q⟩
  |_=>exact h.elim
variable{h:PH}
theorem RH.get(r:RH C φ H h){o:MO}(e:h[n]?=some o):∃a,φ[n]?=some a/\RO C φ H a o:=by
 have hn:=(Io.mp e).1;have:n<φ.length:=by rw[r.len];exact hn
 exact⟨φ[n],by simp[this],r.at' n _ o (by simp[this]) e⟩
theorem RH.tracked(r:RH C φ H h)(e:φ[n]?=some a):∃u,H a=some u:=by
 have hn:=(Io.mp e).1;have:n<h.length:=by rw[<-r.len];exact hn
 exact(r.at' n a h[n] e (by simp[this])).some
theorem RH.aside(r:RH C φ H h){o:HO}(e:H a=none):RH C φ (upd H a o) h:=
 ⟨r.len,r.nd,λn b ob h1 h2=>by
  have q:=r.at' n b ob h1 h2;obtain⟨u,hu⟩:=q.some;exact q.stay (OT) (Kp.new e) (aW (cJ hu e))⟩
theorem RH.new(r:RH C φ H h){u:HO}{o:MO}(e:H a=none)(q:RO C (φ++[a]) (upd H a u) a o):RH C (φ++[a]) (upd H a u) (h++[o]):=by
 refine⟨by simp[r.len],?_,λn b ob h1 h2=>?_⟩
 ·rw[List.nodup_append];refine⟨r.nd,by simp,λx hx y hy z=>?_⟩;rw[P4]at hy;subst hy z;obtain⟨n,hn⟩:=RR.mp hx;obtain⟨u',hu⟩:=r.tracked hn;rw[e]at hu;cases hu
 ·by_cases hn:n<φ.length
  ·rw[PQ hn]at h1;rw[PQ (by rw[<-r.len];exact hn)]at h2;have q':=r.at' n b ob h1 h2;obtain⟨u',hu⟩:=q'.some;exact q'.stay (PP _ _) (Kp.new e) (aW (cJ hu e))
  ·have nu:n=φ.length:=by
    have:=(Io.mp h1).1;simp at this;omega
   subst nu;rw[Qh (OO _),Nat.sub_self]at h1;rw[r.len,Qh (OO _),Nat.sub_self]at h2;cases h1
   cases h2
   exact q
theorem RH.write(r:RH C φ H h){u:HO}{o:MO}(e:φ[n]?=some a)(t:CK (H a))(q:RO C φ (upd H a u) a o):RH C φ (upd H a u) (h.set n o):=by
 refine⟨by rw[Sy];exact r.len,r.nd,λm b ob h1 h2=>?_⟩
 by_cases hm:n=m
 ·subst hm;rw[e]at h1;cases h1;have hl:n<h.length:=by rw[<-r.len];exact(Io.mp e).1
  rw[QG hl]at h2;cases h2
  exact q
 ·rw[QD hm]at h2;have hb:b≠a:=λz=>by
   subst z;exact hm ((List.getElem?_inj (Io.mp e).1 r.nd).mp (e.trans h1.symm))
  exact(r.at' m b ob h1 h2).stay OT (Kp.upd t) (aW hb)
section
variable(C:MC)(φ:List Addr)(H:Hp)
def post(r:Rs PV)(Q:VK):Prop:=match r with
 |.ok p h=>∀φ' v H',φ<+:φ'->Kp H H'->RH C φ' H' h->RV C φ' H' p v->Q v H'
 |.exc x h=>∀φ' H',φ<+:φ'->Kp H H'->RH C φ' H' h->C.ex φ' H' x
 |.bad=>False
def bL(r:Rs Bool)(Q:Bool->Hp->Prop):Prop:=match r with
 |.ok b h=>∀φ' H',φ<+:φ'->Kp H H'->RH C φ' H' h->Q b H'
 |.exc x h=>∀φ' H',φ<+:φ'->Kp H H'->RH C φ' H' h->C.ex φ' H' x
 |.bad=>False
def postA(r:Rs (List PV))(Q:List V->Hp->Prop):Prop:=match r with
 |.ok ps h=>∀φ' vs H',φ<+:φ'->Kp H H'->RH C φ' H' h->RVs C φ' H' ps vs->Q vs H'
 |.exc x h=>∀φ' H',φ<+:φ'->Kp H H'->RH C φ' H' h->C.ex φ' H' x
 |.bad=>False
def bU(r:Fl)(D:Ends):Prop:=match r with
 |.nx δ h=>∀φ' σ H',φ<+:φ'->Kp H H'->RH C φ' H' h->RE C φ' H' δ σ->D.nx σ H'
 |.rt p h=>∀φ' v H',φ<+:φ'->Kp H H'->RH C φ' H' h->RV C φ' H' p v->D.rt v H'
 |.bk δ h=>∀φ' σ H',φ<+:φ'->Kp H H'->RH C φ' H' h->RE C φ' H' δ σ->D.bk σ H'
 |.ct δ h=>∀φ' σ H',φ<+:φ'->Kp H H'->RH C φ' H' h->RE C φ' H' δ σ->D.ct σ H'
 |.exc x h=>∀φ' H',φ<+:φ'->Kp H H'->RH C φ' H' h->C.ex φ' H' x
 |.bad=>False
end
variable{φ1:List Addr}
theorem post.weak{r:Rs PV}{Q:VK}(p:φ<+:φ1)(t:Kp H H1)(h:post C φ H r Q):post C φ1 H1 r Q:=by
 cases r with
 |ok a h'=>exact λφ' v H' p' t'=>h φ' v H' (p.trans p') (t.trans t')
 |exc a h'=>exact λφ' H' p' t'=>h φ' H' (p.trans p') (t.trans t')
 |bad=>exact h
theorem bL.weak{r:Rs Bool}{Q:Bool->Hp->Prop}(p:φ<+:φ1)(t:Kp H H1)(h:bL C φ H r Q):bL C φ1 H1 r Q:=by
 cases r with
 |ok a h'=>exact λφ' H' p' t'=>h φ' H' (p.trans p') (t.trans t')
 |exc a h'=>exact λφ' H' p' t'=>h φ' H' (p.trans p') (t.trans t')
 |bad=>exact h
theorem postA.weak{r:Rs (List PV)}{Q:List V->Hp->Prop}(p:φ<+:φ1)(t:Kp H H1)(h:postA C φ H r Q):postA C φ1 H1 r Q:=by
 cases r with
 |ok a h'=>exact λφ' v H' p' t'=>h φ' v H' (p.trans p') (t.trans t')
 |exc a h'=>exact λφ' H' p' t'=>h φ' H' (p.trans p') (t.trans t')
 |bad=>exact h
theorem bU.weak{r:Fl}{D:Ends}(p:φ<+:φ1)(t:Kp H H1)(h:bU C φ H r D):bU C φ1 H1 r D:=by
 cases r with
 |nx a h'=>exact λφ' v H' p' t'=>h φ' v H' (p.trans p') (t.trans t')
 |rt a h'=>exact λφ' v H' p' t'=>h φ' v H' (p.trans p') (t.trans t')
 |bk a h'=>exact λφ' v H' p' t'=>h φ' v H' (p.trans p') (t.trans t')
 |ct a h'=>exact λφ' v H' p' t'=>h φ' v H' (p.trans p') (t.trans t')
 |exc a h'=>exact λφ' H' p' t'=>h φ' H' (p.trans p') (t.trans t')
 |bad=>exact h
theorem post.imp{r:Rs PV}{Q Q':VK}(h:post C φ H r Q)(i:∀v H',Q v H'->Q' v H'):post C φ H r Q':=by
 cases r with
 |ok a h'=>exact λφ' v H' p t rh rv=>i v H' (h φ' v H' p t rh rv)
 |exc a h'=>exact h
 |bad=>exact h
theorem post.bind{r:Rs PV}{f:PV->PH->Rs PV}{Q:VK}(h:post C φ H (r.bind f) Q):post C φ H r λv H1=>∃φ1 p h1,φ<+:φ1/\Kp H H1/\RH C φ1 H1 h1/\RV C φ1 H1 p v/\post C φ1 H1 (f p h1) Q:=by
 cases r with
 |ok a h'=>exact λφ' v H' p t rh rv=>⟨φ',a,h',p,t,rh,rv,post.weak p t h⟩
 |exc a h'=>exact h
 |bad=>exact h
theorem post.bindB{r:Rs PV}{f:PV->PH->Rs Bool}{Q:Bool->Hp->Prop}(h:bL C φ H (r.bind f) Q):post C φ H r λv H1=>∃φ1 p h1,φ<+:φ1/\Kp H H1/\RH C φ1 H1 h1/\RV C φ1 H1 p v/\bL C φ1 H1 (f p h1) Q:=by
 cases r with
 |ok a h'=>exact λφ' v H' p t rh rv=>⟨φ',a,h',p,t,rh,rv,bL.weak p t h⟩
 |exc a h'=>exact h
 |bad=>exact h
theorem bL.bind{r:Rs Bool}{f:Bool->PH->Rs PV}{Q:VK}(h:post C φ H (r.bind f) Q):bL C φ H r λb H1=>∃φ1 h1,φ<+:φ1/\Kp H H1/\RH C φ1 H1 h1/\post C φ1 H1 (f b h1) Q:=by
 cases r with
 |ok a h'=>exact λφ' H' p t rh=>⟨φ',h',p,t,rh,post.weak p t h⟩
 |exc a h'=>exact h
 |bad=>exact h
theorem bL.bindB{r:Rs Bool}{f:Bool->PH->Rs Bool}{Q:Bool->Hp->Prop}(h:bL C φ H (r.bind f) Q):bL C φ H r λb H1=>∃φ1 h1,φ<+:φ1/\Kp H H1/\RH C φ1 H1 h1/\bL C φ1 H1 (f b h1) Q:=by
 cases r with
 |ok a h'=>exact λφ' H' p t rh=>⟨φ',h',p,t,rh,bL.weak p t h⟩
 |exc a h'=>exact h
 |bad=>exact h
theorem postA.bind{r:Rs (List PV)}{f:List PV->PH->Rs PV}{Q:VK}(h:post C φ H (r.bind f) Q):postA C φ H r λvs H1=>∃φ1 ps h1,φ<+:φ1/\Kp H H1/\RH C φ1 H1 h1/\RVs C φ1 H1 ps vs/\post C φ1 H1 (f ps h1) Q:=by
 cases r with
 |ok a h'=>exact λφ' v H' p t rh rv=>⟨φ',a,h',p,t,rh,rv,post.weak p t h⟩
 |exc a h'=>exact h
 |bad=>exact h
theorem postA.bindA{r:Rs (List PV)}{f:List PV->PH->Rs (List PV)}{Q:List V->Hp->Prop}(h:postA C φ H (r.bind f) Q):postA C φ H r λvs H1=>∃φ1 ps h1,φ<+:φ1/\Kp H H1/\RH C φ1 H1 h1/\RVs C φ1 H1 ps vs/\postA C φ1 H1 (f ps h1) Q:=by
 cases r with
 |ok a h'=>exact λφ' v H' p t rh rv=>⟨φ',a,h',p,t,rh,rv,postA.weak p t h⟩
 |exc a h'=>exact h
 |bad=>exact h
theorem post.bindA{r:Rs PV}{f:PV->PH->Rs (List PV)}{Q:List V->Hp->Prop}(h:postA C φ H (r.bind f) Q):post C φ H r λv H1=>∃φ1 p h1,φ<+:φ1/\Kp H H1/\RH C φ1 H1 h1/\RV C φ1 H1 p v/\postA C φ1 H1 (f p h1) Q:=by
 cases r with
 |ok a h'=>exact λφ' v H' p t rh rv=>⟨φ',a,h',p,t,rh,rv,postA.weak p t h⟩
 |exc a h'=>exact h
 |bad=>exact h
theorem post.val{v:V}{Q:VK}(q:post C φ H (.ok p h) Q)(rh:RH C φ H h)(rv:RV C φ H p v):Q v H:=q φ v H OT (Kp.refl H) rh rv
open PySem PySem.Spec PyProof.Rows
structure Cxt(C:MC)(k:Nat)(X:Cx):Prop where
 K:X.K=C.K
 calm:X.calm=true
 room:iB k X.A
 bn:∀x∈C.bs,X.mg x=none
 w:X.w=C.w
theorem Cxt.hu{k:Nat}(c:Cxt C k X):X.A.units+1<cLine:=LY c.room
theorem Cxt.hu64{k:Nat}(c:Cxt C k X):X.A.units+64<cLine:=c.room.units
theorem Cxt.comp{k:Nat}(c:Cxt C k X)(sc:Scope)(N:List Str)(a:Addr)(fp:List Addr)(s:Shared)(H:Hp):Cxt C k (X.comp sc N a fp s H):=⟨c.K,c.calm,c.room,c.bn,c.w⟩
section
variable(C:MC)
def rd(m:Me):TE:=λσ H Q=>∃φ δ h,RH C φ H h/\RE C φ H δ σ/\post C φ H (m δ h) Q
def rdB(m:Ev->PH->Rs Bool):TT:=λσ H Q=>∃φ δ h,RH C φ H h/\RE C φ H δ σ/\bL C φ H (m δ h) Q
def rdA(m:Ev->PH->Rs (List PV)):TA:=λσ H Q=>∃φ δ h,RH C φ H h/\RE C φ H δ σ/\postA C φ H (m δ h) Q
def rdS(m:Ms):TS:=λD σ H=>∃φ δ h,RH C φ H h/\RE C φ H δ σ/\bU C φ H (m δ h) D
def r2(g:PV->PV->PH->Rs PV):R2:=λx y H Q=>∃φ h p q,RH C φ H h/\RV C φ H p x/\RV C φ H q y/\post C φ H (g p q h) Q
def r1(g:PV->PH->Rs PV):V->Hp->VK->Prop:=λx H Q=>∃φ h p,RH C φ H h/\RV C φ H p x/\post C φ H (g p h) Q
def rL(g:List PV->PH->Rs PV):List V->Hp->VK->Prop:=λxs H Q=>∃φ h ps,RH C φ H h/\RVs C φ H ps xs/\post C φ H (g ps h) Q
end
variable{C:MC}{k:Nat}{X:Cx}
def SE(C:MC)(k:Nat)(X:Cx)(e:Expr)(m:Me):Prop:=Cxt C k X->PE X e (rd C m)
def ST(C:MC)(k:Nat)(X:Cx)(e:Expr)(m:Ev->PH->Rs Bool):Prop:=Cxt C k X->PT X e (rdB C m)
def SA(C:MC)(k:Nat)(X:Cx)(es:List Expr)(m:Ev->PH->Rs (List PV)):Prop:=Cxt C k X->PA X es (rdA C m)
def SSt(C:MC)(k:Nat)(X:Cx)(st:Stmt)(m:Ms):Prop:=Cxt C k X->PS X st (rdS C m)
def SSs(C:MC)(k:Nat)(X:Cx)(st:List Stmt)(m:Ms):Prop:=Cxt C k X->PSs X st (rdS C m)
def OpS(C:MC)(k:Nat)(X:Cx)(f:Value->Value->Sem Value)(g:PV->PV->PH->Rs PV):Prop:=Cxt C k X->OpR X f (r2 C g)
def UnS(C:MC)(k:Nat)(X:Cx)(f:Value->Sem Value)(g:PV->PH->Rs PV):Prop:=Cxt C k X->UnR X f (r1 C g)
def jU(C:MC)(k:Nat)(X:Cx)(f:Value)(g:List PV->PH->Rs PV):Prop:=Cxt C k X->cG X f (rL C g)
def sP:Ev->Nat->Option PV
 |[],_=>none
 |x::_,0=>x
 |_::r,n+1=>sP r n
@[simp]theorem bM(x:Option PV)(r:Ev):sP (x::r) 0=x:=(rfl)
@[simp]theorem fN(x:Option PV)(r:Ev)(n:Nat):sP (x::r) (n+1)=sP r n:=(rfl)
theorem oG:∀{δ:Ev}{i:Nat}{p:PV},sP δ i=some p->δ[i]?=some (some p)
 |[],_,_,h=>by cases h
 |x::_,0,p,h=>by
  have h':x=some p:=h;simp[h']
 |_::r,n+1,p,h=>by
  rw[QA];exact oG (δ:=r) (i:=n) h
def mV(i:Nat):Me:=λδ h=>match sP δ i with
 |some p=>.ok p h
 |none=>.bad
def mC(p:PV):Me:=λ_ h=>.ok p h
theorem wI(i:Nat)(hN:X.N[i]?=some x:=by rfl)(hv:Vis X.env.scope x:=by first|exact Or.inl rfl|exact Or.inr (Or.inl rfl)|exact Or.inr (Or.inr rfl))(hd:(x == ("__debug__" : Str))=false:=by decide)(cj:(x == ("__classdict__" : Str))=false:=by decide):SE C k X (.Name x pos) (mV i):=λ_=>by
 refine(EN hN hv hd cj).imp λσ H Q h=>?_;obtain⟨φ,δ,h,rh,re,p⟩:=h;unfold mV at p;cases e:sP δ i with
 |none=>rw[e]at p;exact p.elim
 |some x=>
  rw[e]at p;obtain⟨v,hv,rv⟩:=re.2 i x (oG e);exact⟨v,hv,p.val rh rv⟩
theorem Mf{i j pos}:SE C k X (.Constant (.int i) j pos) (mC (.int i)):=λ_=>Jv.imp λσ H Q ⟨φ,δ,h,rh,re,p⟩=>p.val rh rfl
theorem O6{i j pos}:SE C k X (.Constant (.bool i) j pos) (mC (.bl i)):=λ_=>LA.imp λσ H Q ⟨φ,δ,h,rh,re,p⟩=>p.val rh rfl
theorem Mh{j pos}:SE C k X (.Constant .none j pos) (mC .non):=λ_=>Jw.imp λσ H Q ⟨φ,δ,h,rh,re,p⟩=>p.val rh rfl
theorem CO{i j pos}:SE C k X (.Constant (.str i) j pos) (mC (.str i)):=λ_=>Jx.imp λσ H Q ⟨φ,δ,h,rh,re,p⟩=>p.val rh rfl
theorem FC{n:String}(hv:Q7 x=some (.type n))(hb:x∈C.bs:=by decide)(hg:Gl X x:=by rfl)(hn:x≠"__name__" := by decide)(hd:(x == ("__debug__" : Str))=false:=by decide):SE C k X (.Name x pos) (mC (.ty n)):=λc=>
 (Hg (v:=.ty n) hg (c.bn x hb) hv rfl hn hd).imp λσ H Q ⟨φ,δ,h,rh,re,p⟩=>p.val rh rfl
def aB(g:PV->PV->PH->Rs PV)(ma mb:Me):Me:=λδ h=>(ma δ h).bind λx h1=>(mb δ h1).bind λy h2=>g x y h2
variable{ma mb:Me}
theorem CP{g:PV->PV->PH->Rs PV}{σ:St}{Q:VK}(h:rd C (aB g ma mb) σ H Q):tOp (r2 C g) (rd C ma) (rd C mb) σ H Q:=by
 obtain⟨φ,δ,h,rh,re,p⟩:=h;refine⟨φ,δ,h,rh,re,(post.bind p).imp ?_⟩;rintro v H1 ⟨φ1,x,h1,p1,t1,aa,af,q1⟩;refine⟨φ1,δ,h1,aa,re.mono p1 t1,(post.bind q1).imp ?_⟩;rintro u H2 ⟨φ2,y,h2,p2,t2,aj,ax,q2⟩;exact⟨φ2,h2,x,y,aj,af.mono p2 t2,ax,q2⟩
variable{b:Expr}{op:CmpOp}
section
variable{a:Expr}{g:PV->PV->PH->Rs PV}
theorem Mj{op:Operator}(ho:OpS C k X (Qe op) g)(ha:SE C k X a ma)(hb:SE C k X b mb):SE C k X (.BinOp a op b pos) (aB g ma mb):=λc=>
 (LI (ho c) (ha c) (hb c)).imp λσ H Q h=>CP h
theorem Mk(ho:OpS C k X (Pn op) g)(ha:SE C k X a ma)(hb:SE C k X b mb)(hm:behindInMarks op b=false:=by first|exact EW _|rfl):SE C k X (.Compare a [op] [b] pos) (aB g ma mb):=λc=>
 (Ho (ho c) (ha c) (hb c) hm).imp λσ H Q h=>CP h
def mUn(g:PV->PH->Rs PV)(ma:Me):Me:=λδ h=>(ma δ h).bind g
theorem O7{op:UnaryOp}{g:PV->PH->Rs PV}(ho:UnS C k X (unaryOp op) g)(ha:SE C k X a ma):SE C k X (.UnaryOp op a pos) (mUn g ma):=λc=>
 (LJ (ho c) (ha c)).imp λσ H Q h=>by
  obtain⟨φ,δ,h,rh,re,p⟩:=h;refine⟨φ,δ,h,rh,re,(post.bind p).imp ?_⟩;rintro v H1 ⟨φ1,x,h1,p1,t1,aa,af,q1⟩;exact⟨φ1,h1,x,aa,af,q1⟩
end
def aO(h:PH)(n:Nat):Option (List PV):=match h[n]? with
 |some (.lst xs)=>some xs
 |_=>none
theorem bZ(rh:RH C φ H h)(e:aO h n=some xs):∃a vs,φ[n]?=some a/\SqL C.K H a vs/\RVs C φ H xs vs:=by
 unfold aO at e;cases q:h[n]? with
 |none=>rw[q]at e;cases e
 |some o=>
  rw[q]at e;obtain⟨a,ha,ro⟩:=rh.get q;cases o with
  |lst ys=>cases e;obtain⟨vs,q',r⟩:=ro;exact⟨a,vs,ha,SqL.of q',r⟩
  |_=>cases e
def bV(h:PH)(n:Nat):Option (List PV):=match h[n]? with
 |some (.lst xs)=>some xs
 |_=>none
theorem iG(e:bV h n=some xs):h[n]?=some (.lst xs):=by
 unfold bV at e;cases q:h[n]? with
 |none=>rw[q]at e;cases e
 |some o=>
  rw[q]at e;cases o with
  |lst ys=>cases e;rfl
  |_=>cases e
def mI(x:PV)(h:PH):Option (List PV):=match x with
 |.ref n=>aO h n
 |.fl xs=>some xs
 |_=>none
theorem sQ{x:PV}{v:V}(rh:RH C φ H h)(rv:RV C φ H x v)(e:mI x h=some xs):∃a vs,v=.ref a/\SqL C.K H a vs/\RVs C φ H xs vs:=by
 cases x with
 |ref n=>
  obtain⟨a,rfl,ha⟩:=rv;obtain⟨a2,vs,aw,sa,ra⟩:=bZ rh e;rw[ha]at aw;cases aw;exact⟨a,vs,rfl,sa,ra⟩
 |fl ys=>
  cases e
  obtain⟨a,vs,rfl,sa,ra⟩:=rv;exact⟨a,vs,rfl,sa.sq,ra⟩
 |_=>cases e
def Jd:List PV->Bool
 |[]=>true
 |_::_=>false
def FD:PV->PV->PH->Rs PV:=λx y h=>match x,y with
 |.int i,.int j=>.ok (.int (i+j)) h
 |.str i,.str j=>if i.length+j.length<=OR then .ok (.str (i++j)) h else .bad
 |.tup xs,.tup ys=>if Jd xs=false/\xs.length+ys.length<=OR then .ok (.tup (xs++ys)) h else .bad
 |.ref a,.ref b=>match bV h a,bV h b with
  |some xs,some ys=>if xs.length+ys.length<=OR then .ok (.ref h.length) (h++[.lst (xs++ys)]) else .bad
  |_,_=>.bad
 |_,_=>.bad
theorem post.ite{c:Prop}[Decidable c]{r:Rs PV}{Q:VK}(h:post C φ H (if c then r else .bad) Q):c/\post C φ H r Q:=by
 by_cases hc:c
 ·rw[if_pos hc]at h;exact⟨hc,h⟩
 ·rw[if_neg hc]at h;exact h.elim
theorem post.lnew{Q:VK}(q:post C φ H (.ok (.ref h.length) (h++[.lst xs])) Q)(rh:RH C φ H h)(r:RVs C φ H xs vs){p:Addr}(hp:H p=none):Q (.ref p) (upd H p (.lst vs)):=
 q (φ++[p]) (.ref p) _ (PP _ _) (Kp.new hp) (rh.new hp ⟨vs,bC,r.mono (PP _ _) (Kp.new hp)⟩) ⟨p,rfl,by rw[<-rh.len];simp⟩
theorem post.tnew{Q:VK}(q:post C φ H (.ok (.tup xs) h) Q)(rh:RH C φ H h)(r:RVs C φ H xs vs){p:Addr}(hp:H p=none):Q (.ref p) (upd H p (.tup vs)):=
 q φ (.ref p) _ OT (Kp.new hp) (rh.aside hp) ⟨p,vs,rfl,SqT.of bC,r.mono OT (Kp.new hp)⟩
theorem post.lset{v:V}{ws:List V}{Q:VK}(q:post C φ H (.ok p (h.set n (.lst xs))) Q)(rh:RH C φ H h)(e:φ[n]?=some a)(hl:H a=some (.lst ws))(r:RVs C φ H xs vs)(rv:RV C φ H p v):Q v (upd H a (.lst vs)):=
 q φ v _ OT (Kp.lst hl) (rh.write e (by rw[hl];trivial) ⟨vs,bC,r.mono OT (Kp.lst hl)⟩) (rv.mono OT (Kp.lst hl))
theorem FF(r:RVs C φ H xs vs)(h:Jd xs=false):vs≠[]:=by
 cases xs with
 |nil=>cases h
 |cons x xs=>
  cases vs with
  |nil=>exact r.elim
  |cons=>intro z;cases z
theorem Ml:OpS C k X (Qe .Add) FD:=λc=>(HF C.K c.K).imp λx y H Q h=>by
 obtain⟨φ,h,p,q,rh,rx,ry,po⟩:=h;unfold FD at po;cases p with
 |int i=>
  cases q with
  |int j=>cases rx;cases ry;exact po.val rh rfl
  |_=>exact po.elim
 |str i=>
  cases q with
  |str j=>cases rx;cases ry;exact⟨po.ite.1,po.ite.2.val rh rfl⟩
  |_=>exact po.elim
 |tup xs=>
  cases q with
  |tup ys=>
   obtain⟨a,vs,rfl,sa,ra⟩:=rx;obtain⟨b,us,rfl,sb,rb⟩:=ry;obtain⟨⟨h1,h2⟩,po⟩:=po.ite;refine .inr ⟨a,b,vs,us,rfl,rfl,sa,sb,FF ra h1,by rw[<-ra.length,<-rb.length];exact h2,λz=>?_,λz p hp=>po.tnew rh (ra.append rb) hp⟩;subst z;have e:ys=[]:=QU rb.length;subst e;exact po.val rh ⟨a,vs,rfl,sa,by rw[List.append_nil];exact ra⟩
  |_=>exact po.elim
 |ref n=>
  cases q with
  |ref m=>
   obtain⟨a,rfl,ha⟩:=rx;obtain⟨b,rfl,hb⟩:=ry;dsimp only at po;cases e1:bV h n with
   |none=>rw[e1]at po;exact po.elim
   |some xs=>
    cases e2:bV h m with
    |none=>rw[e1,e2]at po;exact po.elim
    |some ys=>
     rw[e1,e2]at po;obtain⟨vs,h1,r1⟩:=rh.at' n a _ ha (iG e1);obtain⟨us,h2,r2⟩:=rh.at' m b _ hb (iG e2);obtain⟨hz,po⟩:=po.ite;exact .inl ⟨a,b,vs,us,rfl,rfl,h1,h2,by rw[<-r1.length,<-r2.length];exact hz,λp hp=>po.lnew rh (r1.append r2) hp⟩
  |_=>exact po.elim
 |_=>exact po.elim
def vInt(P:Int->Int->Prop)[∀i j,Decidable (P i j)](f:Int->Int->Int):PV->PV->PH->Rs PV:=λx y h=>match x,y with
 |.int i,.int j=>if P i j then .ok (.int (f i j)) h else .bad
 |_,_=>.bad
theorem Aq{P:Int->Int->Prop}[∀i j,Decidable (P i j)]{g:Int->Int->Int}(ho:OpR X f (vV P g)):OpS C k X f (vInt P g):=λc=>ho.imp λx y H Q h=>by
 obtain⟨φ,h,p,q,rh,rx,ry,po⟩:=h;unfold vInt at po;cases p with
 |int i=>
  cases q with
  |int j=>cases rx;cases ry;exact⟨po.ite.1,po.ite.2.val rh rfl⟩
  |_=>exact po.elim
 |_=>exact po.elim
noncomputable instance(i j:Int):Decidable (A4 i j):=Qg _
noncomputable instance(i j:Int):Decidable (EV i j):=Qg _
noncomputable instance(i j:Int):Decidable (DD i j):=Qg _
def iX:PV->PV->PH->Rs PV:=λx y h=>match x,y with
 |.int i,.int j=>.ok (.int (i-j)) h
 |_,_=>.bad
theorem Mm:OpS C k X (Qe .Sub) iX:=λc=>HG.imp λx y H Q h=>by
 obtain⟨φ,h,p,q,rh,rx,ry,po⟩:=h;unfold iX at po;cases p with
 |int i=>
  cases q with
  |int j=>cases rx;cases ry;exact po.val rh rfl
  |_=>exact po.elim
 |_=>exact po.elim
noncomputable abbrev fU:=vInt A4 λi j=>i*j
noncomputable abbrev Kr:=vInt EV λi j=>i/j
abbrev bT:=vInt (λ_ j=>0<j) λi j=>i%j
noncomputable abbrev sR:=vInt DD λi j=>i ^ j.toNat
theorem Mn:OpS C k X (Qe .Mult) fU:=Aq HH
theorem Mp:OpS C k X (Qe .FloorDiv) Kr:=Aq HJ
theorem Mq:OpS C k X (Qe .Mod) bT:=Aq HK
theorem Mr:OpS C k X (Qe .Pow) sR:=Aq HL
def Ar:PV->PH->Rs PV:=λx h=>match x with
 |.int i=>.ok (.int (-i)) h
 |_=>.bad
open PySem PySem.Spec PyProof.Rows
variable{C:MC}{k:Nat}{X:Cx}
def BQ(f:Int->Int->Bool)(g:List Nat->List Nat->Bool):PV->PV->PH->Rs PV:=λx y h=>match x,y with
 |.int i,.int j=>.ok (.bl (f i j)) h
 |.str i,.str j=>.ok (.bl (g i.cps.toList j.cps.toList)) h
 |_,_=>.bad
theorem FG{p:Int->Int->Bool}(ho:OpR X f (Ab p g)):OpS C k X f (BQ p g):=λc=>ho.imp λx y H Q h=>by
 obtain⟨φ,h,p,q,rh,rx,ry,po⟩:=h;unfold BQ at po;cases p with
 |int i=>
  cases q with
  |int j=>cases rx;cases ry;exact po.val rh rfl
  |_=>exact po.elim
 |str i=>
  cases q with
  |str j=>cases rx;cases ry;exact po.val rh rfl
  |_=>exact po.elim
 |_=>exact po.elim
abbrev vLt:=BQ (λi j=>decide (i<j)) λi j=>decide (i<j)
abbrev vGt:=BQ (λi j=>decide (j<i)) λi j=>decide (j<i)
abbrev vLe:=BQ (λi j=>decide (i<=j)) λi j=>!decide (j<i)
theorem O8:OpS C k X (Pn .Lt) vLt:=FG K8
theorem O9:OpS C k X (Pn .Gt) vGt:=FG K9
theorem O':OpS C k X (Pn .LtE) vLe:=FG K'
mutual
def PV.d:PV->Option D
 |.non=>some .non
 |.bl b=>some (.bl b)
 |.int i=>some (.int i)
 |.str x=>some (.str x)
 |.tup xs=>match PV.ds xs with
  |some ds=>some (.tup ds)
  |none=>none
 |.ref _=>none
 |.ty _=>none
 |.fl _=>none
def PV.ds:List PV->Option (List D)
 |[]=>some []
 |x::xs=>match PV.d x,PV.ds xs with
  |some d,some ds=>some (d::ds)
  |_,_=>none
end
mutual
theorem RV.rep:∀{x:PV}{d:D}{v:V},RV C φ H x v->x.d=some d->Rep C.K H d v
 |.non,_,_,h,e=>by cases e;exact h
 |.bl _,_,_,h,e=>by cases e;exact h
 |.int _,_,_,h,e=>by cases e;exact h
 |.str _,_,_,h,e=>by cases e;exact h
 |.tup xs,d,v,⟨a,vs,e1,q,r⟩,e=>by
  unfold PV.d at e;cases e2:PV.ds xs with
  |none=>rw[e2]at e;cases e
  |some ds=>
   rw[e2]at e;cases e
   exact⟨a,vs,e1,q,RVs.reps r e2⟩
 |.ref _,_,_,_,e=>by cases e
 |.ty _,_,_,_,e=>by cases e
 |.fl _,_,_,_,e=>by cases e
theorem RVs.reps:∀{xs:List PV}{ds:List D}{vs:List V},RVs C φ H xs vs->PV.ds xs=some ds->cH C.K H ds vs
 |[],_,[],_,e=>by cases e;trivial
 |x::xs,_,v::vs,⟨h,r⟩,e=>by
  unfold PV.ds at e;cases e1:PV.d x with
  |none=>rw[e1]at e;cases e
  |some d=>
   cases e2:PV.ds xs with
   |none=>rw[e1,e2]at e;cases e
   |some ds=>
    rw[e1,e2]at e;cases e
    exact⟨RV.rep h e1,RVs.reps r e2⟩
 |[],_,_::_,h,_=>h.elim
 |_::_,_,[],h,_=>h.elim
end
def yH(x y:PV)(h:PH):Option Bool:=match x.d,y.d with
 |some d,some e=>if d.depth<=40 then some (eqD d e) else none
 | _,_=>match mI x h,mI y h with
   |some xs,some ys=>match PV.ds xs,PV.ds ys with
    |some ds,some es=>if D.depths ds<=40 then some (fB ds es) else none
    |_,_=>none
   |_,_=>none
def ofB(o:Option Bool)(h:PH):Rs PV:=match o with
 |some b=>.ok (.bl b) h
 |none=>.bad
def vEq:PV->PV->PH->Rs PV:=λx y h=>ofB (yH x y h) h
def vNe:PV->PV->PH->Rs PV:=λx y h=>ofB ((yH x y h).map not) h
set_option tactic.hygienic true in
theorem sS{q:PV}{x:V}{b:Bool}(rh:RH C φ H h)(rx:RV C φ H p x)(ry:RV C φ H q y)(e:yH p q h=some b):
  (∃d e,Rep C.K H d x/\Rep C.K H e y/\d.depth<=40/\b=eqD d e)\/(∃ds es,DQ C.K H ds x/\DQ C.K H es y/\D.depths ds<=40/\b=fB ds es):=by
 unfold yH at e;split at e
 ·rename_i d e' h1 h2;split at e
  ·rename_i hd;cases e
   exact .inl ⟨d,e',rx.rep h1,ry.rep h2,hd,rfl⟩
  ·cases e
 ·split at e
  ·rename_i xs ys h1 h2;split at e
   ·rename_i ds es h3 h4;split at e
    ·rename_i hd;cases e
     obtain⟨a',vs,rfl,sa,ra⟩:=sQ rh rx h1;obtain⟨xr,us,rfl,sb,rb⟩:=sQ rh ry h2;exact .inr ⟨ds,es,⟨a',vs,rfl,sa,ra.reps h3⟩,⟨xr,us,rfl,sb,rb.reps h4⟩,hd,rfl⟩
    ·cases e
   ·cases e
  ·cases e
theorem post.ofB{o:Option Bool}{Q:VK}(q:post C φ H (ofB o h) Q):∃b,o=some b/\post C φ H (.ok (.bl b) h) Q:=by
 cases o with
 |none=>exact q.elim
 |some b=>exact⟨b,rfl,q⟩
theorem Oa:OpS C k X (Pn .Eq) vEq:=λc=>((Ke c.hu64 C.K c.K).or (Kg c.hu64 C.K c.K)).imp λx y H Q h=>by
 obtain⟨φ,h,p,q,rh,rx,ry,po⟩:=h;obtain⟨b,e,po⟩:=po.ofB;rcases sS rh rx ry e with⟨d,e',h1,h2,h3,rfl⟩|⟨d,e',h1,h2,h3,rfl⟩
 ·exact .inl ⟨d,e',h1,h2,h3,po.val rh rfl⟩
 ·exact .inr ⟨d,e',h1,h2,h3,po.val rh rfl⟩
theorem Ob:OpS C k X (Pn .NotEq) vNe:=λc=>((Kf c.hu64 C.K c.K).or (Kh c.hu64 C.K c.K)).imp λx y H Q h=>by
 obtain⟨φ,h,p,q,rh,rx,ry,po⟩:=h;obtain⟨b,e,po⟩:=po.ofB;cases e0:yH p q h with
 |none=>rw[e0]at e;cases e
 |some b'=>
  rw[e0]at e;cases e
  rcases sS rh rx ry e0 with⟨d,e',h1,h2,h3,rfl⟩|⟨d,e',h1,h2,h3,rfl⟩
  ·exact .inl ⟨d,e',h1,h2,h3,po.val rh rfl⟩
  ·exact .inr ⟨d,e',h1,h2,h3,po.val rh rfl⟩
def oH:PV->Option Key
 |.int i=>some (.inl i)
 |.str x=>some (.inr x)
 |_=>none
def cA{κ:Type}[DecidableEq κ]:List (κ×PV)->κ->Option PV
 |[],_=>none
 |(a,p)::r,b=>if a=b then some p else cA r b
def yI(h:PH)(n:Nat)(x:PV):Option (Option PV):=match h[n]? with
 |some (.dK kvs)=>match oH x with
  |some key=>some (cA kvs key)
  |none=>none
 |_=>none
def sU(x:PV)(ys:List PV):Option Bool:=match x.d,PV.ds ys with
 |some d,some ds=>if D.depths ds<=40 then some (ds.any λe=>eqD e d) else none
 |_,_=>none
def BR(x y:PV)(h:PH):Option Bool:=match y with
 |.tup ys=>sU x ys
 |.ref n=>match aO h n with
  |some ys=>sU x ys
  |none=>(yI h n x).map Option.isSome
 |.fl ys=>sU x ys
 |_=>none
def vIn:PV->PV->PH->Rs PV:=λx y h=>ofB (BR x y h) h
def sV:PV->PV->PH->Rs PV:=λx y h=>ofB ((BR x y h).map not) h
variable{key:Key}
theorem sW{x:PV}{v:V}(r:RV C φ H x v)(e:oH x=some key):v=kV key:=by
 cases x <;> first|(cases e;exact r)|cases e
theorem pO{κ:Type}[DecidableEq κ]{kvs:List (κ×PV)}{ks:List (κ×V)}(r:RKv C φ H kvs ks)(a:κ):match cA kvs a,iD ks a with
  |some p,some v=>RV C φ H p v
  |none,none=>True
  |_,_=>False:=by
 unfold RKv at r
 induction r with
 |nil=>trivial
 | @cons p q ps qs h t ih=>
  obtain⟨h1,h2⟩:=h;obtain⟨pk,pv⟩:=p
  by_cases e:pk=a
  ·have e':q.1=a:=h1.symm.trans e;rw[nS e'];unfold cA;rw[if_pos e];exact h2
  ·have e':¬ q.1=a:=λz=>e (h1.trans z);rw[nU e'];unfold cA;rw[if_neg e];exact ih
set_option tactic.hygienic true in
theorem mT{x:PV}{v:V}{o:Option PV}(rh:RH C φ H h)(ha:φ[n]?=some a)(rv:RV C φ H x v)(e:yI h n x=some o):
  ∃o',mQ H a v o'/\o.isSome=o'.isSome/\∀p,o=some p->∃w,o'=some w/\RV C φ H p w:=by
 unfold yI at e;split at e
 ·rename_i kvs hk;split at e
  ·rename_i key c6;cases e
   obtain⟨ks,hH,rk⟩:=rh.at' n a _ ha hk;have q:=pO rk key;rw[sW rv c6];refine⟨iD ks key,mQ.k hH,?_,λp hp=>?_⟩
   ·cases e1:cA kvs key <;> cases e2:iD ks key <;> rw[e1,e2]at q <;> first|rfl|exact q.elim
   ·rw[hp]at q;cases e2:iD ks key with
    |none=>rw[e2]at q;exact q.elim
    |some w=>rw[e2]at q;exact⟨w,rfl,q⟩
  ·cases e
 ·cases e
set_option tactic.hygienic true in
theorem sX{q:PV}{x:V}{b:Bool}(rh:RH C φ H h)(rx:RV C φ H p x)(ry:RV C φ H q y)(e:BR p q h=some b):
  (∃d a ds vs,y=.ref a/\(SqL C.K H a vs\/SqT C.K H a vs)/\Rep C.K H d x/\cH C.K H ds vs/\D.depths ds<=40/\b=ds.any λe=>eqD e d)\/∃a o,y=.ref a/\mQ H a x o/\b=o.isSome:=by
 have go:∀{a:Addr}{vs:List V}{ys:List PV},(SqL C.K H a vs\/SqT C.K H a vs)->RVs C φ H ys vs->sU p ys=some b->∃d a' ds vs,V.ref a=.ref a'/\(SqL C.K H a' vs\/SqT C.K H a' vs)/\Rep C.K H d x/\cH C.K H ds vs/\D.depths ds<=40/\b=ds.any λe=>eqD e d:=by
  intro a vs ys hs hr he;unfold sU at he;split at he
  ·rename_i d ds h1 h2;split at he
   ·rename_i hd;cases he
    exact⟨d,a,ds,vs,rfl,hs,rx.rep h1,hr.reps h2,hd,rfl⟩
   ·cases he
  ·cases he
 unfold BR at e;split at e
 ·obtain⟨a,vs,rfl,sa,ra⟩:=ry;exact .inl (go (.inr sa) ra e)
 ·rename_i n;obtain⟨a,rfl,ha⟩:=ry;split at e
  ·rename_i ys hl;obtain⟨a2,vs,aw,sa,ra⟩:=bZ rh hl;rw[ha]at aw;cases aw;exact .inl (go (.inl sa) ra e)
  ·cases e':yI h n p with
   |none=>rw[e']at e;cases e
   |some o=>
    rw[e']at e;cases e
    obtain⟨o',g,i,_⟩:=mT rh ha rx e';exact .inr ⟨a,o',rfl,g,i⟩
 ·obtain⟨a,vs,rfl,sa,ra⟩:=ry;exact .inl (go (.inl sa.sq) ra e)
 ·cases e
theorem Oc:OpS C k X (Pn .In) vIn:=λc=>((Ki c.hu64 C.K c.K).or (Ka c.hu C.K c.K)).imp λx y H Q h=>by
 obtain⟨φ,h,p,q,rh,rx,ry,po⟩:=h;obtain⟨b,e,po⟩:=po.ofB;rcases sX rh rx ry e with⟨d,a,ds,vs,rfl,h1,h2,h3,h4,rfl⟩|⟨a,o,rfl,g,rfl⟩
 ·exact .inl ⟨d,a,ds,vs,rfl,h1,h2,h3,h4,po.val rh rfl⟩
 ·exact .inr (.inr ⟨a,o,rfl,g,po.val rh rfl⟩)
theorem HY:OpS C k X (Pn .NotIn) sV:=λc=>((DR c.hu64 C.K c.K).or (DO c.hu C.K c.K)).imp λx y H Q h=>by
 obtain⟨φ,h,p,q,rh,rx,ry,po⟩:=h;obtain⟨b,e,po⟩:=po.ofB;cases e':BR p q h with
 |none=>rw[e']at e;cases e
 |some b'=>
  rw[e']at e;cases e
  rcases sX rh rx ry e' with⟨d,a,ds,vs,rfl,h1,h2,h3,h4,rfl⟩|⟨a,o,rfl,g,rfl⟩
  ·exact .inl ⟨d,a,ds,vs,rfl,h1,h2,h3,h4,po.val rh rfl⟩
  ·exact .inr (.inr ⟨a,o,rfl,g,po.val rh rfl⟩)
def BS:PV->Bool
 |.non=>true
 |_=>false
def vIs:PV->PV->PH->Rs PV:=λx y h=>match y with
 |.non=>.ok (.bl (BS x)) h
 |.bl b=>match x with
  |.bl a=>.ok (.bl (a == b)) h
  |_=>.bad
 |_=>.bad
theorem RV.isNon{v:V}(r:RV C φ H p v):decide (v=.non)=BS p:=by
 cases p with
 |non=>cases r;rfl
 |tup xs=>obtain⟨a,vs,rfl,_⟩:=r;rfl
 |ref n=>obtain⟨a,rfl,_⟩:=r;rfl
 |fl xs=>obtain⟨a,vs,rfl,_⟩:=r;rfl
 |_=>cases r;rfl
theorem Od:OpS C k X (Pn .Is) vIs:=λc=>(JQ.or (λpins s σ H x y v u Q I rx ry(h:∃a b,x=.bl a/\y=.bl b/\Q (.bl (a == b)) H)=>by
  obtain⟨a,b,rfl,rfl,q⟩:=h;cases rx;cases ry;exact PyProof.Rows.is_bool ⟨.bl _,H,I,rfl,q⟩)).imp λx y H Q h=>by
 obtain⟨φ,h,p,q,rh,rx,ry,po⟩:=h;unfold vIs at po;cases q with
 |non=>
  cases ry
  refine .inl ⟨rfl,?_⟩;rw[rx.isNon];exact po.val rh rfl
 |bl b=>
  cases p with
  |bl a=>cases rx;cases ry;exact .inr ⟨a,b,rfl,rfl,po.val rh rfl⟩
  |_=>exact po.elim
 |_=>exact po.elim
def tru(x:PV)(h:PH):Rs Bool:=match x with
 |.non=>.ok false h
 |.bl b=>.ok b h
 |.int i=>.ok (i != 0) h
 |.str y=>if y.length<=OR then .ok ((y.length:Int) != 0) h else .bad
 |.tup xs=>.ok (!xs.isEmpty) h
 |.ref n=>match aO h n with
  |some xs=>.ok (!xs.isEmpty) h
  |none=>match h[n]? with
   |some (.dK kvs)=>.ok (!kvs.isEmpty) h
   |_=>.bad
 |.fl xs=>.ok (!xs.isEmpty) h
 |.ty _=>.bad
theorem RVs.isEmpty(r:RVs C φ H xs vs):(!vs.isEmpty)=!xs.isEmpty:=by
 cases xs <;> cases vs <;> first|rfl|exact r.elim
theorem bL.ite{c:Prop}[Decidable c]{r:Rs Bool}{Q:Bool->Hp->Prop}(h:bL C φ H (if c then r else .bad) Q):c/\bL C φ H r Q:=by
 by_cases hc:c
 ·rw[if_pos hc]at h;exact⟨hc,h⟩
 ·rw[if_neg hc]at h;exact h.elim
theorem bL.val{b:Bool}{Q:Bool->Hp->Prop}(q:bL C φ H (.ok b h) Q)(rh:RH C φ H h):Q b H:=q φ H OT (Kp.refl H) rh
set_option tactic.hygienic true in
theorem E8{v:V}{Q:Bool->Hp->Prop}(rh:RH C φ H h)(rv:RV C φ H p v)(po:bL C φ H (tru p h) Q):∃b,Bw C.K v H b/\Q b H:=by
 unfold tru at po;cases p with
 |non=>cases rv;exact⟨_,rfl,po.val rh⟩
 |bl b=>cases rv;exact⟨_,rfl,po.val rh⟩
 |int i=>cases rv;exact⟨_,rfl,po.val rh⟩
 |str y=>cases rv;exact⟨_,⟨po.ite.1,rfl⟩,po.ite.2.val rh⟩
 |tup xs=>
  obtain⟨a,vs,rfl,sa,ra⟩:=rv;exact⟨_,.inr (.inl ⟨vs,sa,rfl⟩),by rw[ra.isEmpty];exact po.val rh⟩
 |ref n=>
  obtain⟨a,rfl,ha⟩:=rv;dsimp only at po;cases e:aO h n with
  |some xs=>
   rw[e]at po;obtain⟨a2,vs,aw,sa,ra⟩:=bZ rh e;rw[ha]at aw;cases aw;exact⟨_,.inl ⟨vs,sa,rfl⟩,by rw[ra.isEmpty];exact po.val rh⟩
  |none=>
   rw[e]at po;dsimp only at po;split at po
   ·rename_i kvs hk;obtain⟨ks,hH,rk⟩:=rh.at' n a _ ha hk;refine⟨_,.inr (.inr ⟨ks,hH,rfl⟩),?_⟩;have:(!ks.isEmpty)=!kvs.isEmpty:=by cases rk <;> rfl
    rw[this];exact po.val rh
   ·exact po.elim
 |fl xs=>
  obtain⟨a,vs,rfl,sa,ra⟩:=rv;exact⟨_,.inl ⟨vs,sa.sq,rfl⟩,by rw[ra.isEmpty];exact po.val rh⟩
 |ty n=>exact po.elim
open PySem PySem.Spec PyProof.Rows
variable{C:MC}{k:Nat}{X:Cx}
def aP(m:Me):Ev->PH->Rs Bool:=λδ h=>(m δ h).bind tru
variable{m:Me}
theorem BU{σ:St}{Q:Bool->Hp->Prop}(h:rdB C (aP m) σ H Q):rd C m σ H λv H1=>∃b,Bw C.K v H1 b/\Q b H1:=by
 obtain⟨φ,δ,h,rh,re,p⟩:=h;refine⟨φ,δ,h,rh,re,(post.bindB p).imp ?_⟩;rintro v H1 ⟨φ1,x,h1,p1,t1,aa,af,q1⟩;exact E8 aa af q1
variable{mc:Me}{c':Expr}{c8:CmpOp}
section
variable{a:Expr}{g g':PV->PV->PH->Rs PV}{ta tb:Ev->PH->Rs Bool}
theorem Mt(h:SE C k X e m)(he:∀whole,isTrue e X.env whole=(do let v <-whole;standAt e.pos;holding [v] (truthy v)):=by intro _;rfl):ST C k X e (aP m):=λc=>
 (F0 (h c) he).imp λσ H Q q=>by rw[c.K];exact BU q
theorem Mu(ho:OpS C k X (Pn op) g)(ha:SE C k X a ma)(hb:SE C k X b mb)(hm:behindInMarks op b=false:=by first|exact EW _|rfl):ST C k X (.Compare a [op] [b] pos) (aP (aB g ma mb)):=λc=>by
 intro pins s σ H Q I h;have h:=CP (BU h);refine wpAny_isTrue_Compare1 (thn (ha c pins s σ H _ I h) λv s1 ⟨x,H1,I1,r1,q1⟩=>thn (hb c pins s1 σ H1 _ I1 q1) λu s2 ⟨y,H2,I2,r2,q2⟩=>
  thn (ho c pins s2 σ H2 x y v u _ I2 r1 r2 q2) λw s3 ⟨z,H3,I3,r3,q3⟩=>?_) hm
 rw[<-c.K]at q3;exact EZ pins s3 σ H3 z w Q I3 r3 q3
def FH(z:PV)(h:PH):Rs PV:=match z with
 |.bl b=>.ok (.bl b) h
 |_=>.bad
def uT(g g':PV->PV->PH->Rs PV)(ma mb mc:Me):Me:=λδ h=>(ma δ h).bind λx h1=>(mb δ h1).bind λy h2=>(g x y h2).bind λz h3=>match z with
 |.bl true=>(mc δ h3).bind λw h4=>(g' y w h4).bind FH
 |.bl false=>.ok (.bl false) h3
 |_=>.bad
theorem FI{σ:St}{Q:VK}(h:rd C (uT g g' ma mb mc) σ H Q):Bv (r2 C g) (r2 C g') (rd C ma) (rd C mb) (rd C mc) σ H λv H1=>∃b,v=.bl b/\Q v H1:=by
 obtain⟨φ,δ,h,rh,re,p⟩:=h;refine⟨φ,δ,h,rh,re,(post.bind p).imp ?_⟩;rintro v H1 ⟨φ1,x,h1,p1,t1,aa,af,q1⟩;refine⟨φ1,δ,h1,aa,re.mono p1 t1,(post.bind q1).imp ?_⟩;rintro u H2 ⟨φ2,y,h2,p2,t2,aj,ax,q2⟩;refine⟨φ2,h2,x,y,aj,af.mono p2 t2,ax,(post.bind q2).imp ?_⟩;rintro w H3 ⟨φ3,z,h3,p3,t3,c5,i7,q3⟩;cases z with
 |bl b=>
  cases i7
  refine⟨b,rfl,?_⟩;cases b with
  |false=>exact BE ⟨false,rfl,q3.val c5 rfl⟩
  |true=>
   refine BF ⟨φ3,δ,h3,c5,re.mono ((p1.trans p2).trans p3) ((t1.trans t2).trans t3),(post.bind q3).imp ?_⟩;rintro w4 H4 ⟨φ4,z4,h4,p4,t4,rh4,rv4,q4⟩;refine⟨φ4,h4,y,z4,rh4,ax.mono (p3.trans p4) (t3.trans t4),rv4,(post.bind q4).imp ?_⟩;rintro w5 H5 ⟨φ5,z5,h5,p5,t5,rh5,rv5,q5⟩;cases z5 with
   |bl b=>cases rv5;exact⟨b,rfl,q5.val rh5 rfl⟩
   |_=>exact q5.elim
 |_=>exact q3.elim
theorem Mv(ho:OpS C k X (Pn op) g)(b7:OpS C k X (Pn c8) g')(ha:SE C k X a ma)(hb:SE C k X b mb)(hc:SE C k X c' mc)(hm:lastMarks [op,c8] [b,c']=false:=by with_unfolding_all rfl):
  SE C k X (.Compare a [op,c8] [b,c'] pos) (uT g g' ma mb mc):=λc=>by
 intro pins s σ H Q I h;refine Qj (EX (ho c) (b7 c) (ha c) (hb c) (hc c) hm pins s σ H _ I (FI h)) (λv s1 ⟨x,H1,I1,r1,b,e,q⟩=>⟨x,H1,I1,r1,q⟩) λ_ _ z=>z
theorem Mw(ho:OpS C k X (Pn op) g)(b7:OpS C k X (Pn c8) g')(ha:SE C k X a ma)(hb:SE C k X b mb)(hc:SE C k X c' mc)(hm:lastMarks [op,c8] [b,c']=false:=by with_unfolding_all rfl):
  ST C k X (.Compare a [op,c8] [b,c'] pos) (aP (uT g g' ma mb mc)):=λc=>by
 intro pins s σ H Q I h;have h':=FI (BU h);refine Qj (EY (ho c) (b7 c) (ha c) (hb c) (hc c) hm pins s σ H (λb H1=>∃b',Bw C.K (.bl b) H1 b'/\Q b' H1) I ?_) (λb s1 ⟨H1,I1,b',(e:b'=b),q⟩=>⟨H1,I1,by rw[<-e];exact q⟩) λ_ _ z=>z;obtain⟨φ,δ,hh,rh,re,p⟩:=h';refine⟨φ,δ,hh,rh,re,p.imp ?_⟩;rintro v H1 ⟨φ1,δ1,h1,aa,sx,p1⟩;refine⟨φ1,δ1,h1,aa,sx,p1.imp ?_⟩;rintro u H2 ⟨φ2,h2,x,y,aj,rx,ry,p2⟩;refine⟨φ2,h2,x,y,aj,rx,ry,p2.imp ?_⟩;rintro w H3 ⟨b,e,p3⟩;refine⟨b,e,?_⟩;cases b with
 |false=>
  have:∃b,V.bl false=V.bl b/\∃b_1,Bw C.K (V.bl false) H3 b_1/\Q b_1 H3:=by simpa using p3
  obtain⟨b,e1,q⟩:=this;exact BE ⟨false,rfl,q⟩
 |true=>
  have p3:rd C mc σ H3 λw' H4=>r2 C g' u w' H4 λv H1=>∃b,v=V.bl b/\∃b_1,Bw C.K v H1 b_1/\Q b_1 H1:=by simpa using p3
  obtain⟨φ3,δ3,h3,c5,mf,p3⟩:=p3;refine BF ⟨φ3,δ3,h3,c5,mf,p3.imp ?_⟩;rintro w4 H4 ⟨φ4,h4,x4,y4,rh4,rx4,ry4,p4⟩;refine⟨φ4,h4,x4,y4,rh4,rx4,ry4,p4.imp ?_⟩;rintro w5 H5 ⟨b,rfl,q⟩;exact⟨b,rfl,q⟩
def qO(t:Ev->PH->Rs Bool):Ev->PH->Rs Bool:=λδ h=>(t δ h).bind λb h1=>.ok (!b) h1
def qP(ta tb:Ev->PH->Rs Bool):Ev->PH->Rs Bool:=λδ h=>(ta δ h).bind λb h1=>match b with
 |true=>tb δ h1
 |false=>.ok false h1
def As(ta tb:Ev->PH->Rs Bool):Ev->PH->Rs Bool:=λδ h=>(ta δ h).bind λb h1=>match b with
 |true=>.ok true h1
 |false=>tb δ h1
theorem bL.imp{r:Rs Bool}{Q Q':Bool->Hp->Prop}(h:bL C φ H r Q)(i:∀v H',Q v H'->Q' v H'):bL C φ H r Q':=by
 cases r with
 |ok a h'=>exact λφ' H' p t rh=>i a H' (h φ' H' p t rh)
 |exc a h'=>exact h
 |bad=>exact h
theorem Mx(h:ST C k X e ta):ST C k X (.UnaryOp .Not e pos) (qO ta):=λc=>(JA (h c)).imp λσ H Q q=>by
 obtain⟨φ,δ,h,rh,re,p⟩:=q;refine⟨φ,δ,h,rh,re,(bL.bindB p).imp ?_⟩;rintro b H1 ⟨φ1,h1,p1,t1,aa,q1⟩;exact q1.val aa
def SW(C:MC)(k:Nat)(X:Cx)(e:Expr)(m:Ev->PH->Rs Bool):Prop:=Cxt C k X->PW X e (rdB C m)
theorem SW.t(h:SW C k X e ta):ST C k X e ta:=λc=>(h c).pt
theorem PW.imp{t t':TT}(h:PW X e t)(i:∀σ H Q,t' σ H Q->t σ H Q):PW X e t':=λw pins s σ H Q I q=>h w pins s σ H Q I (i σ H Q q)
theorem Ks(ha:ST C k X a ta):SW C k X (.BoolOp .And [a] pos) ta:=λc=>Hh (ha c)
theorem My(ha:ST C k X a ta):SW C k X (.BoolOp .Or [a] pos) ta:=λc=>Jy (ha c)
theorem w_and{rest:List Expr}(ha:ST C k X a ta)(hb:SW C k X (.BoolOp .And (b::rest) pos) tb):SW C k X (.BoolOp .And (a::b::rest) pos) (qP ta tb):=λc=>PW.imp (Jz (ha c) (hb c)) λσ H Q q=>by
 obtain⟨φ,δ,h,rh,re,p⟩:=q;refine⟨φ,δ,h,rh,re,(bL.bindB p).imp ?_⟩;rintro b H1 ⟨φ1,h1,p1,t1,aa,q1⟩;cases b with
 |true=>exact BF ⟨φ1,δ,h1,aa,re.mono p1 t1,q1⟩
 |false=>exact BE (q1.val aa)
theorem w_or{rest:List Expr}(ha:ST C k X a ta)(hb:SW C k X (.BoolOp .Or (b::rest) pos) tb):SW C k X (.BoolOp .Or (a::b::rest) pos) (As ta tb):=λc=>PW.imp (LB (ha c) (hb c)) λσ H Q q=>by
 obtain⟨φ,δ,h,rh,re,p⟩:=q;refine⟨φ,δ,h,rh,re,(bL.bindB p).imp ?_⟩;rintro b H1 ⟨φ1,h1,p1,t1,aa,q1⟩;cases b with
 |true=>exact BF (q1.val aa)
 |false=>exact BE ⟨φ1,δ,h1,aa,re.mono p1 t1,q1⟩
def mIf(t:Ev->PH->Rs Bool)(ma mb:Me):Me:=λδ h=>(t δ h).bind λb h1=>match b with
 |true=>ma δ h1
 |false=>mb δ h1
theorem HZ(ht:ST C k X c' ta)(ha:SE C k X a ma)(hb:SE C k X b mb):SE C k X (.IfExp c' a b pos) (mIf ta ma mb):=λc=>(EO (ht c) (ha c) (hb c)).imp λσ H Q q=>by
 obtain⟨φ,δ,h,rh,re,p⟩:=q;refine⟨φ,δ,h,rh,re,(bL.bind p).imp ?_⟩;rintro b H1 ⟨φ1,h1,p1,t1,aa,q1⟩;cases b with
 |true=>exact BF ⟨φ1,δ,h1,aa,re.mono p1 t1,q1⟩
 |false=>exact BE ⟨φ1,δ,h1,aa,re.mono p1 t1,q1⟩
end
theorem RVs.atI{i:Int}{x:PV}(r:RVs C φ H xs vs)(e:L2.atI xs i=some x):∃v,L2.atI vs i=some v/\RV C φ H x v:=by
 unfold L2.atI at e⊢;rw[<-r.length];cases q:ixN xs.length i with
 |none=>rw[q]at e;cases e
 |some j=>
  rw[q]at e;exact r.at e
def ofO(o:Option PV)(h:PH):Rs PV:=match o with
 |some p=>.ok p h
 |none=>.bad
def vIx:PV->PV->PH->Rs PV:=λx y h=>match x with
 |.str z=>(match y with
  |.int i=>if z.length<=OR then ofO ((atI z.cps.toList i).map λc=>.str ⟨#[c]⟩) h else .bad
  |_=>.bad)
 |.tup xs=>(match y with
  |.int i=>ofO (atI xs i) h
  |_=>.bad)
 |.fl xs=>(match y with
  |.int i=>ofO (atI xs i) h
  |_=>.bad)
 |.ref n=>(match aO h n with
  |some xs=>(match y with
   |.int i=>ofO (atI xs i) h
   |_=>.bad)
  |none=>(match yI h n y with
   |some o=>ofO o h
   |none=>.bad))
 |_=>.bad
theorem post.ofO{o:Option PV}{Q:VK}(q:post C φ H (ofO o h) Q):∃p,o=some p/\post C φ H (.ok p h) Q:=by
 cases o with
 |none=>exact q.elim
 |some b=>exact⟨b,rfl,q⟩
theorem Mz{x:V}{Q:VK}(h:r2 C vIx x y H Q):M6 C.K x y H Q:=by
 obtain⟨φ,h,p,q,rh,rx,ry,po⟩:=h;unfold vIx at po;cases p with
 |str z=>
  cases rx
  cases q with
  |int i=>
   cases ry
   obtain⟨hz,po⟩:=po.ite;obtain⟨p,e,po⟩:=po.ofO;cases e':atI z.cps.toList i with
   |none=>rw[e']at e;cases e
   |some c=>rw[e']at e;cases e;exact⟨hz,c,e',po.val rh rfl⟩
  |_=>exact po.elim
 |tup xs=>
  obtain⟨a,vs,rfl,sa,ra⟩:=rx;cases q with
  |int i=>
   cases ry
   obtain⟨p,e,po⟩:=po.ofO;obtain⟨v,hv,rv⟩:=ra.atI e;exact .inl ⟨vs,i,v,rfl,.inr sa,hv,po.val rh rv⟩
  |_=>exact po.elim
 |fl xs=>
  obtain⟨a,vs,rfl,sa,ra⟩:=rx;cases q with
  |int i=>
   cases ry
   obtain⟨p,e,po⟩:=po.ofO;obtain⟨v,hv,rv⟩:=ra.atI e;exact .inl ⟨vs,i,v,rfl,.inl sa.sq,hv,po.val rh rv⟩
  |_=>exact po.elim
 |ref n=>
  obtain⟨a,rfl,ha⟩:=rx;dsimp only at po;cases e:aO h n with
  |some xs=>
   rw[e]at po;obtain⟨a2,vs,aw,sa,ra⟩:=bZ rh e;rw[ha]at aw;cases aw;cases q with
   |int i=>
    cases ry
    obtain⟨p,e,po⟩:=po.ofO;obtain⟨v,hv,rv⟩:=ra.atI e;exact .inl ⟨vs,i,v,rfl,.inl sa,hv,po.val rh rv⟩
   |_=>exact po.elim
  |none=>
   rw[e]at po;dsimp only at po;cases e':yI h n q with
   |none=>rw[e']at po;exact po.elim
   |some o=>
    rw[e']at po;obtain⟨p,eo,po⟩:=po.ofO;obtain⟨o',g,_,hp⟩:=mT rh ha ry e';obtain⟨w,rfl,ay⟩:=hp p eo;exact .inr ⟨w,g,po.val rh ay⟩
 |_=>exact po.elim
variable{hi lo:Option Int}{vl vu:Value}
theorem mF{t sl:Addr}(ht:IsTup s.heap t items)(hs:s.heap.IsSliceOf sl vl vu .none)(pl:IsPart vl lo)(pu:IsPart vu hi)(hw:HT.sIx items.size 0 lo=0/\HT.sIx items.size items.size hi=items.size)(h:Q (.ref t) s):wpAny (model prog w) A (getItem (.ref t) (.ref sl)) Q E s:=by
 obtain⟨os,gu,nq,ju⟩:=id hs;have uh:s.TypeIs (.ref sl) "slice" := ⟨os,gu,nq⟩;unfold getItem
 try with_reducible refine Qf ?_
 first|refine ff (z8 ?_)|skip
 refine ff (wpAny_sequenceKey ht.typeIs (by decide) ?_);refine ff (Pz (name:=PJ "__getitem__") ht.typeIs PZ
  (PL PZ ht.typeIs entry_tuple_getitem ?_ (args_tuple_getitem _ _)))
 show wpAny _ _ (Sb (.ref t) >>= _) _ _ s
 refine ff (tupleItemsOf_ ht ?_);refine ff (Rt uh ?_);rw[if_pos (by decide)];refine ff (HT.sliceApplied_gen hs pl pu ?_);have qt:((((HT.sIx items.size 0 lo:Nat):Int) == 0&&(1:Int) == 1&&(HT.sIx items.size items.size hi-HT.sIx items.size 0 lo) == items.size)=true):=by
  rw[hw.1,hw.2];simp
 show wpAny _ _ (if(((HT.sIx items.size 0 lo:Nat):Int) == 0&&(1:Int) == 1&&(HT.sIx items.size items.size hi-HT.sIx items.size 0 lo) == items.size)=true then _ else _) _ _ s
 rw[if_pos qt];refine ff ?_;unfold Builtin.Tuple.tupleIsExact;refine ff (Rt ht.typeIs (z8 ?_));rw[if_pos (by decide)];refine ff (Rn ?_);exact z8 ⟨_,rfl,z8 h⟩
open PySem PySem.Spec PyProof.Rows
variable{C:MC}{k:Nat}{X:Cx}
def iY{α:Type}(xs:List α)(lo hi:Option Int):List α:=(xs.drop (HT.sIx xs.length 0 lo)).take (HT.sIx xs.length xs.length hi-HT.sIx xs.length 0 lo)
theorem RVs.cut(r:RVs C φ H xs vs)(lo hi:Option Int):RVs C φ H (iY xs lo hi) (A8 vs lo hi):=by
 unfold iY A8;rw[<-r.length];exact(r.drop _).take _
def vSl:PV->Option Int->Option Int->PH->Rs PV:=λx lo hi h=>match x with
 |.str z=>if z.length<=OR then .ok (.str (Rc z lo hi)) h else .bad
 |.tup xs=>.ok (.tup (iY xs lo hi)) h
 |.ref n=>match aO h n with
  |some xs=>.ok (.ref h.length) (h++[.lst (iY xs lo hi)])
  |none=>.bad
 |.fl xs=>.ok (.ref h.length) (h++[.lst (iY xs lo hi)])
 |_=>.bad
def MA(K:z9):V->Option Int->Option Int->Hp->VK->Prop:=λx lo hi H Q=>∃a xs,x=.ref a/\SqT K H a xs/\(HT.sIx xs.length 0 lo=0/\HT.sIx xs.length xs.length hi=xs.length)/\Q (.ref a) H
theorem FJ:SlR X (MA X.K):=by
 intro pins s σ H x v vl vu lo hi sl Q I rx hs pl pu h;obtain⟨a,xs,rfl,hx,hw,q⟩:=h;cases rx
 obtain⟨its,r,ht,hz⟩:=I.tuple hx;have hlen:its.toArray.size=xs.length:=by rw[OV];exact r.length.symm
 refine⟨"tuple",_,PZ.lookup,ht.typeIs,?_⟩;exact mF ht hs pl pu (by rw[hlen];exact hw) ⟨.ref a,H,I,rfl,q⟩
variable{r r':V->Option Int->Option Int->Hp->VK->Prop}
theorem SlR.imp(h:SlR X r)(i:∀x lo hi H Q,r' x lo hi H Q->r x lo hi H Q):SlR X r':=λpins s σ H x v vl vu lo hi sl Q I rx hs pl pu q=>h pins s σ H x v vl vu lo hi sl Q I rx hs pl pu (i x lo hi H Q q)
def r3(C:MC)(g:PV->Option Int->Option Int->PH->Rs PV):V->Option Int->Option Int->Hp->VK->Prop:=λx lo hi H Q=>∃φ h p,RH C φ H h/\RV C φ H p x/\post C φ H (g p lo hi h) Q
theorem Kt(hK:X.K=C.K):SlR X (r3 C vSl):=by
 have e:SlR X (λx lo hi H Q=>M4 x lo hi H Q\/LR C.K x lo hi H Q\/LV C.K x lo hi H Q\/MA C.K x lo hi H Q):=by rw[<-hK];exact K7.or (JV.or (Hx.or FJ))
 refine e.imp λx lo hi H Q h=>?_;obtain⟨φ,h,p,rh,rv,po⟩:=h;unfold vSl at po;cases p with
 |str z=>cases rv;exact .inl ⟨z,rfl,po.ite.1,po.ite.2.val rh rfl⟩
 |tup xs=>
  obtain⟨a,vs,rfl,sa,ra⟩:=rv
  by_cases hw:HT.sIx vs.length 0 lo=0/\HT.sIx vs.length vs.length hi=vs.length
  ·refine .inr (.inr (.inr ⟨a,vs,rfl,sa,hw,po.val rh ⟨a,vs,rfl,sa,?_⟩⟩));have e:iY xs lo hi=xs:=by
    unfold iY;rw[ra.length,hw.1,hw.2,List.drop_zero,Nat.sub_zero,<-ra.length,List.take_length]
   rw[e];exact ra
  ·exact .inr (.inl ⟨a,vs,rfl,sa,hw,λp hp=>po.tnew rh (ra.cut lo hi) hp⟩)
 |ref n=>
  obtain⟨a,rfl,ha⟩:=rv;dsimp only at po;cases e:aO h n with
  |none=>rw[e]at po;exact po.elim
  |some xs=>
   rw[e]at po;obtain⟨a2,vs,aw,sa,ra⟩:=bZ rh e;rw[ha]at aw;cases aw;exact .inr (.inr (.inl ⟨a,vs,rfl,sa,λp hp=>po.lnew rh (ra.cut lo hi) hp⟩))
 |fl xs=>
  obtain⟨a,vs,rfl,sa,ra⟩:=rv;exact .inr (.inr (.inl ⟨a,vs,rfl,sa.sq,λp hp=>po.lnew rh (ra.cut lo hi) hp⟩))
 |_=>exact po.elim
abbrev Mo:=Ev->PH->Rs (Option Int)
def qQ(C:MC)(φ:List Addr)(H:Hp)(r:Rs (Option Int))(Q:Option Int->Hp->Prop):Prop:=match r with
 |.ok b h=>∀φ' H',φ<+:φ'->Kp H H'->RH C φ' H' h->Q b H'
 |.exc x h=>∀φ' H',φ<+:φ'->Kp H H'->RH C φ' H' h->C.ex φ' H' x
 |.bad=>False
def rdO(C:MC)(m:Mo):TO:=λσ H Q=>∃φ δ h,RH C φ H h/\RE C φ H δ σ/\qQ C φ H (m δ h) Q
def SO(C:MC)(k:Nat)(X:Cx)(e:Option Expr)(m:Mo):Prop:=Cxt C k X->PO X e (rdO C m)
def mU:Mo:=λ_ h=>.ok none h
def mP(m:Me):Mo:=λδ h=>(m δ h).bind λx h1=>match x with
 |.int i=>.ok (some i) h1
 |_=>.bad
theorem Ku:SO C k X none mU:=λc pins s σ H Q I h=>by
 obtain⟨φ,δ,h,rh,re,p⟩:=h;exact Hu pins s σ H Q I (p φ H OT (Kp.refl H) rh)
theorem Kv(h:SE C k X e m):SO C k X (some e) (mP m):=λc pins s σ H Q I q=>by
 refine Fg (h c) pins s σ H Q I ?_;obtain⟨φ,δ,h,rh,re,p⟩:=q;refine⟨φ,δ,h,rh,re,?_⟩;unfold mP at p;cases e':m δ h with
 |ok x h1=>
  rw[e']at p;intro φ' v H' p' t' df bu;cases x with
  |int i=>cases bu;exact p φ' H' p' t' df
  |_=>exact p.elim
 |exc x h1=>rw[e']at p;exact p
 |bad=>rw[e']at p;exact p
def mSl(me:Me)(ml mh:Mo):Me:=λδ h=>(me δ h).bind λx h1=>(ml δ h1).bind λl h2=>(mh δ h2).bind λu h3=>vSl x l u h3
theorem qQ.bind{r:Rs (Option Int)}{f:Option Int->PH->Rs PV}{Q:VK}(h:post C φ H (r.bind f) Q):qQ C φ H r λb H1=>∃φ1 h1,φ<+:φ1/\Kp H H1/\RH C φ1 H1 h1/\post C φ1 H1 (f b h1) Q:=by
 cases r with
 |ok a h'=>exact λφ' H' p t rh=>⟨φ',h',p,t,rh,post.weak p t h⟩
 |exc a h'=>exact h
 |bad=>exact h
variable{Q':Option Int->Hp->Prop}
theorem qQ.imp{r:Rs (Option Int)}{Q:Option Int->Hp->Prop}(h:qQ C φ H r Q)(i:∀v H',Q v H'->Q' v H'):qQ C φ H r Q':=by
 cases r with
 |ok a h'=>exact λφ' H' p t rh=>i a H' (h φ' H' p t rh)
 |exc a h'=>exact h
 |bad=>exact h
variable{me:Me}{mh ml:Mo}{p2:Pos}
theorem Oe{lo hi:Option Expr}(he:SE C k X e me)(hl:SO C k X lo ml)(hh:SO C k X hi mh):SE C k X (.Subscript e (.Slice lo hi none p2) pos) (mSl me ml mh):=λc=>
 (F4 (Kt c.K) (he c) (hl c) (hh c)).imp λσ H Q h=>by
  obtain⟨φ,δ,h,rh,re,p⟩:=h;refine⟨φ,δ,h,rh,re,(post.bind p).imp ?_⟩;rintro v H1 ⟨φ1,x,h1,p1,t1,aa,af,q1⟩;refine⟨φ1,δ,h1,aa,re.mono p1 t1,(qQ.bind q1).imp ?_⟩;rintro l H2 ⟨φ2,h2,p2,t2,aj,q2⟩;refine⟨φ2,δ,h2,aj,re.mono (p1.trans p2) (t1.trans t2),(qQ.bind q2).imp ?_⟩;rintro u H3 ⟨φ3,h3,p3,t3,c5,q3⟩;exact⟨φ3,h3,x,c5,af.mono (p2.trans p3) (t2.trans t3),q3⟩
abbrev Ma:=Ev->PH->Rs (List PV)
def aC:Ma:=λ_ h=>.ok [] h
def aA(m:Me)(ms:Ma):Ma:=λδ h=>(m δ h).bind λx h1=>(ms δ h1).bind λxs h2=>.ok (x::xs) h2
theorem PA.imp{t t':TA}(h:PA X es t)(i:∀σ H Q,t' σ H Q->t σ H Q):PA X es t':=λpos pins s σ H Q I q=>h pos pins s σ H Q I (i σ H Q q)
theorem MB:SA C k X [] aC:=λc=>Bz.imp λσ H Q h=>by
 obtain⟨φ,δ,h,rh,re,p⟩:=h;exact p φ [] H OT (Kp.refl H) rh trivial
theorem postA.imp{r:Rs (List PV)}{Q Q':List V->Hp->Prop}(h:postA C φ H r Q)(i:∀v H',Q v H'->Q' v H'):postA C φ H r Q':=by
 cases r with
 |ok a h'=>exact λφ' v H' p t rh rv=>i v H' (h φ' v H' p t rh rv)
 |exc a h'=>exact h
 |bad=>exact h
variable{ms:Ma}
theorem Kw(he:SE C k X e m)(hs:SA C k X es ms)(hh:Pe (e::es) X.env=(false,eval e X.env)::Pe es X.env:=by rfl):SA C k X (e::es) (aA m ms):=λc=>(xP (he c) (hs c) hh).imp λσ H Q h=>by
 obtain⟨φ,δ,h,rh,re,p⟩:=h;refine⟨φ,δ,h,rh,re,(post.bindA p).imp ?_⟩;rintro v H1 ⟨φ1,x,h1,p1,t1,aa,af,q1⟩;refine⟨φ1,δ,h1,aa,re.mono p1 t1,(postA.bindA q1).imp ?_⟩;rintro vs H2 ⟨φ2,xs,h2,p2,t2,aj,ax,q2⟩;exact q2 φ2 (v::vs) H2 OT (Kp.refl H2) aj ⟨af.mono p2 t2,ax⟩
def cD(ms:Ma):Me:=λδ h=>(ms δ h).bind λxs h1=>if xs.length<=OR then .ok (.tup xs) h1 else .bad
def pP(ms:Ma):Me:=λδ h=>(ms δ h).bind λxs h1=>if xs.length<=OR then .ok (.ref h1.length) (h1++[.lst xs]) else .bad
theorem MD{x1}(hs:SA C k X es ms):SE C k X (.Tuple es x1 pos) (cD ms):=λc=>(JS (hs c)).imp λσ H Q h=>by
 obtain⟨φ,δ,h,rh,re,p⟩:=h;refine⟨φ,δ,h,rh,re,(postA.bind p).imp ?_⟩;rintro vs H1 ⟨φ1,xs,h1,p1,t1,aa,af,q1⟩;exact⟨by rw[<-af.length];exact q1.ite.1,λp hp=>q1.ite.2.tnew aa af hp⟩
theorem ME(hs:SA C k X es ms):SE C k X (.List es pos) (pP ms):=λc=>(JT (hs c)).imp λσ H Q h=>by
 obtain⟨φ,δ,h,rh,re,p⟩:=h;refine⟨φ,δ,h,rh,re,(postA.bind p).imp ?_⟩;rintro vs H1 ⟨φ1,xs,h1,p1,t1,aa,af,q1⟩;exact⟨by rw[<-af.length];exact q1.ite.1,λp hp=>q1.ite.2.lnew aa af hp⟩
def yJ:Me:=λ_ h=>.ok (.ref h.length) (h++[.dK []])
theorem I0:SE C k X (.Dict [] [] pos) yJ:=λc=>Fb.imp λσ H Q h=>by
 obtain⟨φ,δ,h,rh,re,p⟩:=h;intro a ha;exact p (φ++[a]) (.ref a) _ (PP _ _) (Kp.new ha) (rh.new ha ⟨[],bC,.nil⟩) ⟨a,rfl,by rw[<-rh.len];simp⟩
def mCB(g:List PV->PH->Rs PV)(ms:Ma):Me:=λδ h=>(ms δ h).bind g
theorem Je{g:List PV->PH->Rs PV}{σ:St}{Q:VK}(h:rd C (mCB g ms) σ H Q):tCB (rL C g) (rdA C ms) σ H Q:=by
 obtain⟨φ,δ,h,rh,re,p⟩:=h;refine⟨φ,δ,h,rh,re,(postA.bind p).imp ?_⟩;rintro vs H1 ⟨φ1,xs,h1,p1,t1,aa,af,q1⟩;exact⟨φ1,h1,xs,aa,af,q1⟩
theorem oI{p:Pos}{id:String}{g:List PV->PH->Rs PV}(hc:jU C k X (.builtin id) g)(hv:Q7 x=some (.builtin id))(ha:SA C k X (e::es) ms)(hb:x∈C.bs:=by decide)(hg:Gl X x:=by rfl)(hn:x≠"__name__" := by decide)(fe:(x == ("__debug__" : Str))=false:=by decide)(he:Pe (e::es) X.env=(false,eval e X.env)::Pe es X.env:=by rfl)(bx:(backTo pos (Pe es X.env)).any (·.1)=false:=by rfl):SE C k X (.Call (.Name x p) (e::es) [] pos) (mCB g ms):=λc=>
 (A7 (hc c) hg (c.bn x hb) hv (ha c) hn fe he bx).imp λσ H Q h=>Je h
theorem kH{p:Pos}{g:List PV->PH->Rs PV}(hc:jU C k X (.type T) g)(hv:Q7 x=some (.type T))(ha:SA C k X (e::es) ms)(hb:x∈C.bs:=by decide)(hg:Gl X x:=by rfl)(hn:x≠"__name__" := by decide)(fe:(x == ("__debug__" : Str))=false:=by decide)(he:Pe (e::es) X.env=(false,eval e X.env)::Pe es X.env:=by rfl)(bx:(backTo pos (Pe es X.env)).any (·.1)=false:=by rfl):SE C k X (.Call (.Name x p) (e::es) [] pos) (mCB g ms):=λc=>
 (vP (hc c) hg (c.bn x hb) hv (ha c) hn fe he bx).imp λσ H Q h=>Je h
def spM(C:MC)(n:Nat)(f:Fn):Sp:=λvs H Q _=>∃φ h ps,RH C φ H h/\RVs C φ H ps vs/\ps.length=n/\post C φ H (f ps h) Q
def aD(n:Nat)(f:Fn)(ms:Ma):Me:=λδ h=>(ms δ h).bind λps h1=>if ps.length=n then f ps h1 else .bad
theorem s_call{p:Pos}{f:Fn}(D:Def C.K X.mg x st a fd ps)(G:iC X.prog X.w C.K X.mg X.base CX0 j a fd ps (spM C n f))(ha:SA C k X (e::es) ms)(hj:j<=k:=by decide)(hg:Gl X x:=by rfl)(fe:(x == ("__debug__" : Str))=false:=by decide)(he:Pe (e::es) X.env=(false,eval e X.env)::Pe es X.env:=by rfl)(bx:(backTo pos (Pe es X.env)).any (·.1)=false:=by rfl):
  SE C k X (.Call (.Name x p) (e::es) [] pos) (aD n f ms):=λc=>by
 have e1:=c.K;have D':Def X.K X.mg x st a fd ps:=by rw[e1];exact D
 have G':iC X.prog X.w X.K X.mg X.base CX0 j a fd ps (spM C n f):=by rw[e1];exact G
 refine(M' D' G' (c.room.mono hj) (ha c) hg fe he bx).imp λσ H Q h=>?_;obtain⟨φ,δ,h,rh,re,p⟩:=h;refine⟨φ,δ,h,rh,re,(postA.bind p).imp ?_⟩;rintro vs H1 ⟨φ1,xs,h1,p1,t1,aa,af,q1⟩;refine⟨φ1,h1,xs,aa,by rw[List.append_nil];exact af,q1.ite.1,q1.ite.2⟩
def iH:List PV->PH->Rs PV:=λxs h=>match xs with
 |[.str y]=>if y.length<=OR then .ok (.int y.length) h else .bad
 |[.tup ys]=>.ok (.int ys.length) h
 |[.fl ys]=>.ok (.int ys.length) h
 |[.ref n]=>match aO h n with
  |some ys=>.ok (.int ys.length) h
  |none=>match h[n]? with
   |some (.dK kvs)=>.ok (.int kvs.length) h
   |_=>.bad
 |_=>.bad
theorem RVs.one{x:PV}(r:RVs C φ H [x] vs):∃v,vs=[v]/\RV C φ H x v:=by
 match vs,r with
 |[v],⟨h,_⟩=>exact⟨v,rfl,h⟩
 |[],h=>exact h.elim
 |_::_::_,⟨_,h⟩=>exact h.elim
theorem RVs.two{x y:PV}(r:RVs C φ H [x,y] vs):∃v w,vs=[v,w]/\RV C φ H x v/\RV C φ H y w:=by
 match vs,r with
 |[v,w],⟨h,h',_⟩=>exact⟨v,w,rfl,h,h'⟩
 |[],h=>exact h.elim
 |[_],⟨_,h⟩=>exact h.elim
 |_::_::_::_,⟨_,_,h⟩=>exact h.elim
set_option tactic.hygienic true in
theorem MF:jU C k X (.builtin "len") iH:=λc=>(DP C.K c.K).imp λvs H Q h=>by
 obtain⟨φ,h,ps,rh,rv,po⟩:=h;unfold iH at po;split at po
 ·obtain⟨v,rfl,rx⟩:=rv.one;cases rx
  exact⟨po.ite.1,po.ite.2.val rh rfl⟩
 ·obtain⟨v,rfl,rx⟩:=rv.one;obtain⟨a,vs,rfl,sa,ra⟩:=rx;exact .inl ⟨vs,.inr sa,by rw[<-ra.length];exact po.val rh rfl⟩
 ·obtain⟨v,rfl,rx⟩:=rv.one;obtain⟨a,vs,rfl,sa,ra⟩:=rx;exact .inl ⟨vs,.inl sa.sq,by rw[<-ra.length];exact po.val rh rfl⟩
 ·rename_i n;obtain⟨v,rfl,rx⟩:=rv.one;obtain⟨a,rfl,ha⟩:=rx;split at po
  ·rename_i ys e;obtain⟨a2,vs,aw,sa,ra⟩:=bZ rh e;rw[ha]at aw;cases aw;exact .inl ⟨vs,.inl sa,by rw[<-ra.length];exact po.val rh rfl⟩
  ·split at po
   ·rename_i kvs hk;obtain⟨ks,hH,rk⟩:=rh.at' n a _ ha hk;refine .inr ⟨ks,hH,?_⟩;have:ks.length=kvs.length:=(Rv rk).symm;rw[this];exact po.val rh rfl
   ·exact po.elim
 ·exact po.elim
def bY:List PV->PH->Rs PV:=λxs h=>match xs with
 |[.tup ys]=>.ok (.tup ys) h
 |[.fl ys]=>.ok (.tup ys) h
 |[.ref n]=>match aO h n with
  |some ys=>.ok (.tup ys) h
  |none=>.bad
 |_=>.bad
set_option tactic.hygienic true in
theorem Ia:jU C k X (.type "tuple") bY:=λc=>(Ac C.K c.K).imp λvs H Q h=>by
 obtain⟨φ,h,ps,rh,rv,po⟩:=h;unfold bY at po;split at po
 ·obtain⟨v,rfl,rx⟩:=rv.one;obtain⟨a,vs,rfl,sa,ra⟩:=rx;exact⟨a,vs,rfl,.inr ⟨sa,po.val rh ⟨a,vs,rfl,sa,ra⟩⟩⟩
 ·obtain⟨v,rfl,rx⟩:=rv.one;obtain⟨a,vs,rfl,sa,ra⟩:=rx;exact⟨a,vs,rfl,.inl ⟨sa.sq,λp hp=>po.tnew rh ra hp⟩⟩
 ·rename_i n;obtain⟨v,rfl,rx⟩:=rv.one;obtain⟨a,rfl,ha⟩:=rx;split at po
  ·rename_i ys e;obtain⟨a2,vs,aw,sa,ra⟩:=bZ rh e;rw[ha]at aw;cases aw;exact⟨a,vs,rfl,.inl ⟨sa,λp hp=>po.tnew rh ra hp⟩⟩
  ·exact po.elim
 ·exact po.elim
open PySem PySem.Spec PyProof.Rows
variable{C:MC}{k:Nat}{X:Cx}
def Rs.fl{α:Type}(r:Rs α)(f:α->PH->Fl):Fl:=match r with
 |.ok a h=>f a h
 |.exc x h=>.exc x h
 |.bad=>.bad
@[simp]theorem Rs.fl_ok{α:Type}(a:α)(h:PH)(f:α->PH->Fl):(Rs.ok a h).fl f=f a h:=(rfl)
theorem post.fl{r:Rs PV}{f:PV->PH->Fl}{D:Ends}(h:bU C φ H (r.fl f) D):post C φ H r λv H1=>∃φ1 p h1,φ<+:φ1/\Kp H H1/\RH C φ1 H1 h1/\RV C φ1 H1 p v/\bU C φ1 H1 (f p h1) D:=by
 cases r with
 |ok a h'=>exact λφ' v H' p t rh rv=>⟨φ',a,h',p,t,rh,rv,bU.weak p t h⟩
 |exc a h'=>exact h
 |bad=>exact h
theorem bL.fl{r:Rs Bool}{f:Bool->PH->Fl}{D:Ends}(h:bU C φ H (r.fl f) D):bL C φ H r λb H1=>∃φ1 h1,φ<+:φ1/\Kp H H1/\RH C φ1 H1 h1/\bU C φ1 H1 (f b h1) D:=by
 cases r with
 |ok a h'=>exact λφ' H' p t rh=>⟨φ',h',p,t,rh,bU.weak p t h⟩
 |exc a h'=>exact h
 |bad=>exact h
theorem bU.nx{D:Ends}{σ:St}(q:bU C φ H (.nx δ h) D)(rh:RH C φ H h)(re:RE C φ H δ σ):D.nx σ H:=q φ σ H OT (Kp.refl H) rh re
theorem bU.rt{D:Ends}{v:V}(q:bU C φ H (.rt p h) D)(rh:RH C φ H h)(rv:RV C φ H p v):D.rt v H:=q φ v H OT (Kp.refl H) rh rv
abbrev Mg:=PV->Ev->Option Ev
abbrev Mgs:=List PV->Ev->Option Ev
def rdG(C:MC)(t:Mg):TG:=λv σ H Q=>∃φ δ h p δ',RH C φ H h/\RE C φ H δ σ/\RV C φ H p v/\t p δ=some δ'/\∀σ',RE C φ H δ' σ'->Q σ' H
def Of(C:MC)(t:Mgs):TGs:=λvs σ H Q=>∃φ δ h ps δ',RH C φ H h/\RE C φ H δ σ/\RVs C φ H ps vs/\t ps δ=some δ'/\∀σ',RE C φ H δ' σ'->Q σ' H
def SG(C:MC)(k:Nat)(X:Cx)(e:Expr)(t:Mg):Prop:=Cxt C k X->PG X e (rdG C t)
def SGs(C:MC)(k:Nat)(X:Cx)(es:List Expr)(t:Mgs):Prop:=Cxt C k X->PGs X es (Of C t)
def gN(i:Nat):Mg:=λp δ=>some (δ.set i (some p))
def gNl:Mgs:=λps δ=>match ps with
 |[]=>some δ
 |_::_=>none
def gCn(t:Mg)(u:Mgs):Mgs:=λps δ=>match ps with
 |p::r=>(t p δ).bind (u r)
 |[]=>none
def gTp(n:Nat)(u:Mgs):Mg:=λp δ=>match p with
 |.tup ps=>if ps.length=n then u ps δ else none
 |_=>none
theorem PG.imp{t t':TG}(h:PG X e t)(i:∀v σ H Q,t' v σ H Q->t v σ H Q):PG X e t':=λpins s σ H v u Q I r q=>h pins s σ H v u Q I r (i v σ H Q q)
theorem PGs.imp{t t':TGs}(h:PGs X es t)(i:∀v σ H Q,t' v σ H Q->t v σ H Q):PGs X es t':=λpins s σ H v u Q I r q=>h pins s σ H v u Q I r (i v σ H Q q)
theorem Kx(hN:X.N.Nodup)(hi:X.N[i]?=some x:=by rfl)(hx:Loc X.env.scope x:=by first|exact Or.inl rfl|exact Or.inr rfl)(hf:X.fn x=true\/X.env.scope.names.lookup x=some .local:=by first|exact .inl rfl|exact .inr rfl):SG C k X (.Name x pos) (gN i):=λc=>
 (Hl hN hi hx hf).imp λv σ H Q h=>by
  obtain⟨φ,δ,h,p,δ',rh,re,rv,e,q⟩:=h;cases e
  exact q _ (re.set rv i)
theorem MG:SGs C k X [] gNl:=λc=>Hm.imp λv σ H Q h=>by
 obtain⟨φ,δ,h,ps,δ',rh,re,rv,e,q⟩:=h;cases ps with
 |nil=>
  cases e
  cases v with
  |nil=>exact⟨rfl,q σ re⟩
  |cons=>exact rv.elim
 |cons=>cases e
theorem Ky{t:Mg}{u:Mgs}(h1:SG C k X e t)(h2:SGs C k X es u)(hs:(Q6 (e::es) X.env).map (·.2)=assign e X.env::(Q6 es X.env).map (·.2):=by rfl):SGs C k X (e::es) (gCn t u):=λc=>
 (ET (h1 c) (h2 c) hs).imp λvs σ H Q h=>by
  obtain⟨φ,δ,h,ps,δ',rh,re,rv,e,q⟩:=h;cases ps with
  |nil=>cases e
  |cons p r=>
   cases vs with
   |nil=>exact rv.elim
   |cons v vs=>
    obtain⟨δ1,e1,e2⟩:=Option.bind_eq_some_iff.mp (show(t p δ).bind (u r)=some δ' from e)
    exact⟨v,vs,rfl,φ,δ,h,p,δ1,rh,re,rv.1,e1,λσ' nv=>⟨φ,δ1,h,r,δ',rh,nv,rv.2,e2,q⟩⟩
theorem MH{u:Mgs}(h:SGs C k X es u)(hn:(Q6 es X.env).length=n:=by rfl)(cz:(Q6 es X.env).findIdx? (·.1)=none:=by rfl):SG C k X (.Tuple es j pos) (gTp n u):=λc=>
 (gT C.K c.K c.calm (h c) hn cz).imp λv σ H Q h=>by
  obtain⟨φ,δ,h,p,δ',rh,re,rv,e,q⟩:=h;cases p with
  |tup ps=>
   obtain⟨a,vs,rfl,sa,ra⟩:=rv
   by_cases hl:ps.length=n
   ·have e':u ps δ=some δ':=by
     have:(if ps.length=n then u ps δ else none)=some δ':=e;rw[if_pos hl]at this;exact this
    exact⟨a,vs,rfl,sa,by rw[<-ra.length];exact hl,φ,δ,h,ps,δ',rh,re,ra,e',q⟩
   ·have:(if ps.length=n then u ps δ else none)=some δ':=e;rw[if_neg hl]at this;cases this
  |_=>cases e
theorem PS.imp{t t':TS}(h:PS X st t)(i:∀D σ H,t' D σ H->t D σ H):PS X st t':=λpins s σ H D I q=>h pins s σ H D I (i D σ H q)
theorem PSs.imp{st:List Stmt}{t t':TS}(h:PSs X st t)(i:∀D σ H,t' D σ H->t D σ H):PSs X st t':=λpins s σ H D I q=>h pins s σ H D I (i D σ H q)
def aG(a b:Ms):Ms:=λδ h=>match a δ h with
 |.nx δ1 h1=>b δ1 h1
 |r=>r
def bF:Ms:=λδ h=>.nx δ h
def bI(i:Nat)(m:Me):Ms:=λδ h=>(m δ h).fl λp h1=>.nx (δ.set i (some p)) h1
def rB(m:Me)(t:Mg):Ms:=λδ h=>(m δ h).fl λp h1=>match t p δ with
 |some δ'=>.nx δ' h1
 |none=>.bad
def mW(m:Me):Ms:=λδ h=>(m δ h).fl λ_ h1=>.nx δ h1
def aL(m:Me):Ms:=λδ h=>(m δ h).fl λp h1=>.rt p h1
def bE(t:Ev->PH->Rs Bool)(a b:Ms):Ms:=λδ h=>(t δ h).fl λc h1=>match c with
 |true=>a δ h1
 |false=>b δ h1
theorem Kz:SSs C k X [] bF:=λc=>Hi.imp λD σ H h=>by
 obtain⟨φ,δ,h,rh,re,p⟩:=h;exact p.nx rh re
theorem FK{r:Fl}{b:Ms}{D:Ends}(h:bU C φ H (match r with|.nx δ1 h1=>b δ1 h1|r=>r) D):bU C φ H r { D with nx:=rdS C b D }:=by
 cases r with
 |nx δ h'=>exact λφ' σ H' p t rh re=>⟨φ',δ,h',rh,re,bU.weak p t h⟩
 |rt p h'=>exact h
 |bk δ h'=>exact h
 |ct δ h'=>exact h
 |exc x h'=>exact h
 |bad=>exact h
theorem Ib{rest:List Stmt}{a:Ms}{b:Ms}(h1:SSt C k X st a)(h2:SSs C k X rest b):SSs C k X (st::rest) (aG a b):=λc=>(ER (h1 c) (h2 c)).imp λD σ H h=>by
 obtain⟨φ,δ,h,rh,re,p⟩:=h;exact⟨φ,δ,h,rh,re,FK p⟩
theorem KA{a:Ms}(h1:SSt C k X st a):SSs C k X [st] a:=λc=>Hj (h1 c)
theorem MI(hN:X.N.Nodup)(he:SE C k X e m)(hi:X.N[i]?=some x:=by rfl)(hx:Loc X.env.scope x:=by first|exact Or.inl rfl|exact Or.inr rfl)(hs:swapsWith e (some (.Name x pos')) pos.line X.env=pure false:=by rfl)(hf:X.fn x=true\/X.env.scope.names.lookup x=some .local:=by first|exact .inl rfl|exact .inr rfl):SSt C k X (.Assign [.Name x pos'] e pos) (bI i m):=λc=>(JF hN hi hx (he c) hs hf).imp λD σ H h=>by
 obtain⟨φ,δ,h,rh,re,p⟩:=h;refine⟨φ,δ,h,rh,re,(post.fl p).imp ?_⟩;rintro v H1 ⟨φ1,x,h1,p1,t1,aa,af,q1⟩;exact q1.nx aa ((re.mono p1 t1).set af i)
theorem MJ{t:Mg}(he:SE C k X e m)(hg:SG C k X tg t)(hs:swapsWithSole [tg] e pos.line X.env=pure false:=by rfl)(hw:swappedStores [tg] e X.env=pure none:=by rfl)(h1:(Q6 [tg] X.env).map (·.2)=[assign tg X.env]:=by rfl):SSt C k X (.Assign [tg] e pos) (rB m t):=λc=>(JE (he c) (hg c) hs hw h1).imp λD σ H h=>by
 obtain⟨φ,δ,h,rh,re,p⟩:=h;refine⟨φ,δ,h,rh,re,(post.fl p).imp ?_⟩;rintro v H1 ⟨φ1,x,h1,p1,t1,aa,af,q1⟩;cases et:t x δ with
 |none=>rw[et]at q1;exact q1.elim
 |some δ'=>
  rw[et]at q1;exact⟨φ1,δ,h1,x,δ',aa,re.mono p1 t1,af,et,λσ' nv=>q1.nx aa nv⟩
theorem MK(he:SE C k X e m)(hs:swapsWith e none pos.line X.env=pure false:=by rfl):SSt C k X (.Expr e pos) (mW m):=λc=>(Hk (he c) hs).imp λD σ H h=>by
 obtain⟨φ,δ,h,rh,re,p⟩:=h;refine⟨φ,δ,h,rh,re,(post.fl p).imp ?_⟩;rintro v H1 ⟨φ1,x,h1,p1,t1,aa,af,q1⟩;exact q1.nx aa (re.mono p1 t1)
theorem ML(he:SE C k X e m):SSt C k X (.Return (some e) pos) (aL m):=λc=>(JB (he c)).imp λD σ H h=>by
 obtain⟨φ,δ,h,rh,re,p⟩:=h;refine⟨φ,δ,h,rh,re,(post.fl p).imp ?_⟩;rintro v H1 ⟨φ1,x,h1,p1,t1,aa,af,q1⟩;exact q1.rt aa af
variable{as:List Stmt}{u6:Expr}
theorem Og{a:Ms}{b:Ms}{bs:List Stmt}{t:Ev->PH->Rs Bool}(hc:ST C k X u6 t)(ha:SSs C k X as a)(hb:SSs C k X bs b):SSt C k X (.If u6 as bs pos) (bE t a b):=λc=>(LF (hc c) (ha c) (hb c)).imp λD σ H h=>by
 obtain⟨φ,δ,h,rh,re,p⟩:=h;refine⟨φ,δ,h,rh,re,(bL.fl p).imp ?_⟩;rintro d H1 ⟨φ1,h1,p1,t1,aa,q1⟩;cases d with
 |true=>exact BF ⟨φ1,δ,h1,aa,re.mono p1 t1,q1⟩
 |false=>exact BE ⟨φ1,δ,h1,aa,re.mono p1 t1,q1⟩
structure Wk where
 xs:List PV
 g:PH->Bool
def E9(C:MC)(J:It)(w:Wk)(φ0:List Addr)(H0:Hp):Prop:=∀φ H h,φ0<+:φ->Kp H0 H->RH C φ H h->w.g h=true->∀i:Nat,
 (i<w.xs.length->J.go i H/\∀x H',J.yld i H x H'->(∃p,w.xs[i]?=some p/\RV C φ H' p x)/\Kp H H'/\RH C φ H' h)/\(w.xs.length<=i->J.stop i H)
abbrev Mi:=Ev->PH->Rs Wk
def dP(C:MC)(φ:List Addr)(H:Hp)(r:Rs Wk)(R:It->Hp->Prop):Prop:=match r with
 |.ok w h=>∀φ' H' J,φ<+:φ'->Kp H H'->RH C φ' H' h->E9 C J w φ' H'->R J H'
 |.exc x h=>∀φ' H',φ<+:φ'->Kp H H'->RH C φ' H' h->C.ex φ' H' x
 |.bad=>False
def rdI(C:MC)(m:Mi):TI:=λσ H R=>∃φ δ h,RH C φ H h/\RE C φ H δ σ/\dP C φ H (m δ h) R
def SI(C:MC)(k:Nat)(X:Cx)(tg iter:Expr)(m:Mi):Prop:=Cxt C k X->PI X tg iter (rdI C m)
def sY(n:Nat)(xs:List PV)(h':PH):Bool:=match aO h' n with
 |some ys=>PV.beqs ys xs
 |none=>false
def ofSeq(x:PV)(h:PH):Rs Wk:=match x with
 |.tup xs=>.ok ⟨xs,λ_=>true⟩ h
 |.ref n=>match aO h n with
  |some xs=>.ok ⟨xs,sY n xs⟩ h
  |none=>.bad
 |.fl xs=>.ok ⟨xs,λ_=>true⟩ h
 |_=>.bad
def bH(m:Me):Mi:=λδ h=>(m δ h).bind ofSeq
theorem MM(h:SE C k X iter m):SI C k X tg iter (bH m):=λc=>by
 intro pins s σ H R I q;obtain⟨φ,δ,hh,rh,re,p⟩:=q;have key:rd C m σ H λv H1=>∃φ1 x h1,φ<+:φ1/\Kp H H1/\RH C φ1 H1 h1/\RV C φ1 H1 x v/\dP C φ1 H1 (ofSeq x h1) R:=by
  refine⟨φ,δ,hh,rh,re,?_⟩;unfold bH at p;cases e:m δ hh with
  |ok x h1=>
   rw[e]at p;intro φ' v H' p' t' df bu;refine⟨φ',x,h1,p',t',df,bu,?_⟩
   show dP C φ' H' (ofSeq x h1) R
   have p0:dP C φ H (ofSeq x h1) R:=p;cases e2:ofSeq x h1 with
   |ok w h2=>rw[e2]at p0;exact λφ2 H2 J p2 t2=>p0 φ2 H2 J (p'.trans p2) (t'.trans t2)
   |exc z h2=>rw[e2]at p0;exact λφ2 H2 p2 t2=>p0 φ2 H2 (p'.trans p2) (t'.trans t2)
   |bad=>rw[e2]at p0;exact p0
  |exc x h1=>rw[e]at p;exact p
  |bad=>rw[e]at p;exact p
 refine thn (h c pins s σ H _ I key) λv s1 hz=>?_;obtain⟨x,H1,I1,r1,φ1,x',h1,p1,t1,aa,af,q1⟩:=hz;unfold ofSeq at q1;cases x' with
 |tup xs=>
  obtain⟨a,vs,rfl,sa,ra⟩:=af;cases r1
  rw[<-c.K]at sa;obtain⟨its,rv,p,hz⟩:=I1.tuple sa;refine wpAny_pyIter_tuple (show s1.heap.IsTuple a its.toArray from p) ?_
  refine⟨s1.heap.objs.size,[s1.heap.objs.size],_,_,H1,rfl,I1.kept (t':=s1.toks) λb o e=>zz _ e,Bt a _,⟨_,OQ _ rfl,rfl,rfl⟩,λb hb=>?_,?_⟩
  ·have e:b=s1.heap.objs.size:=by simpa using hb
   subst e;exact I1.fpOk (OO _) (I1.hok.fresh (OO _))
  ·refine q1 φ1 H1 (Itt X.K a) OT (Kp.refl H1) aa λφ2 H2 h2 p2 t2 aj _ i=>⟨λhi=>?_,λhi=>⟨vs,t2.sq sa,by rw[<-ra.length];exact hi⟩⟩;have bc:i<vs.length:=by rw[<-ra.length];exact hi
   refine⟨⟨vs,vs[i],t2.sq sa,by simp[bc]⟩,λx H' y=>?_⟩;obtain⟨e,y⟩:=y;subst e;obtain⟨x2,e2,r2⟩:=ra.get (y vs (t2.sq sa));exact⟨⟨x2,e2,r2.mono p2 t2⟩,Kp.refl _,aj⟩
 |ref n=>
  obtain⟨a,rfl,ha⟩:=af;cases r1
  dsimp only at q1;cases e:aO h1 n with
  |none=>rw[e]at q1;exact q1.elim
  |some xs=>
   rw[e]at q1;obtain⟨a2,vs,aw,sa,ra⟩:=bZ aa e;rw[ha]at aw;cases aw;have nz:SqL X.K H1 a vs:=by rw[c.K];exact sa
   obtain⟨its,rv,p,hz⟩:=I1.list nz;refine Sa p.isList ?_;refine⟨s1.heap.objs.size,[s1.heap.objs.size],_,_,H1,rfl,I1.kept (t':=s1.toks) λb o e=>zz _ e,vK a _,⟨_,OQ _ rfl,rfl,rfl⟩,λb hb=>?_,?_⟩
   ·have e:b=s1.heap.objs.size:=by simpa using hb
    subst e;exact I1.fpOk (OO _) (I1.hok.fresh (OO _))
   ·refine q1 φ1 H1 (Itl X.K a) OT (Kp.refl H1) aa λφ2 H2 h2 p2 t2 aj hg i=>?_;have hg:(match aO h2 n with|some ys=>PV.beqs ys xs|none=>false)=true:=hg
    cases e2:aO h2 n with
    |none=>rw[e2]at hg;cases hg
    |some ys=>
     rw[e2]at hg;have ue:=PV.beqs_eq hg;subst ue;obtain⟨a3,us,va,su,ru⟩:=bZ aj e2;rw[lS p2 ha]at va;cases va;rw[<-c.K]at su;refine⟨λhi=>?_,λhi=>⟨us,su,by rw[<-ru.length];exact hi⟩⟩;have bc:i<us.length:=by rw[<-ru.length];exact hi
     refine⟨⟨us,us[i],su,by simp[bc]⟩,λx H' y=>?_⟩;obtain⟨e,y⟩:=y;subst e;obtain⟨x2,e2,r2⟩:=ru.get (y us su);exact⟨⟨x2,e2,r2⟩,Kp.refl _,aj⟩
 |fl xs=>
  obtain⟨a,vs,rfl,sa,ra⟩:=af;cases r1
  rw[<-c.K]at sa;obtain⟨its,rv,p,hz⟩:=I1.list sa.sq;refine Sa p.isList ?_;refine⟨s1.heap.objs.size,[s1.heap.objs.size],_,_,H1,rfl,I1.kept (t':=s1.toks) λb o e=>zz _ e,vK a _,⟨_,OQ _ rfl,rfl,rfl⟩,λb hb=>?_,?_⟩
  ·have e:b=s1.heap.objs.size:=by simpa using hb
   subst e;exact I1.fpOk (OO _) (I1.hok.fresh (OO _))
  ·refine q1 φ1 H1 (Itl X.K a) OT (Kp.refl H1) aa λφ2 H2 h2 p2 t2 aj _ i=>⟨λhi=>?_,λhi=>⟨vs,(t2.sf sa).sq,by rw[<-ra.length];exact hi⟩⟩;have bc:i<vs.length:=by rw[<-ra.length];exact hi
   refine⟨⟨vs,vs[i],(t2.sf sa).sq,by simp[bc]⟩,λx H' y=>?_⟩;obtain⟨e,y⟩:=y;subst e;obtain⟨x2,e2,r2⟩:=ra.get (y vs (t2.sf sa).sq);exact⟨⟨x2,e2,r2.mono p2 t2⟩,Kp.refl _,aj⟩
 |_=>exact q1.elim
def upTo(lo:Int):Nat->List PV
 |0=>[]
 |n+1=>.int lo::upTo (lo+1) n
theorem bW:∀(n:Nat)(lo:Int),(upTo lo n).length=n
 |0,_=>rfl
 |n+1,lo=>by simp[upTo,bW n]
theorem oJ:∀(n:Nat)(lo:Int)(i:Nat),i<n->(upTo lo n)[i]?=some (.int (lo+i))
 |0,_,_,h=>by omega
 |n+1,lo,0,_=>by simp[upTo]
 |n+1,lo,i+1,h=>by
  simp only[upTo,QA];rw[oJ n (lo+1) i (by omega)]
  congr 2
  omega
open Classical in
noncomputable def CQ:List PV->PH->Rs Wk:=λxs h=>match xs with
 |[.int j]=>if -(2 ^ 62)<=j/\j<2 ^ 62 then .ok ⟨upTo 0 j.toNat,λ_=>true⟩ h else .bad
 |_=>.bad
noncomputable def iI(ms:Ma):Mi:=λδ h=>(ms δ h).bind CQ
theorem KB(lo:Int)(n:Nat)(φ:List Addr)(H:Hp):E9 C (Itr lo n) ⟨upTo lo n,λ_=>true⟩ φ H:=λφ2 H2 h2 p2 t2 aj _ i=>by
 refine⟨λhi=>?_,λhi=>?_⟩
 ·have bc:i<n:=by rw[<-bW n lo];exact hi
  refine⟨bc,λx H' y=>?_⟩;obtain⟨e,y⟩:=y;subst e y;exact⟨⟨.int (lo+i),oJ n lo i bc,rfl⟩,Kp.refl _,aj⟩
 ·have:(upTo lo n).length<=i:=hi;rw[bW]at this;exact this
theorem postA.bindI{r:Rs (List PV)}{f:List PV->PH->Rs Wk}{R:It->Hp->Prop}(h:dP C φ H (r.bind f) R):postA C φ H r λvs H1=>∃φ1 ps h1,φ<+:φ1/\Kp H H1/\RH C φ1 H1 h1/\RVs C φ1 H1 ps vs/\dP C φ1 H1 (f ps h1) R:=by
 cases r with
 |ok a h'=>
  intro φ' v H' p' t' rh rv;refine⟨φ',a,h',p',t',rh,rv,?_⟩;have p0:dP C φ H (f a h') R:=h;cases e2:f a h' with
  |ok w h2=>rw[e2]at p0;exact λφ2 H2 J p2 t2=>p0 φ2 H2 J (p'.trans p2) (t'.trans t2)
  |exc z h2=>rw[e2]at p0;exact λφ2 H2 p2 t2=>p0 φ2 H2 (p'.trans p2) (t'.trans t2)
  |bad=>rw[e2]at p0;exact p0
 |exc a h'=>exact h
 |bad=>exact h
theorem PI.imp{t t':TI}(h:PI X tg iter t)(i:∀σ H R,t' σ H R->t σ H R):PI X tg iter t':=λpins s σ H R I q=>h pins s σ H R I (i σ H R q)
set_option tactic.hygienic true in
theorem KC{x:Expr}{p:Pos}(ha:SA C k X [x] ms)(hb:("range" : Str)∈C.bs:=by decide)(hg:Gl X "range" := by rfl)(hs:Pe [x] X.env=[(false,eval x X.env)]:=by rfl):SI C k X tg (.Call (.Name "range" p) [x] [] pos) (iI ms):=λc=>
 (pr1 hg (c.bn _ hb) (ha c) hs).imp λσ H R h=>by
  obtain⟨φ,δ,h,rh,re,p⟩:=h;refine⟨φ,δ,h,rh,re,(postA.bindI p).imp ?_⟩;rintro vs H1 ⟨φ1,xs,h1,p1,t1,aa,af,q1⟩;unfold CQ at q1;split at q1
  ·obtain⟨v,rfl,rx⟩:=af.one;cases rx
   rename_i j
   by_cases hj:-(2 ^ 62)<=j/\j<2 ^ 62
   ·rw[if_pos hj]at q1;exact⟨hj,q1 φ1 H1 _ OT (Kp.refl _) aa (KB 0 j.toNat φ1 H1)⟩
   ·rw[if_neg hj]at q1;exact q1.elim
  ·exact q1.elim
def fV(g:PH->Bool)(tg:Mg)(body:Ms):List PV->Ev->PH->Fl
 |[],δ,h=>if g h=true then .nx δ h else .bad
 |x::xs,δ,h=>if g h=true then(match tg x δ with
  |none=>.bad
  |some δ1=>match body δ1 h with
   |.nx δ2 h2=>fV g tg body xs δ2 h2
   |.ct δ2 h2=>fV g tg body xs δ2 h2
   |.bk δ2 h2=>.nx δ2 h2
   |r=>r) else .bad
def mX(mi:Mi)(tg:Mg)(body:Ms):Ms:=λδ h=>(mi δ h).fl λw h1=>fV w.g tg body w.xs δ h1
theorem dP.fl{r:Rs Wk}{f:Wk->PH->Fl}{D:Ends}(h:bU C φ H (r.fl f) D):dP C φ H r λJ H1=>∃φ1 w h1,φ<+:φ1/\Kp H H1/\RH C φ1 H1 h1/\E9 C J w φ1 H1/\bU C φ1 H1 (f w h1) D:=by
 cases r with
 |ok a h'=>exact λφ' H' J p t rh wk=>⟨φ',a,h',p,t,rh,wk,bU.weak p t h⟩
 |exc a h'=>exact h
 |bad=>exact h
theorem dP.imp{r:Rs Wk}{Q Q':It->Hp->Prop}(h:dP C φ H r Q)(i:∀v H',Q v H'->Q' v H'):dP C φ H r Q':=by
 cases r with
 |ok a h'=>exact λφ' H' J p t rh wk=>i J H' (h φ' H' J p t rh wk)
 |exc a h'=>exact h
 |bad=>exact h
theorem drop_cons{α:Type}{xs:List α}{p:α}(h:xs[i]?=some p):xs.drop i=p::xs.drop (i+1):=by
 obtain⟨h1,h2⟩:=Io.mp h;rw[Ri h1,h2]
variable{H0:Hp}{J:It}{body:Ms}{φ0:List Addr}
theorem Ic{w:Wk}{tg:Mg}{D:Ends}{σ:St}(wk:E9 C J w φ0 H0)(rh:RH C φ0 H0 h)(re:RE C φ0 H0 δ σ)(p:bU C φ0 H0 (fV w.g tg body w.xs δ h) D):
  ∃W:Nat->Nat->St->Hp->Prop,(∃m,W 0 m σ H0)/\∀i m σ H,W i m σ H->
   (J.stop i H/\D.nx σ H)\/(J.go i H/\∃N:St->Hp->Prop,(∀σ' H',N σ' H'->∃m',m'<m/\W (i+1) m' σ' H')/\∀x H',J.yld i H x H'->rdG C tg x σ H' λσ2 H2=>rdS C body { D with nx:=N,ct:=N,bk:=D.nx } σ2 H2):=by
 refine⟨λi m σ H=>m=w.xs.length-i/\i<=w.xs.length/\∃φ δ h,φ0<+:φ/\Kp H0 H/\RH C φ H h/\RE C φ H δ σ/\bU C φ H (fV w.g tg body (w.xs.drop i) δ h) D,
  ⟨w.xs.length,by simp,Pu _,φ0,δ,h,OT,Kp.refl _,rh,re,by rw[List.drop_zero];exact p⟩,?_⟩
 rintro i m σ H ⟨rfl,hi,φ,δ,h,pp,tt,rh,re,p⟩
 by_cases ag:i<w.xs.length
 ·have hd:w.xs.drop i=w.xs[i]::w.xs.drop (i+1):=drop_cons (by simp[ag]);rw[hd]at p;unfold fV at p
  by_cases hg:w.g h=true
  ·rw[if_pos hg]at p;obtain⟨go,step⟩:=(wk φ H h pp tt rh hg i).1 ag;refine .inr ⟨go,λσ' H'=>∃φ δ h,φ0<+:φ/\Kp H0 H'/\RH C φ H' h/\RE C φ H' δ σ'/\bU C φ H' (fV w.g tg body (w.xs.drop (i+1)) δ h) D,λσ' H' ⟨φ',δ',h',q⟩=>⟨w.xs.length-(i+1),by omega,rfl,ag,φ',δ',h',q⟩,λx H' y=>?_⟩;obtain⟨⟨q,eq,rv⟩,t1,aa⟩:=step x H' y;have uk:w.xs[i]=q:=by
    have:w.xs[i]?=some w.xs[i]:=by simp[ag]
    rw[this]at eq;exact Pv eq
   rw[uk]at p;cases et:tg q δ with
   |none=>rw[et]at p;exact p.elim
   |some δ1=>
    rw[et]at p;dsimp only at p;refine⟨φ,δ,h,q,δ1,aa,re.mono OT t1,rv,et,λσ2 og=>⟨φ,δ1,h,aa,og,?_⟩⟩;have p:=bU.weak OT t1 p;cases eb:body δ1 h with
    |nx δ2 h2=>rw[eb]at p;exact λφ3 σ3 H3 p3 t3 c5 mf=>⟨φ3,δ2,h2,pp.trans p3,(tt.trans t1).trans t3,c5,mf,bU.weak p3 t3 p⟩
    |ct δ2 h2=>rw[eb]at p;exact λφ3 σ3 H3 p3 t3 c5 mf=>⟨φ3,δ2,h2,pp.trans p3,(tt.trans t1).trans t3,c5,mf,bU.weak p3 t3 p⟩
    |bk δ2 h2=>rw[eb]at p;exact p
    |rt z h2=>rw[eb]at p;exact p
    |exc z h2=>rw[eb]at p;exact p
    |bad=>rw[eb]at p;exact p
  ·rw[if_neg hg]at p;exact p.elim
 ·have e:i=w.xs.length:=by omega
  subst e;rw[List.drop_length]at p;unfold fV at p
  by_cases hg:w.g h=true
  ·rw[if_pos hg]at p;exact .inl ⟨(wk φ H h pp tt rh hg _).2 (OO _),p.nx rh re⟩
  ·rw[if_neg hg]at p;exact p.elim
variable{mi:Mi}
theorem MN{body:List Stmt}{t:Mg}{mb:Ms}(hi:SI C k X tg iter mi)(hg:SG C k X tg t)(hb:SSs C k X body mb)(hp:PassesOwn (model X.prog X.w) X.A X.env X.xe:=by exact PassesOwn.never)(hs:∀x,Qw iter X.env x=pure x:=by intro _;rfl):SSt C k X (.For tg iter body [] pos) (mX mi t mb):=λc=>(JH hp c.calm (hi c) (hg c) (hb c) hs).imp λD σ H h=>by
 obtain⟨φ,δ,h,rh,re,p⟩:=h;refine⟨φ,δ,h,rh,re,(dP.fl p).imp ?_⟩;rintro J H1 ⟨φ1,w,h1,p1,t1,aa,wk,q1⟩;exact Ic wk aa (re.mono p1 t1) q1
open PySem PySem.Spec PyProof.Rows
variable{C:MC}{k:Nat}{X:Cx}
def eE(js:List (Option Nat))(δ:Ev):Ev:=js.map λo=>match o with
 |none=>none
 |some j=>sP δ j
theorem CS:∀{σ:St}{i:Nat}{v:V},σ[i]?=some (some v)->Fd σ i=some v
 |[],_,_,h=>by simp at h
 |x::_,0,v,h=>by
  have:x=some v:=by simpa using h
  exact this
 |_::r,n+1,v,h=>CS (σ:=r) (i:=n) (by simpa using h)
theorem RE.cap{σ:St}(re:RE C φ H δ σ)(js:List (Option Nat)):RE C φ H (eE js δ) (iT js σ):=by
 refine⟨by simp[eE,iT],λi p e=>?_⟩;unfold eE at e;unfold iT;rw[PF]at e⊢;cases q:js[i]? with
 |none=>rw[q]at e;cases e
 |some o=>
  rw[q]at e;cases o with
  |none=>cases e
  |some j=>
   obtain⟨v,hv,rv⟩:=re.2 j p (oG (Pv e));exact⟨v,by show some (Fd σ j)=_;rw[CS hv],rv⟩
def jV(g:PH->Bool)(tg:Mg)(cb:Ev->PH->Rs Bool)(elt:Me)(δ0:Ev)(n:Nat):List PV->PH->Rs PV
 |[],h=>if g h=true then .ok (.ref n) h else .bad
 |x::xs,h=>if g h=true then(match tg x δ0 with
  |none=>.bad
  |some δ1=>(cb δ1 h).bind λb h1=>match b with
   |false=>jV g tg cb elt δ0 n xs h1
   |true=>(elt δ1 h1).bind λp h2=>match bV h2 n with
    |some ys=>if ys.length<OR then jV g tg cb elt δ0 n xs (h2.set n (.lst (ys++[p]))) else .bad
    |none=>.bad) else .bad
def bX(js:List (Option Nat))(mi:Mi)(tg:Mg)(cb:Ev->PH->Rs Bool)(elt:Me):Me:=λδ h=>(mi δ h).bind λw h1=>jV w.g tg cb elt (eE js δ) h1.length w.xs (h1++[.lst []])
def gP:Ev->PH->Rs Bool:=λ_ h=>.ok true h
def STs(C:MC)(k:Nat)(X:Cx)(es:List Expr)(m:Ev->PH->Rs Bool):Prop:=Cxt C k X->PTs X es (rdB C m)
theorem KD:STs C k X [] gP:=λc pins s σ H Q I h=>by
 obtain⟨φ,δ,h,rh,re,p⟩:=h;exact HC pins s σ H Q I (p.val rh)
theorem dP.bind{r:Rs Wk}{f:Wk->PH->Rs PV}{Q:VK}(h:post C φ H (r.bind f) Q):dP C φ H r λJ H1=>∃φ1 w h1,φ<+:φ1/\Kp H H1/\RH C φ1 H1 h1/\E9 C J w φ1 H1/\post C φ1 H1 (f w h1) Q:=by
 cases r with
 |ok a h'=>exact λφ' H' J p t rh wk=>⟨φ',a,h',p,t,rh,wk,post.weak p t h⟩
 |exc a h'=>exact h
 |bad=>exact h
variable{cb:Ev->PH->Rs Bool}{elt:Me}
theorem FL{w:Wk}{tg:Mg}{Q:VK}{σ:St}(wk:E9 C J w φ0 H0)(rh:RH C φ0 H0 h)(re:RE C φ0 H0 δ σ)(p:post C φ0 H0 (jV w.g tg cb elt (eE js δ) h.length w.xs (h++[.lst []])) Q)(acc:Addr)(b8:H0 acc=none):
  ∃W:Nat->Nat->Hp->Prop,(∃m,W 0 m (upd H0 acc (.lst [])))/\∀i m H2,W i m H2->
   (J.stop i H2/\Q (.ref acc) H2)\/(J.go i H2/\∃N:Hp->Prop,(∀H',N H'->∃m',m'<m/\W (i+1) m' H')/\∀x H3,J.yld i H2 x H3->Jc js (rdG C tg) (rdB C cb) (rd C elt) σ acc x H3 N):=by
 have hlen:(φ0++[acc])[h.length]?=some acc:=by rw[<-rh.len];simp
 refine⟨λi m H=>m=w.xs.length-i/\i<=w.xs.length/\∃φ h',(φ0++[acc])<+:φ/\Kp H0 H/\RH C φ H h'/\post C φ H (jV w.g tg cb elt (eE js δ) h.length (w.xs.drop i) h') Q,
  ⟨w.xs.length,by simp,Pu _,φ0++[acc],h++[.lst []],OT,Kp.new b8,rh.new (o:=.lst []) b8 ⟨[],bC,trivial⟩,by rw[List.drop_zero];exact post.weak (PP _ _) (Kp.new b8) p⟩,?_⟩
 rintro i m H ⟨rfl,hi,φ,h',pp,tt,df,p⟩;have tj:φ0<+:φ:=(PP _ _).trans pp
 by_cases ag:i<w.xs.length
 ·have hd:w.xs.drop i=w.xs[i]::w.xs.drop (i+1):=drop_cons (by simp[ag]);rw[hd]at p;unfold jV at p
  by_cases hg:w.g h'=true
  ·rw[if_pos hg]at p;obtain⟨go,step⟩:=(wk φ H h' tj tt df hg i).1 ag;refine .inr ⟨go,λH'=>∃φ h',(φ0++[acc])<+:φ/\Kp H0 H'/\RH C φ H' h'/\post C φ H' (jV w.g tg cb elt (eE js δ) h.length (w.xs.drop (i+1)) h') Q,λH' ⟨φ',h',q⟩=>⟨w.xs.length-(i+1),by omega,rfl,ag,φ',h',q⟩,λx H' y=>?_⟩;obtain⟨⟨q,eq,rv⟩,t1,aa⟩:=step x H' y;have uk:w.xs[i]=q:=by
    have:w.xs[i]?=some w.xs[i]:=by simp[ag]
    rw[this]at eq;exact Pv eq
   rw[uk]at p;cases et:tg q (eE js δ) with
   |none=>rw[et]at p;exact p.elim
   |some δ1=>
    rw[et]at p;have sx:RE C φ H' (eE js δ) (iT js σ):=(re.mono tj (tt.trans t1)).cap js;refine⟨φ,eE js δ,h',q,δ1,aa,sx,rv,et,λσ2 og=>⟨φ,δ1,h',aa,og,(bL.bind (post.weak OT t1 p)).imp ?_⟩⟩;rintro b H5 ⟨φ5,h5,p5,t5,rh5,q5⟩;cases b with
    |false=>exact BE ⟨φ5,h5,pp.trans p5,(tt.trans t1).trans t5,rh5,q5⟩
    |true=>
     refine BF ⟨φ5,δ1,h5,rh5,og.mono p5 t5,(post.bind q5).imp ?_⟩;rintro v H6 ⟨φ6,z,h6,p6,t6,rh6,rv6,q6⟩;cases e6:bV h6 h.length with
     |none=>rw[e6]at q6;exact q6.elim
     |some ys=>
      rw[e6]at q6;obtain⟨hz,q6⟩:=q6.ite;have hφ:φ6[h.length]?=some acc:=lS ((pp.trans p5).trans p6) hlen;obtain⟨vs,hH,dz⟩:=rh6.at' h.length acc _ hφ (iG e6);refine⟨vs,hH,by rw[<-dz.length];exact hz,φ6,h6.set h.length (.lst (ys++[z])),(pp.trans p5).trans p6,(((tt.trans t1).trans t5).trans t6).trans (Kp.lst hH),
       rh6.write hφ (by rw[hH];trivial) ⟨vs++[v],bC,(dz.snoc rv6).mono OT (Kp.lst hH)⟩,post.weak OT (Kp.lst hH) q6⟩
  ·rw[if_neg hg]at p;exact p.elim
 ·have e:i=w.xs.length:=by omega
  subst e;rw[List.drop_length]at p;unfold jV at p
  by_cases hg:w.g h'=true
  ·rw[if_pos hg]at p;exact .inl ⟨(wk φ H h' tj tt df hg _).2 (OO _),p.val df ⟨acc,rfl,lS pp hlen⟩⟩
  ·rw[if_neg hg]at p;exact p.elim
theorem CT{tg:Mg}{σ:St}{Q:VK}(h:rd C (bX js mi tg cb elt) σ H Q):CJ js (rdI C mi) (rdG C tg) (rdB C cb) (rd C elt) σ H Q:=by
 obtain⟨φ,δ,h,rh,re,p⟩:=h;refine⟨φ,δ,h,rh,re,(dP.bind p).imp ?_⟩;rintro J H1 ⟨φ1,w,h1,p1,t1,aa,wk,q1⟩;intro acc b8;exact FL wk aa (re.mono p1 t1) q1 acc b8
variable{tt:Ev->PH->Rs Bool}
theorem KF{elt:Expr}{g:Mg}(gz:X.env.scope=os)(gr:X.N=oN)(ok:iR os oN sc N js=true)(hi:SI C k X tg iter mi)(hg:∀C' fp s₀ H₀,SG C k (X.comp sc N C' fp s₀ H₀) tg g)(ht:∀C' fp s₀ H₀,STs C k (X.comp sc N C' fp s₀ H₀) ifs tt)(he:∀C' fp s₀ H₀,SE C k (X.comp sc N C' fp s₀ H₀) elt me)(hs:∀x,Qw iter X.env x=pure x:=by intro _;rfl):SE C k X (.ListComp elt [⟨tg,iter,ifs,0⟩] sc pos) (bX js mi g tt me):=λc=>
 (HE c.calm gz gr ok (hi c) (λa b s H=>hg a b s H (c.comp sc N a b s H)) (λa b s H=>ht a b s H (c.comp sc N a b s H)) (λa b s H=>he a b s H (c.comp sc N a b s H)) hs).imp λσ H Q h=>CT h
theorem Ea{elt:Expr}{g:Mg}(hN:X.N.Nodup)(cf:X.N[i]?=some x)(gp:X.env.scope.names.lookup x=some .local)(gz:X.env.scope=os)(gr:X.N=oN)(ok:iR os oN sc N js=true)(hi:SI C k X tg iter mi)(hg:∀C' fp s₀ H₀,SG C k (X.comp sc N C' fp s₀ H₀) tg g)(ht:∀C' fp s₀ H₀,STs C k (X.comp sc N C' fp s₀ H₀) ifs tt)(he:∀C' fp s₀ H₀,SE C k (X.comp sc N C' fp s₀ H₀) elt me)(ka:swapsWith (.ListComp elt [⟨tg,iter,ifs,0⟩] sc pos) (some (.Name x pos')) cx.line X.env=pure true:=by rfl)(hs:∀x,Qw iter X.env x=pure x:=by intro _;rfl):SSt C k X (.Assign [.Name x pos'] (.ListComp elt [⟨tg,iter,ifs,0⟩] sc pos) cx) (bI i (bX js mi g tt me)):=λc=>
 (BG hN cf gp c.calm gz gr ok (hi c) (λa b s H=>hg a b s H (c.comp sc N a b s H)) (λa b s H=>ht a b s H (c.comp sc N a b s H)) (λa b s H=>he a b s H (c.comp sc N a b s H)) ka hs).imp λD σ H h=>by
  obtain⟨φ,δ,h,rh,re,p⟩:=h;refine CT ⟨φ,δ,h,rh,re,(post.fl p).imp ?_⟩;rintro v H1 ⟨φ1,x,h1,p1,t1,aa,af,q1⟩;exact q1.nx aa ((re.mono p1 t1).set af i)
def mFn(N:Nat)(body:Ms):Fn:=λargs h=>match body (args.map some++P3 (N-args.length) none) h with
 |.nx _ h'=>.ok .non h'
 |.rt p h'=>.ok p h'
 |.exc x h'=>.exc x h'
 |_=>.bad
theorem RE.start{ps:List PV}(r:RVs C φ H ps vs)(N:List Str):RE C φ H (ps.map some++P3 (N.length-ps.length) none) (start N vs):=by
 unfold L2.start;refine⟨by simp[r.length],λi p e=>?_⟩
 by_cases hi:i<ps.length
 ·rw[PQ (by simpa using hi),PF]at e
  rw[PQ (by simpa[<-r.length] using hi),PF]
  cases q:ps[i]? with
  |none=>rw[q]at e;cases e
  |some x=>
   rw[q]at e;cases e
   obtain⟨v,hv,rv⟩:=r.at q;exact⟨v,by rw[hv];rfl,rv⟩
 ·rw[Qh (by simpa using hi)]at e
  rw[List.getElem?_replicate]at e;split at e
  ·cases e
  ·cases e
theorem MP{f:Addr}(hex:∀φ H x,¬ C.ex φ H x)(hbn:∀x∈C.bs,mg x=none)(F:Fun C.K x qual st f fd)(S:nQ N ps (bD st))(hb:∀(cdv:Value)(A:Around)(outer:List Env)(s:Shared)(H:Hp)(E:XK),SSs C k (A5 CX0 P C.w C.K mg base N qual (bD st) f cdv A outer s H E).nox (cQ st) body):
  iC P C.w C.K mg base CX0 (k+1) f fd ps (spM C ps.length (mFn N.length body)):=by
 refine F.ok S (λvs H Q E h=>?_) (λcdv A outer s H vs Q E hr h=>?_)
 ·obtain⟨φ,h,xs,rh,rv,hl,_⟩:=h;rw[<-rv.length];exact hl
 ·obtain⟨φ,h,xs,rh,rv,hl,p⟩:=h;refine⟨_,hb cdv A outer s H E ⟨rfl,rfl,hr,hbn,rfl⟩,φ,xs.map some++P3 (N.length-xs.length) none,h,rh,RE.start rv N,?_⟩;unfold mFn at p;cases e:body (xs.map some++P3 (N.length-xs.length) none) h with
  |nx δ h'=>rw[e]at p;exact λφ' σ' H' pp tt df nv=>p φ' .non H' pp tt df rfl
  |rt z h'=>rw[e]at p;exact p
  |exc z h'=>rw[e]at p;exact λφ' H' pp tt df=>(hex _ _ _ (p φ' H' pp tt df)).elim
  |bk δ h'=>rw[e]at p;exact p.elim
  |ct δ h'=>rw[e]at p;exact p.elim
  |bad=>rw[e]at p;exact p.elim
theorem KG{f:Fn}{Q:VK}{E:XK}(hO:F6 H)(ho:SqL C.K H a (ns.map V.int))(hf:∃h,f [.fl (ns.map PV.int)] []=.ok (.bl true) h)(hQ:∀H',Q (.bl true) H'):spM C 1 f [.ref a] H Q E:=by
 have r0:∀ns:List Int,RVs C [] H (ns.map PV.int) (ns.map V.int):=by
  intro ns
  induction ns with
  |nil=>trivial
  |cons n ns ih=>exact⟨rfl,ih⟩
 have hs:SqF C.K H a (ns.map V.int):=by
  rcases ho with(h|⟨o,h⟩)|h
  ·rcases hO a with z|⟨o,xs,z⟩
   ·rw[z]at h;cases h
   ·rw[z]at h;cases h
  ·exact .inl ⟨o,h⟩
  ·exact .inr h
 refine⟨[],[],[.fl (ns.map PV.int)],⟨rfl,by simp,λn b ob h1 h2=>by simp at h1⟩,⟨⟨a,_,rfl,hs,r0 ns⟩,trivial⟩,rfl,?_⟩;obtain⟨h,e⟩:=hf;rw[e];intro φ' v H' _ _ _ rv;cases rv
 exact hQ H'
open PySem PySem.Spec PyProof.Rows
variable{C:MC}{k:Nat}{X:Cx}
def tyN(x:PV)(h:PH):Option String:=match x with
 |.non=>some "NoneType"
 |.bl _=>some "bool"
 |.int _=>some "int"
 |.str _=>some "str"
 |.tup _=>some "tuple"
 |.fl _=>some "list"
 |.ref n=>match h[n]? with
  |some (.lst _)=>some "list"
  |some (.dK _)=>some "dict"
  |_=>none
 |.ty _=>none
def dM(t c:String):Bool:=t == c || (t == "bool" && c == "int")
def known:List String:=["int","str","bool","list","tuple","dict"]
variable{c:String}
theorem KH{t:String}(ht:t∈"NoneType" :: known)(hc:c∈known):PySem.W.kitOne K (.type t) (.type c)=some (dM t c):=by
 simp only[known,KP,Pk,or_false]at ht hc;rcases ht with rfl|rfl|rfl|rfl|rfl|rfl|rfl <;> rcases hc with rfl|rfl|rfl|rfl|rfl|rfl <;> rfl
def mY:List PV->PH->Rs PV:=λxs h=>match xs with
 |[x,.ty c]=>match tyN x h with
  |some t=>if c∈known then .ok (.bl (dM t c)) h else .bad
  |none=>.bad
 |_=>.bad
theorem FM(hK:X.K=C.K):cG X (.builtin "isinstance") (λxs H Q=>∃x c t b,xs=[x,.ty c]/\(pH C.K H x (.type t)\/(∃a vs,x=.ref a/\SqT C.K H a vs/\t="tuple")\/(∃a vs,x=.ref a/\SqL C.K H a vs/\t="list"))/\PySem.W.kitOne C.K (.type t) (.type c)=some b/\Q (.bl b) H):=by
 intro pins s σ H xs us Q I r h;obtain⟨x,c,t,b,rfl,ty,e,q⟩:=h;obtain⟨u,v,rfl,ru,rv⟩:=vals2 r;cases rv
 rw[<-hK]at e ty;rcases ty with ty|⟨a,vs,rfl,sa,rfl⟩|⟨a,vs,rfl,sa,rfl⟩
 ·exact DG I ru ty e λtk=>⟨.bl b,H,I.tok tk,rfl,q⟩
 ·cases ru
  obtain⟨its,_,⟨o,h1,h2,_⟩,_⟩:=I.tuple sa;exact P6 PySem.W.kitx_tuple I.kIn ⟨o,h1,h2⟩ e (λz=>nomatch z) λtk=>⟨.bl b,H,I.tok tk,rfl,q⟩
 ·cases ru
  obtain⟨its,_,⟨o,n,h1,h2,_⟩,_⟩:=I.list sa;exact P6 PySem.W.kitx_list I.kIn ⟨o,h1,h2⟩ e (λz=>nomatch z) λtk=>⟨.bl b,H,I.tok tk,rfl,q⟩
set_option tactic.hygienic true in
theorem yK:jU C k X (.builtin "isinstance") mY:=λc=>(FM c.K).imp λvs H Q h=>by
 obtain⟨φ,h,ps,rh,rv,po⟩:=h;unfold mY at po;split at po
 ·rename_i x n;obtain⟨v,w,rfl,rx,ry⟩:=rv.two;cases ry
  split at po
  ·rename_i t ht;obtain⟨hn,po⟩:=po.ite;have fin:∀{t:String},t∈"NoneType" :: known->post C φ H (.ok (.bl (dM t n)) h) Q->PySem.W.kitOne C.K (.type t) (.type n)=some (dM t n)/\Q (.bl (dM t n)) H:=λhm po=>⟨KH hm hn,po.val rh rfl⟩;unfold tyN at ht;cases x with
   |non=>cases ht;cases rx;exact⟨_,n,_,_,rfl,.inl .non,fin (by decide) po⟩
   |bl b=>cases ht;cases rx;exact⟨_,n,_,_,rfl,.inl (.bl _),fin (by decide) po⟩
   |int b=>cases ht;cases rx;exact⟨_,n,_,_,rfl,.inl (.int _),fin (by decide) po⟩
   |str b=>cases ht;cases rx;exact⟨_,n,_,_,rfl,.inl (.str _),fin (by decide) po⟩
   |tup xs=>
    cases ht
    obtain⟨a,vs,rfl,sa,ra⟩:=rx;exact⟨_,n,_,_,rfl,.inr (.inl ⟨a,vs,rfl,sa,rfl⟩),fin (by decide) po⟩
   |fl xs=>
    cases ht
    obtain⟨a,vs,rfl,sa,ra⟩:=rx;exact⟨_,n,_,_,rfl,.inr (.inr ⟨a,vs,rfl,sa.sq,rfl⟩),fin (by decide) po⟩
   |ref m=>
    obtain⟨a,rfl,ha⟩:=rx;dsimp only at ht;split at ht
    ·rename_i xs hx;cases ht
     obtain⟨vs,hH,ra⟩:=rh.at' m a _ ha hx;exact⟨_,n,_,_,rfl,.inl (.lst hH),fin (by decide) po⟩
    ·rename_i xs hx;cases ht
     obtain⟨vs,hH,ra⟩:=rh.at' m a _ ha hx;exact⟨_,n,_,_,rfl,.inl (.dK hH),fin (by decide) po⟩
    ·cases ht
   |ty z=>cases ht
  ·exact po.elim
 ·exact po.elim
def mMt(ty:PV->PH->Bool)(g:PV->List PV->PH->Rs PV)(mo:Me)(ms:Ma):Me:=λδ h=>(mo δ h).bind λx h1=>if ty x h1=true then(ms δ h1).bind λps h2=>g x ps h2 else .bad
def FN(ty:PV->PH->Bool)(g:PV->List PV->PH->Rs PV)(mo:Me):Me:=λδ h=>(mo δ h).bind λx h1=>if ty x h1=true then g x [] h1 else .bad
def rM(C:MC)(g:PV->List PV->PH->Rs PV):V->List V->Hp->VK->Prop:=λx xs H Q=>∃φ h p ps,RH C φ H h/\RV C φ H p x/\RVs C φ H ps xs/\post C φ H (g p ps h) Q
def MtS(C:MC)(k:Nat)(X:Cx)(T:String)(ty:PV->PH->Bool)(id:String)(g:PV->List PV->PH->Rs PV):Prop:=Cxt C k X->MtR X id (rM C g)/\∀φ H h p x,RH C φ H h->RV C φ H p x->ty p h=true->tyV C.K T x H
variable{ab apos:Pos}{mo:Me}{name:Str}{ty:PV->PH->Bool}
theorem Oh{o:Expr}{id:String}{g:PV->List PV->PH->Rs PV}(pa:PlainAttrs T)(slot:Slot T name id)(jz:typeOf (.builtin id)=pure (.type "method_descriptor"))(hm:MtS C k X T ty id g)(ho:SE C k X o mo)(ha:SA C k X (e::es) ms)(ah:R5 o name X.env (eval o X.env)=eval o X.env:=by rfl)(bq:((backTo ab (Pe (e::es) X.env)).all (λx=>!x.1)&&(backToKw ab (keywordEach [] X.env)).all (λx=>x.1.isSome)
   && decide ((e::es).length+([]:List Keyword).length+(if([]:List Keyword).isEmpty then 0 else 1)<30))=true:=by rfl)(ai:(apos.endLine == ab.line)=true:=by rfl)(hs:Pe (e::es) X.env=(false,eval e X.env)::Pe es X.env:=by rfl)(bh:(backTo ab (Pe es X.env)).any (·.1)=false:=by rfl):
  SE C k X (.Call (.Attribute o name apos) (e::es) [] ab) (mMt ty g mo ms):=λc=>(LW pa slot jz (hm c).1 (ho c) (ha c) ah bq ai hs bh).imp λσ H Q h=>by
 obtain⟨φ,δ,h,rh,re,p⟩:=h;refine⟨φ,δ,h,rh,re,(post.bind p).imp ?_⟩;rintro v H1 ⟨φ1,x,h1,p1,t1,aa,af,q1⟩;obtain⟨ht,q1⟩:=q1.ite;refine⟨by rw[c.K];exact(hm c).2 φ1 H1 h1 x v aa af ht,φ1,δ,h1,aa,re.mono p1 t1,(postA.bind q1).imp ?_⟩;rintro vs H2 ⟨φ2,xs,h2,p2,t2,aj,ax,q2⟩;exact⟨φ2,h2,x,xs,aj,af.mono p2 t2,ax,q2⟩
theorem MtR.imp{id:String}{r r':V->List V->Hp->VK->Prop}(h:MtR X id r)(i:∀x xs H Q,r' x xs H Q->r x xs H Q):MtR X id r':=λpins s σ H x xs v us Q I rx rs q=>h pins s σ H x xs v us Q I rx rs (i x xs H Q q)
def isL(x:PV)(h:PH):Bool:=match x with
 |.ref n=>(bV h n).isSome
 |_=>false
theorem KI{x:V}(rh:RH C φ H h)(rv:RV C φ H p x)(e:isL p h=true):tyV C.K "list" x H:=by
 cases p with
 |ref n=>
  obtain⟨a,rfl,ha⟩:=rv;obtain⟨xs,hx⟩:=Option.isSome_iff_exists.mp (show(bV h n).isSome=true from e)
  obtain⟨vs,hH,ra⟩:=rh.at' n a _ ha (iG hx);exact .inl ⟨rfl,vs,SqL.of hH⟩
 |_=>cases e
def onL(f:List PV->List PV->Option (PV×List PV)):PV->List PV->PH->Rs PV:=λx ps h=>match x with
 |.ref n=>match bV h n with
  |some xs=>match f xs ps with
   |some (r,ys)=>.ok r (h.set n (.lst ys))
   |none=>.bad
  |none=>.bad
 |_=>.bad
theorem KJ{f:List PV->List PV->Option (PV×List PV)}{x:V}{xs:List V}{Q:VK}(h:rM C (onL f) x xs H Q):∃φ l ps ys vs r zs,x=.ref l/\H l=some (.lst vs)/\RVs C φ H ys vs/\RVs C φ H ps xs/\f ys ps=some (r,zs)/\
  ∀(v:V)(ws:List V),RV C φ H r v->RVs C φ H zs ws->Q v (upd H l (.lst ws)):=by
 obtain⟨φ,h,p,ps,rh,rx,rs,po⟩:=h;unfold onL at po;cases p with
 |ref n=>
  obtain⟨a,rfl,ha⟩:=rx;dsimp only at po;cases e:bV h n with
  |none=>rw[e]at po;exact po.elim
  |some ys=>
   rw[e]at po;dsimp only at po;obtain⟨vs,hH,ra⟩:=rh.at' n a _ ha (iG e);cases ef:f ys ps with
   |none=>rw[ef]at po;exact po.elim
   |some rz=>
    rw[ef]at po;obtain⟨r,zs⟩:=rz;exact⟨φ,a,ps,ys,vs,r,zs,rfl,hH,ra,rs,ef,λv ws rv ay=>po.lset rh ha hH ay rv⟩
 |_=>exact po.elim
def fD:List PV->List PV->Option (PV×List PV):=λxs ps=>match ps with
 |[p]=>if xs.length<OR then some (.non,xs++[p]) else none
 |_=>none
set_option tactic.hygienic true in
theorem Eb:MtR X "list.append" (rM C (onL fD)):=MtR.imp (show MtR X "list.append" CG from vQ) λx xs H Q h=>by
 obtain⟨φ,l,ps,ys,vs,r,zs,rfl,hH,ra,rs,ef,q⟩:=KJ h;unfold fD at ef;split at ef
 ·split at ef
  ·rename_i hz;cases ef
   obtain⟨v,rfl,rx⟩:=rs.one;exact⟨l,vs,v,rfl,rfl,hH,by rw[<-ra.length];exact hz,q .non _ rfl (ra.snoc rx)⟩
  ·cases ef
 ·cases ef
theorem FO:MtS C k X "list" isL "list.append" (onL fD):=λc=>⟨Eb,λφ H h p x rh rv e=>KI rh rv e⟩
def MQ(K:z9):R2:=λx y H Q=>∃a b ys,x=.ref a/\y=.ref b/\SqT K H a []/\SqT K H b ys/\Q (.ref b) H
theorem Ie:OpR X (Qe .Add) (MQ X.K):=by
 intro pins s σ H x y v u Q I rx ry h;obtain⟨a,b,ys,rfl,rfl,ha,hb,q⟩:=h;cases rx
 cases ry
 obtain⟨its,r1,p1,_⟩:=I.tuple ha;obtain⟨gf,r2,p2,_⟩:=I.tuple hb;cases r1
 obtain⟨⟨cls,dd,data,sl⟩,ho,hc,n,hd⟩:=id p1;obtain⟨⟨qx,nr,data2,o5⟩,i5,ko,n2,hd2⟩:=id p2;simp only at hc hd ko hd2;subst hc hd ko hd2;exact concat_meets ⟨_,ho,rfl⟩ ⟨_,i5,rfl⟩ noFill_tuple_add seq_tuple_add PySem.F.slot_tuple_add PySem.F.entry_tuple_add (PySem.F.args_tuple_add_2 _ _)
   (tuple_addW0 a b ([]:List Value).toArray gf.toArray n n2 dd nr sl o5 (by simp)) ⟨ho,i5,⟨.ref b,H,I,rfl,q⟩⟩
def aE:PV->PV->PH->Rs PV:=λx y h=>match x,y with
 |.tup [],.tup ys=>.ok (.tup ys) h
 |x,y=>FD x y h
theorem KL:OpS C k X (Qe .Add) aE:=λc=>((Ml c).or (by have:=Ie (X:=X);rw[c.K]at this;exact this)).imp λx y H Q h=>by
 obtain⟨φ,h,p,q,rh,rx,ry,po⟩:=h;unfold aE at po;split at po
 ·obtain⟨a,vs,rfl,sa,ra⟩:=rx;obtain⟨b,us,rfl,sb,rb⟩:=ry;have:vs=[]:=by cases vs <;> first|rfl|exact ra.elim
  subst this;exact .inr ⟨a,b,us,rfl,rfl,sa,sb,po.val rh ⟨b,us,rfl,sb,rb⟩⟩
 ·exact .inl ⟨φ,h,p,q,rh,rx,ry,po⟩
open PySem PySem.Spec PyProof.Rows
variable{C:MC}{k:Nat}{X:Cx}
theorem MR:UnS C k X (unaryOp .USub) Ar:=λc=>by
 have h:UnR X (unaryOp .USub) (rU λi=>.int (-i)):=JP;intro pins s σ H x v Q I rx q;refine h pins s σ H x v Q I rx ?_;obtain⟨φ,h,p,rh,rv,po⟩:=q;unfold Ar at po;cases p with
 |int i=>cases rv;exact⟨i,rfl,po.val rh rfl⟩
 |_=>exact po.elim
open PySem
@[irreducible]def Rs.W{α:Type}(r:Rs α)(Q:α->PH->Prop):Prop:=match r with
 |.ok a h=>Q a h
 |_=>False
structure FE where
 nx:Ev->PH->Prop
 rt:PV->PH->Prop
 bk:Ev->PH->Prop:=λ_ _=>False
 ct:Ev->PH->Prop:=λ_ _=>False
@[irreducible]def Fl.W(r:Fl)(E:FE):Prop:=match r with
 |.nx δ h=>E.nx δ h
 |.rt p h=>E.rt p h
 |.bk δ h=>E.bk δ h
 |.ct δ h=>E.ct δ h
 |_=>False
@[irreducible]def Lt(b:Ms)(E:FE)(δ:Ev)(h:PH):Prop:=(b δ h).W E
variable{ys:List PV}{z:Str}{h1:PH}{args:List PV}
section
unseal Rs.W Fl.W Lt
variable{α β:Type}{Q:α->PH->Prop}{E:FE}
@[simp]theorem aY{a:α}:(Rs.ok a h).W Q=Q a h:=(rfl)
@[simp]theorem Oi:(Fl.nx δ h).W E=E.nx δ h:=(rfl)
@[simp]theorem OJ:(Fl.rt p h).W E=E.rt p h:=(rfl)
@[simp]theorem BV{Q:β->PH->Prop}{r:Rs α}{f:α->PH->Rs β}:(r.bind f).W Q=r.W λa h=>(f a h).W Q:=by cases r <;> rfl
@[simp]theorem Ig{r:Rs α}{f:α->PH->Fl}:(r.fl f).W E=r.W λa h=>(f a h).W E:=by cases r <;> rfl
theorem FP{Q':α->PH->Prop}{r:Rs α}(h:r.W Q)(i:∀a h,Q a h->Q' a h):r.W Q':=by cases r <;> first|exact i _ _ h|exact h
@[simp]theorem OD{c:Prop}[Decidable c]{x y:Rs α}:(if c then x else y).W Q=if c then x.W Q else y.W Q:=by split <;> rfl
@[simp]theorem OE:(Rs.bad:Rs α).W Q=False:=(rfl)
@[simp]theorem Oj:Fl.bad.W E=False:=(rfl)
theorem KM{r:Rs α}(w:r.W Q):∃a h,r=.ok a h/\Q a h:=by
 cases r with
 |ok a h=>exact⟨a,h,rfl,w⟩
 |exc=>exact w.elim
 |bad=>exact w.elim
variable{a b:Ms}{t ta tb:Ev->PH->Rs Bool}{g g':PV->PV->PH->Rs PV}
theorem aN:(aG a b δ h).W E=(a δ h).W { E with nx:=λδ h=>(b δ h).W E }:=by
 show(match a δ h with|.nx δ1 h1=>b δ1 h1|r=>r).W E=_
 cases a δ h <;> rfl
theorem aR:(aG a b δ h).W E=(a δ h).W { E with nx:=Lt b E }:=by
 show(match a δ h with|.nx δ1 h1=>b δ1 h1|r=>r).W E=_
 cases a δ h <;> rfl
theorem now{b:Ms}(w:(b δ h).W E):Lt b E δ h:=w
@[simp]theorem FQ:(bF δ h).W E=E.nx δ h:=(rfl)
@[simp]theorem CU:(bI i m δ h).W E=(m δ h).W λp h=>E.nx (δ.set i (some p)) h:=by simp[bI]
@[simp]theorem OF{t:Mg}:(rB m t δ h).W E=(m δ h).W λp h=>∃δ',t p δ=some δ'/\E.nx δ' h:=by
 unfold rB;cases m δ h with
 |ok p h1=>
  show(match t p δ with|some δ'=>Fl.nx δ' h1|none=>.bad).W E=∃δ',t p δ=some δ'/\E.nx δ' h1
  cases t p δ <;> simp[Fl.W]
 |exc=>rfl
 |bad=>rfl
@[simp]theorem OG:(mW m δ h).W E=(m δ h).W λ_ h=>E.nx δ h:=by simp[mW]
@[simp]theorem FS:(aL m δ h).W E=(m δ h).W E.rt:=by simp[aL]
@[simp]theorem CW:(bE t a b δ h).W E=(t δ h).W λc h=>if c=true then(a δ h).W E else(b δ h).W E:=by
 unfold bE;rw[Ig]
 congr
 funext c h
 cases c <;> simp
@[simp]theorem jW:mV i δ h=match sP δ i with|some p=>.ok p h|none=>.bad:=(rfl)
@[simp]theorem kI:mC p δ h=.ok p h:=(rfl)
@[simp]theorem iZ:aB g ma mb δ h=(ma δ h).bind λx h1=>(mb δ h1).bind λy h2=>g x y h2:=(rfl)
@[simp]theorem KN{g:PV->PH->Rs PV}:mUn g ma δ h=(ma δ h).bind g:=(rfl)
@[simp]theorem rG:aP m δ h=(m δ h).bind tru:=(rfl)
@[simp]theorem MS:qO t δ h=(t δ h).bind λb h1=>.ok (!b) h1:=(rfl)
@[simp]theorem MT:qP ta tb δ h=(ta δ h).bind λb h1=>if b=true then tb δ h1 else .ok false h1:=by
 unfold qP;congr 1;funext b h1;cases b <;> simp
@[simp]theorem Ih:As ta tb δ h=(ta δ h).bind λb h1=>if b=true then .ok true h1 else tb δ h1:=by
 unfold As;congr 1;funext b h1;cases b <;> simp
@[simp]theorem Ol:mIf t ma mb δ h=(t δ h).bind λb h1=>if b=true then ma δ h1 else mb δ h1:=by
 unfold mIf;congr 1;funext b h1;cases b <;> simp
def bl2(x:PV)(f g:Rs PV):Rs PV:=match x with
 |.bl true=>f
 |.bl false=>g
 |_=>.bad
@[simp]theorem KO{b:Bool}{f g:Rs PV}:bl2 (.bl b) f g=if b=true then f else g:=by cases b <;> simp[bl2]
set_option tactic.hygienic true in
@[simp]theorem Ii:uT g g' ma mb mc δ h=(ma δ h).bind λx h1=>(mb δ h1).bind λy h2=>(g x y h2).bind λz h3=>bl2 z ((mc δ h3).bind λw h4=>(g' y w h4).bind FH) (.ok (.bl false) h3):=by
 unfold uT;first|rfl|(congr 1;funext x h1;congr 1;funext y h2;congr 1;funext z h3;cases z <;> first|rfl|(rename_i b;cases b <;> rfl))
@[simp]theorem FT{b:Bool}:FH (.bl b) h=.ok (.bl b) h:=(rfl)
@[simp]theorem Ny:cD ms δ h=(ms δ h).bind λxs h1=>if xs.length<=OR then .ok (.tup xs) h1 else .bad:=(rfl)
@[simp]theorem Nz:pP ms δ h=(ms δ h).bind λxs h1=>if xs.length<=OR then .ok (.ref h1.length) (h1++[.lst xs]) else .bad:=(rfl)
@[simp]theorem Lv:yJ δ h=.ok (.ref h.length) (h++[.dK []]):=(rfl)
@[simp]theorem oK:aC δ h=.ok [] h:=(rfl)
@[simp]theorem kJ:aA m ms δ h=(m δ h).bind λx h1=>(ms δ h1).bind λxs h2=>.ok (x::xs) h2:=(rfl)
@[simp]theorem KQ{g:List PV->PH->Rs PV}:mCB g ms δ h=(ms δ h).bind g:=(rfl)
@[simp]theorem sZ{f:Fn}:aD n f ms δ h=(ms δ h).bind λps h1=>if ps.length=n then f ps h1 else .bad:=(rfl)
@[simp]theorem CY:mU δ h=.ok none h:=(rfl)
def FU(x:PV)(h:PH):Rs (Option Int):=match x with
 |.int i=>.ok (some i) h
 |_=>.bad
@[simp]theorem tB{i:Int}:FU (.int i) h=.ok (some i) h:=(rfl)
@[simp]theorem Jf:mP m δ h=(m δ h).bind FU:=(rfl)
@[simp]theorem FV:mSl m ml mh δ h=(m δ h).bind λx h1=>(ml δ h1).bind λl h2=>(mh δ h2).bind λu h3=>vSl x l u h3:=(rfl)
@[simp]theorem FW{g:PV->List PV->PH->Rs PV}:mMt ty g m ms δ h=(m δ h).bind λx h1=>if ty x h1=true then(ms δ h1).bind λps h2=>g x ps h2 else .bad:=(rfl)
@[simp]theorem NA{g:PV->List PV->PH->Rs PV}:FN ty g m δ h=(m δ h).bind λx h1=>if ty x h1=true then g x [] h1 else .bad:=(rfl)
@[simp]theorem aS:OR=16777216:=by rw[Qy]
theorem rH{i j:Int}(c:(-18446744073709551616<i/\i<18446744073709551616)\/(-18446744073709551616<j/\j<18446744073709551616)):fU (.int i) (.int j) h=.ok (.int (i*j)) h:=by
 show(if A4 i j then _ else _)=_
 exact if_pos c
@[simp]theorem MU{i j:Int}(c:(-18446744073709551616<i/\i<18446744073709551616)\/(-18446744073709551616<j/\j<18446744073709551616)):vInt A4 (λi j=>i*j) (.int i) (.int j) h=.ok (.int (i*j)) h:=rH c
@[simp]theorem NB{i j:Int}(c:0<j/\j<1073741824):vInt EV (λi j=>i/j) (.int i) (.int j) h=.ok (.int (i/j)) h:=if_pos c
@[simp]theorem oM{i j:Int}(c:0<j):vInt (λ_ j=>0<j) (λi j=>i%j) (.int i) (.int j) h=.ok (.int (i%j)) h:=if_pos c
@[simp]theorem rJ{i j:Int}(c:0<=j/\j<=1000000/\-18446744073709551616<i/\i<18446744073709551616):vInt DD (λi j=>i ^ j.toNat) (.int i) (.int j) h=.ok (.int (i ^ j.toNat)) h:=by
 show(if DD i j then _ else _)=_
 refine if_pos ⟨c.1,c.2.1,?_⟩;obtain⟨_,_,h1,h2⟩:=c;omega
@[simp]theorem CZ{i j:Int}:iX (.int i) (.int j) h=.ok (.int (i-j)) h:=(rfl)
@[simp]theorem NC{i:Int}:Ar (.int i) h=.ok (.int (-i)) h:=(rfl)
@[simp]theorem wJ{i j:Int}:aE (.int i) (.int j) h=.ok (.int (i+j)) h:=(rfl)
@[simp]theorem aU{y:Str}(c:x.length+y.length<=16777216):aE (.str x) (.str y) h=.ok (.str (x++y)) h:=if_pos c
@[simp]theorem Ec(c:xs.length+ys.length<=16777216):aE (.tup xs) (.tup ys) h=.ok (.tup (xs++ys)) h:=by
 cases xs with
 |nil=>rfl
 |cons x xs=>exact if_pos ⟨rfl,c⟩
@[simp]theorem MV{f:Int->Int->Bool}{g:List Nat->List Nat->Bool}{i j:Int}:BQ f g (.int i) (.int j) h=.ok (.bl (f i j)) h:=(rfl)
@[simp]theorem FX{f:Int->Int->Bool}{g:List Nat->List Nat->Bool}{i j:Str}:BQ f g (.str i) (.str j) h=.ok (.bl (g i.cps.toList j.cps.toList)) h:=(rfl)
@[simp]theorem yL{b:Bool}:tru (.bl b) h=.ok b h:=(rfl)
@[simp]theorem ND:tru (.tup xs) h=.ok (!xs.isEmpty) h:=(rfl)
@[simp]theorem cZ:ofO (some p) h=.ok p h:=(rfl)
@[simp]theorem MW{b:Bool}:ofB (some b) h=.ok (.bl b) h:=(rfl)
@[simp]theorem Ij{i:Int}:vIx (.tup xs) (.int i) h=ofO (atI xs i) h:=(rfl)
theorem dH{i:Int}(e:h[n]?=some (.lst xs)):vIx (.ref n) (.int i) h=ofO (atI xs i) h:=by simp[vIx,aO,e]
@[simp]theorem rK{i:Int}(c:z.length<=16777216):vIx (.str z) (.int i) h=ofO ((atI z.cps.toList i).map λc=>.str ⟨#[c]⟩) h:=if_pos c
@[simp]theorem FY:iH [.tup xs] h=.ok (.int xs.length) h:=(rfl)
@[simp]theorem tE(c:x.length<=16777216):iH [.str x] h=.ok (.int x.length) h:=if_pos c
theorem oO(e:h[n]?=some (.lst xs)):iH [.ref n] h=.ok (.int xs.length) h:=by simp[iH,aO,e]
@[simp]theorem MX{i:Int}:mY [.int i,.ty c] h=if c∈known then .ok (.bl (dM "int" c)) h else .bad:=(rfl)
@[simp]theorem MY{i:Str}:mY [.str i,.ty c] h=if c∈known then .ok (.bl (dM "str" c)) h else .bad:=(rfl)
@[simp]theorem tF{i:List PV}:mY [.tup i,.ty c] h=if c∈known then .ok (.bl (dM "tuple" c)) h else .bad:=(rfl)
theorem Ik(e:h[n]?=some (.lst xs)):isL (.ref n) h=true:=by simp[isL,bV,e]
theorem BW(e:h[n]?=some (.lst xs))(c:xs.length<16777216):onL fD (.ref n) [p] h=.ok .non (h.set n (.lst (xs++[p]))):=by simp[onL,bV,e,fD,c]
theorem lT{α:Type}{xs:List α}{i:Int}(h0:0<=i)(h1:i<xs.length):atI xs i=xs[i.toNat]?:=by
 unfold atI ixN;rw[if_pos h0,if_pos h1];rfl
theorem yM{g:PH->Bool}{tg:Mg}{body:Ms}{E:FE}(I:Nat->Ev->PH->Prop):∀(xs:List PV)(k:Nat)(δ:Ev)(h:PH),I k δ h->
  (∀i x δ h,k<=i->xs[i-k]?=some x->I i δ h->g h=true/\∃δ1,tg x δ=some δ1/\(body δ1 h).W { nx:=I (i+1),ct:=I (i+1),rt:=E.rt,bk:=E.nx })->
  (∀δ h,I (k+xs.length) δ h->g h=true/\E.nx δ h)->(fV g tg body xs δ h).W E
 |[],k,δ,h,i0,_,fin=>by
  obtain⟨h1,h2⟩:=fin δ h i0;simp[fV,h1,h2]
 |x::xs,k,δ,h,i0,step,fin=>by
  obtain⟨h1,δ1,h2,h3⟩:=step k x δ h (OO _) (by simp) i0;have go:∀δ2 h2,I (k+1) δ2 h2->(fV g tg body xs δ2 h2).W E:=λδ2 h2 i2=>
   yM I xs (k+1) δ2 h2 i2 (λi y δ h hk hy=>step i y δ h (by omega) (by
    have:i-k=(i-(k+1))+1:=by omega
    rw[this,QA];exact hy)) (λδ h hi=>fin δ h (by
    have e:k+(x::xs).length=k+1+xs.length:=by simp;omega
    rw[e];exact hi))
  unfold fV;rw[if_pos h1,h2]
  show Fl.W (match body δ1 h with|.nx δ2 h2=>fV g tg body xs δ2 h2|.ct δ2 h2=>fV g tg body xs δ2 h2|.bk δ2 h2=>.nx δ2 h2|r=>r) E
  cases e:body δ1 h with
  |nx δ2 h2=>rw[e]at h3;exact go δ2 h2 h3
  |ct δ2 h2=>rw[e]at h3;exact go δ2 h2 h3
  |bk δ2 h2=>rw[e]at h3;exact h3
  |rt p h2=>rw[e]at h3;exact h3
  |exc=>rw[e]at h3;exact h3
  |bad=>rw[e]at h3;exact h3
theorem tG{j:Int}(I:Nat->Ev->PH->Prop)(e:ms δ h=.ok [.int j] h)(hj:-4611686018427387904<=j/\j<4611686018427387904)(h0:I 0 δ h)(step:∀(q:Nat) δ h,(q:Int)<j->I q δ h->(body (δ.set i (some (.int q))) h).W { nx:=I (q+1),ct:=I (q+1),rt:=E.rt,bk:=E.nx })(fin:∀δ h,I j.toNat δ h->E.nx δ h):(mX (iI ms) (gN i) body δ h).W E:=by
 unfold mX iI;rw[e];have m7:-(2 ^ 62)<=j/\j<2 ^ 62:=hj;simp only[Rs.bind_ok,CQ,if_pos m7,Rs.fl_ok];refine yM I _ 0 δ h h0 (λq x δ h _ hx hi=>?_) (λδ h hi=>⟨rfl,fin δ h (by rw[bW,Nat.zero_add]at hi;exact hi)⟩);have hq:q<j.toNat:=by
  have:=(Io.mp hx).1;rw[bW]at this;omega
 rw[Nat.sub_zero,oJ _ _ _ hq]at hx;cases hx
 refine⟨rfl,_,rfl,?_⟩;rw[Int.zero_add];exact step q δ h (by omega) hi
theorem KR{tg:Mg}(I:Nat->Ev->PH->Prop)(e:m δ h=.ok (.tup xs) h\/m δ h=.ok (.fl xs) h)(h0:I 0 δ h)(step:∀(q:Nat) x δ h,xs[q]?=some x->I q δ h->∃δ1,tg x δ=some δ1/\(body δ1 h).W { nx:=I (q+1),ct:=I (q+1),rt:=E.rt,bk:=E.nx })(fin:∀δ h,I xs.length δ h->E.nx δ h):(mX (bH m) tg body δ h).W E:=by
 have go:(fV (λ_=>true) tg body xs δ h).W E:=yM I _ 0 δ h h0 (λq x δ h _ hx hi=>⟨rfl,step q x δ h (by simpa using hx) hi⟩) (λδ h hi=>⟨rfl,fin δ h (by simpa using hi)⟩)
 unfold mX bH;rcases e with e|e <;> rw[e] <;> exact go
theorem KS{tg:Mg}(I:Nat->Ev->PH->Prop)(e:m δ h=.ok (.ref n) h1)(hn:h1[n]?=some (.lst xs))(h0:I 0 δ h1)(keep:∀q δ h,q<=xs.length->I q δ h->h[n]?=some (.lst xs))(step:∀(q:Nat) x δ h,xs[q]?=some x->I q δ h->∃δ1,tg x δ=some δ1/\(body δ1 h).W { nx:=I (q+1),ct:=I (q+1),rt:=E.rt,bk:=E.nx })(fin:∀δ h,I xs.length δ h->E.nx δ h):(mX (bH m) tg body δ h).W E:=by
 have hk:∀{h:PH},h[n]?=some (.lst xs)->sY n xs h=true:=λ{h} e=>by
  have e3:aO h n=some xs:=by unfold aO;rw[e]
  unfold sY;rw[e3];exact PV.beqs_self xs
 unfold mX bH;rw[e];have e2:ofSeq (.ref n) h1=.ok ⟨xs,sY n xs⟩ h1:=by
  have e3:aO h1 n=some xs:=by unfold aO;rw[hn]
  unfold ofSeq;simp only[e3]
 rw[Rs.bind_ok,e2,Rs.fl_ok];refine yM I _ 0 δ h1 h0 (λq x δ h _ hx hi=>?_) (λδ h hi=>?_)
 ·have cf:xs[q]?=some x:=by simpa using hx
  have:=(Io.mp cf).1;exact⟨hk (keep q δ h (by omega) hi),step q x δ h cf hi⟩
 ·have bc:I xs.length δ h:=by simpa using hi
  exact⟨hk (keep _ δ h (OO _) bc),fin δ h bc⟩
theorem bB{N:Nat}{Q:PV->PH->Prop}(w:(body (args.map some++P3 (N-args.length) none) h).W { nx:=λ_ h=>Q .non h,rt:=Q }):(mFn N body args h).W Q:=by
 unfold mFn;cases e:body (args.map some++P3 (N-args.length) none) h with
 |nx δ h'=>rw[e]at w;exact w
 |rt p h'=>rw[e]at w;exact w
 |_=>rw[e]at w;exact w.elim
@[simp]theorem OH:gN i p δ=some (δ.set i (some p)):=(rfl)
@[simp]theorem Om{u:Mgs}{ps:List PV}:gTp n u (.tup ps) δ=if ps.length=n then u ps δ else none:=(rfl)
@[simp]theorem On{t:Mg}{u:Mgs}{r:List PV}:gCn t u (p::r) δ=(t p δ).bind (u r):=(rfl)
@[simp]theorem Oo:gNl [] δ=some δ:=(rfl)
end
def Ext(h h':PH):Prop:=∀(n:Nat)(o:MO),h[n]?=some o->h'[n]?=some o
theorem Ext.refl(h:PH):Ext h h:=λ_ _ e=>e
theorem Ext.trans{h2:PH}(a:Ext h h1)(b:Ext h1 h2):Ext h h2:=λn o e=>b n o (a n o e)
theorem Ext.app(h g:PH):Ext h (h++g):=λn o e=>by
 rw[PQ (Io.mp e).1];exact e
theorem Ext.len{h':PH}(e:Ext h h'):h.length<=h'.length:=by
 rcases Nat.lt_or_ge h'.length h.length with z|z
 ·have:h[h'.length]?=some h[h'.length]:=by simp[z]
  have:=(Io.mp (e _ _ this)).1;omega
 ·exact z
theorem aX{o:MO}:(h++[o])[h.length]?=some o:=by simp
variable{o':MO}
theorem pQ{o:MO}(e:h[n]?=some o):(h.set n o')[n]?=some o':=QG (Io.mp e).1
theorem KU{m:Nat}{o:MO}(e:h[m]?=some o)(d:n≠m):(h.set n o')[m]?=some o:=by rw[QD d];exact e
def PV.pl:Nat->PV->Bool
 |_,.non=>true
 |_,.int _=>true
 |_,.str _=>true
 |n+1,.tup xs=>xs.all (PV.pl n)
 |_,_=>false
theorem D0{x:PV}{d:D}{ds:List D}(h1:x.d=some d)(h2:PV.ds xs=some ds):PV.ds (x::xs)=some (d::ds):=by simp[PV.ds,h1,h2]
theorem MZ{ds:List D}(h:PV.ds xs=some ds):(PV.tup xs).d=some (.tup ds):=by simp[PV.d,h]
set_option tactic.hygienic true in
theorem eF{d:D}(h:(PV.tup xs).d=some d):∃ds,PV.ds xs=some ds/\d=.tup ds:=by
 unfold PV.d at h;split at h
 ·rename_i ds e;cases h;exact⟨ds,e,rfl⟩
 ·cases h
set_option tactic.hygienic true in
theorem kK{x:PV}{ds:List D}(h:PV.ds (x::xs)=some ds):∃d r,x.d=some d/\PV.ds xs=some r/\ds=d::r:=by
 unfold PV.ds at h;split at h
 ·rename_i d r e1 e2;cases h;exact⟨d,r,e1,e2,rfl⟩
 ·cases h
theorem pR:∀(n:Nat)(x:PV),x.pl n=true->∃d,x.d=some d/\d.depth<=n:=by
 intro n
 induction n with
 |zero=>
  intro x h;cases x <;> first|exact⟨_,rfl,OO _⟩|(simp[PV.pl]at h)
 |succ n ih=>
  intro x h;cases x with
  |tup xs=>
   have h:xs.all (PV.pl n)=true:=h;have many:∀(xs:List PV),xs.all (PV.pl n)=true->∃ds,PV.ds xs=some ds/\D.depths ds<=n:=by
    intro xs
    induction xs with
    |nil=>intro _;exact⟨[],rfl,Pu _⟩
    |cons x xs ihx=>
     intro h;simp only[Ra,Pj]at h;obtain⟨d,h1,h2⟩:=ih x h.1;obtain⟨ds,h3,h4⟩:=ihx h.2;refine⟨d::ds,D0 h1 h3,?_⟩
     show max d.depth (D.depths ds)<=n
     omega
   obtain⟨ds,h1,h2⟩:=many xs h;refine⟨.tup ds,MZ h1,?_⟩
   show D.depths ds+1<=n+1
   omega
  |_=>first|exact⟨_,rfl,Pu _⟩|(simp[PV.pl]at h)
theorem FZ:∀(n:Nat)(x y:PV)(d e:D),x.pl n=true->y.pl n=true->x.d=some d->y.d=some e->eqD d e=decide (x=y):=by
 intro n
 induction n with
 |zero=>
  intro x y d e hx hy h1 h2;cases x <;> first|(simp[PV.pl]at hx;done)|skip
  all_goals cases h1
  all_goals cases y <;> first|(simp[PV.pl]at hy;done)|skip
  all_goals cases h2
  all_goals simp only[eqD]
  all_goals rw[QS]
  all_goals simp
 |succ n ih=>
  intro x y d e hx hy h1 h2;have lists:∀(xs ys:List PV)(ds es:List D),xs.all (PV.pl n)=true->ys.all (PV.pl n)=true->PV.ds xs=some ds->PV.ds ys=some es->fB ds es=decide (xs=ys):=by
   intro xs
   induction xs with
   |nil=>
    intro ys ds es _ _ h1 h2;cases h1
    cases ys with
    |nil=>cases h2;rfl
    |cons y ys=>obtain⟨d,r,_,_,rfl⟩:=kK h2;simp[fB]
   |cons x xs ihx=>
    intro ys ds es hx hy h1 h2;obtain⟨d,r,g1,g2,rfl⟩:=kK h1;simp only[Ra,Pj]at hx;cases ys with
    |nil=>cases h2;simp[fB]
    |cons y ys=>
     obtain⟨e,q,g3,g4,rfl⟩:=kK h2;simp only[Ra,Pj]at hy;simp only[fB,ih x y d e hx.1 hy.1 g1 g3,ihx ys r q hx.2 hy.2 g2 g4];rw[QS];simp
  cases x with
  |tup xs=>
   obtain⟨ds,g1,rfl⟩:=eF h1;cases y with
   |tup ys=>
    obtain⟨es,g2,rfl⟩:=eF h2;simp only[eqD,lists xs ys ds es hx hy g1 g2];rw[QS];simp
   |non=>cases h2;simp[eqD]
   |int j=>cases h2;simp[eqD]
   |str j=>cases h2;simp[eqD]
   |_=>simp[PV.pl]at hy
  |non=>
   cases h1
   cases y with
   |tup ys=>obtain⟨es,g2,rfl⟩:=eF h2;simp[eqD]
   |non=>cases h2;simp[eqD]
   |int j=>cases h2;simp[eqD]
   |str j=>cases h2;simp[eqD]
   |_=>simp[PV.pl]at hy
  |int i=>
   cases h1
   cases y with
   |tup ys=>obtain⟨es,g2,rfl⟩:=eF h2;simp[eqD]
   |non=>cases h2;simp[eqD]
   |int j=>cases h2;simp only[eqD];rw[QS];simp
   |str j=>cases h2;simp[eqD]
   |_=>simp[PV.pl]at hy
  |str i=>
   cases h1
   cases y with
   |tup ys=>obtain⟨es,g2,rfl⟩:=eF h2;simp[eqD]
   |non=>cases h2;simp[eqD]
   |int j=>cases h2;simp[eqD]
   |str j=>cases h2;simp only[eqD];rw[QS];simp
   |_=>simp[PV.pl]at hy
  |_=>simp[PV.pl]at hx
theorem D3{x:PV}{y:PV}(hx:x.pl 40=true)(hy:y.pl 40=true):yH x y h=some (decide (x=y)):=by
 obtain⟨d,h1,h2⟩:=pR 40 x hx;obtain⟨e,h3,h4⟩:=pR 40 y hy;unfold yH;rw[h1,h3];simp only[h2,if_true,FZ 40 x y d e hx hy h1 h3]
theorem pS{x:PV}{y:PV}(hx:x.pl 40=true)(hy:y.pl 40=true):vEq x y h=.ok (.bl (decide (x=y))) h:=by unfold vEq;rw[D3 hx hy];rfl
theorem G0{x:PV}{y:PV}(hx:x.pl 40=true)(hy:y.pl 40=true):vNe x y h=.ok (.bl (!decide (x=y))) h:=by unfold vNe;rw[D3 hx hy];rfl
@[simp]theorem Il{i j:Int}:vEq (.int i) (.int j) h=.ok (.bl (decide (i=j))) h:=by rw[pS rfl rfl];congr 2;simp
@[simp]theorem NF{i j:Int}:vNe (.int i) (.int j) h=.ok (.bl (!decide (i=j))) h:=by rw[G0 rfl rfl];congr 3;simp
@[simp]theorem D4{i j:Str}:vEq (.str i) (.str j) h=.ok (.bl (decide (i=j))) h:=by rw[pS rfl rfl];congr 2;simp
@[simp]theorem D5{i j:Str}:vNe (.str i) (.str j) h=.ok (.bl (!decide (i=j))) h:=by rw[G0 rfl rfl];congr 3;simp
theorem G1{x:PV}(hx:x.pl 39=true)(hy:ys.all (PV.pl 39)=true):sU x ys=some (decide (x∈ys)):=by
 have key:∀ys:List PV,ys.all (PV.pl 39)=true->∃ds,PV.ds ys=some ds/\D.depths ds<=39/\∀d,x.d=some d->(ds.any λe=>eqD e d)=decide (x∈ys):=by
  intro ys
  induction ys with
  |nil=>intro _;exact⟨[],rfl,Pu _,λ_ _=>by simp⟩
  |cons y ys ih=>
   intro h;simp only[Ra,Pj]at h;obtain⟨e,h1,h2⟩:=pR 39 y h.1;obtain⟨ds,h3,h4,h5⟩:=ih h.2;refine⟨e::ds,D0 h1 h3,?_,λd hd=>?_⟩
   ·show max e.depth (D.depths ds)<=39
    omega
   ·rw[Rx,h5 d hd,FZ 39 y x e d h.1 hx h1 hd,QS];simp only[Bool.or_eq_true,decide_eq_true_eq,KP];constructor
    ·rintro(h|h)
     ·exact .inl h.symm
     ·exact .inr h
    ·rintro(h|h)
     ·exact .inl h.symm
     ·exact .inr h
 obtain⟨d,h1,h2⟩:=pR 39 x hx;obtain⟨ds,h3,h4,h5⟩:=key ys hy;unfold sU;rw[h1,h3];simp only[show D.depths ds<=40 by omega,if_true,h5 d h1]
theorem mZ{x:PV}(hx:x.pl 39=true)(hy:ys.all (PV.pl 39)=true):sV x (.tup ys) h=.ok (.bl (!decide (x∈ys))) h:=by
 unfold sV BR;dsimp only;rw[G1 hx hy];rfl
theorem G2{m:Nat}(e1:h[n]?=some (.lst xs))(e2:h[m]?=some (.lst ys))(hx:xs.all (PV.pl 39)=true)(hy:ys.all (PV.pl 39)=true):yH (.ref n) (.ref m) h=some (decide (xs=ys)):=by
 have e3:mI (.ref n) h=some xs:=by unfold mI aO;simp only[e1]
 have e4:mI (.ref m) h=some ys:=by unfold mI aO;simp only[e2]
 have cf:(PV.tup xs).pl 40=true:=hx;have vq:(PV.tup ys).pl 40=true:=hy;obtain⟨d,h1,h2⟩:=pR 40 _ cf;obtain⟨e,h3,h4⟩:=pR 40 _ vq;obtain⟨ds,g1,rfl⟩:=eF h1;obtain⟨es,g2,rfl⟩:=eF h3;have h5:=FZ 40 _ _ _ _ cf vq h1 h3;have gj:D.depths ds+1<=40:=h2;have xq:fB ds es=decide (xs=ys):=by
  have:fB ds es=decide (PV.tup xs=PV.tup ys):=h5;rw[this,QS];simp
 unfold yH;have n1:(PV.ref n).d=none:=rfl;rw[n1];simp only[e3,e4,g1,g2,show D.depths ds<=40 by omega,if_true,xq]
theorem Im{m:Nat}(e1:h[n]?=some (.lst xs))(e2:h[m]?=some (.lst ys))(hx:xs.all (PV.pl 39)=true)(hy:ys.all (PV.pl 39)=true):vNe (.ref n) (.ref m) h=.ok (.bl (!decide (xs=ys))) h:=by unfold vNe;rw[G2 e1 e2 hx hy];rfl
section
variable{α:Type}{a b c d e f g:α}{r:List α}
theorem rN{xs:List α}{v:α}(i:Nat)(h:xs[i]?=some v):atI xs (i:Int)=some v:=Kb h
@[simp]theorem OK:atI (a::r) 0=some a:=rN 0 rfl
@[simp]theorem OL:atI (a::b::r) 1=some b:=rN 1 rfl
@[simp]theorem OM:atI (a::b::c::r) 2=some c:=rN 2 rfl
@[simp]theorem ON:atI (a::b::c::d::r) 3=some d:=rN 3 rfl
end
open PySem PySem.Spec PyProof.Rows
variable{C:MC}{k:Nat}{X:Cx}
theorem BX{M:Program×World}(hl:s.heap.IsList l items)(h:∀s₂:Shared,s₂={ s with heap:=s.heap.push { cls:=.type "list_iterator",data:=.fields #[.ref l,.int 0 0] } }->
   (s₂.heap.IsListIter s.heap.objs.size l 0/\s₂.heap.IsList l items)->(∀b∈[s.heap.objs.size,l],b<s₂.heap.objs.size)->l≠s.heap.objs.size->Q (.ref s.heap.objs.size) s₂):
  wpAny (model M.1 M.2) A (pyIter (.ref l)) Q E s:=by
 have ag:l<s.heap.objs.size:=by obtain⟨_,e,_⟩:=hl;exact OS e
 refine Sa hl (h _ rfl ⟨⟨_,OQ _ rfl,rfl,rfl⟩,hl.push _⟩ (λb hb=>?_) (OW ag))
 show b<(s.heap.push _).objs.size
 rw[Qp];rcases KP.mp hb with rfl|hb
 ·exact Nat.lt_succ_self _
 ·rcases KP.mp hb with rfl|hb
  ·exact Q1 ag
  ·cases hb
theorem Ed(hc:X.calm=true)(K:z9)(hK:X.K=K):cG X (.builtin "all") (λxs H Q=>∃(p:Addr)(bs:List Bool),xs=[.ref p]/\SqL K H p (bs.map V.bl)/\Q (.bl (bs.all id)) H):=by
 subst hK;intro pins s σ H xs us Q I r h;obtain⟨p,bs,rfl,hq,q⟩:=h;obtain⟨u,rfl,ru⟩:=vals1 r;cases ru
 obtain⟨its,rv,pl,hz⟩:=I.list hq;have hlen:=rv.length;rw[OP]at hlen;refine call_all_walk (BX (M:=(X.prog,X.w)) pl.isList λs₂ e st hfp yd=>?_);subst e;refine⟨_,_,_,_,_,_,λi=>(bs[i]?).getD true,rfl,Walks.list (A:=X.A.in1) (I.ok.hd hc) _ p yd its.toArray,st,?_,λh' tk hk=>?_⟩
 ·intro i v s' Q' E' hP hQ;have v7:its[i]?=some v:=by simpa using hP
  obtain⟨hi,_⟩:=Io.mp v7;have hb:i<bs.length:=by omega
  obtain⟨u,hu,ru⟩:=rv.get (show(bs.map V.bl)[i]?=some (.bl bs[i]) by simp[hb]);rw[v7]at hu;cases hu
  cases ru
  refine QJ ?_;have:(bs[i]?).getD true=bs[i]:=by simp[hb]
  rw[<-this];exact hQ
 ·have e:((Pm its.toArray.size).all λi=>(bs[i]?).getD true)=bs.all id:=by
   have hs:its.toArray.size=bs.length:=by simp[hlen]
   rw[hs,QS,Pp,Pp];constructor
   ·intro h b hb;obtain⟨i,hi,rfl⟩:=Se.mp hb;have:=h i (QX.mpr hi);simpa[hi] using this
   ·intro h i hi;have bc:=QX.mp hi;have:=h bs[i] (Qt bc);simpa[bc] using this
  rw[e];exact⟨.bl _,H,I.kept (old_kept hk),rfl,q⟩
def Ee:List PV->Option (List Bool)
 |[]=>some []
 |.bl i::r=>(Ee r).map (i::·)
 |_::_=>none
theorem G3{φ:List Addr}{H:Hp}:∀{xs:List PV}{vs:List V}{ns:List Bool},RVs C φ H xs vs->Ee xs=some ns->vs=ns.map V.bl
 |[],[],_,_,e=>by cases e;rfl
 |x::xs,v::vs,ns,⟨h,r⟩,e=>by
  cases x with
  |bl i=>
   cases h
   simp only[Ee,Qn]at e;obtain⟨m,e,rfl⟩:=e;rw[G3 r e];rfl
  |_=>cases e
 |[],_::_,_,h,_=>h.elim
 |_::_,[],_,h,_=>h.elim
theorem G4(ns:List Bool):Ee (ns.map PV.bl)=some ns:=by
 induction ns with
 |nil=>rfl
 |cons n ns ih=>simp[Ee,ih]
def Au:List PV->PH->Rs PV:=λxs h=>match xs with
 |[x]=>match mI x h with
  |some ys=>match Ee ys with
   |some ns=>.ok (.bl (ns.all id)) h
   |none=>.bad
  |none=>.bad
 |_=>.bad
set_option tactic.hygienic true in
theorem N0:jU C k X (.builtin "all") Au:=λc=>(Ed c.calm C.K c.K).imp λvs H Q h=>by
 obtain⟨φ,h,ps,rh,rv,po⟩:=h;unfold Au at po;split at po
 ·obtain⟨v,rfl,rx⟩:=rv.one;split at po
  ·rename_i ys e;split at po
   ·rename_i ns en;obtain⟨a,vs,rfl,sa,ra⟩:=sQ rh rx e;rw[G3 ra en]at sa;exact⟨a,ns,rfl,sa,po.val rh rfl⟩
   ·exact po.elim
  ·exact po.elim
 ·exact po.elim
theorem G5{ns:List Bool}(e:h[n]?=some (.lst (ns.map PV.bl))):Au [.ref n] h=.ok (.bl (ns.all id)) h:=by
 have e1:mI (.ref n) h=some (ns.map PV.bl):=by unfold mI aO;simp only[e]
 unfold Au;simp only[e1,G4]
open PySem
@[simp]theorem yN(c:z.length<=16777216):vSl (.str z) lo hi h=.ok (.str (Rc z lo hi)) h:=if_pos c
@[simp]theorem NG:vSl (.tup xs) lo hi h=.ok (.tup (iY xs lo hi)) h:=(rfl)
@[simp]theorem KW:vSl (.fl xs) lo hi h=.ok (.ref h.length) (h++[.lst (iY xs lo hi)]):=(rfl)
theorem D6(e:h[n]?=some (.lst xs)):vSl (.ref n) lo hi h=.ok (.ref h.length) (h++[.lst (iY xs lo hi)]):=by
 have e3:aO h n=some xs:=by unfold aO;rw[e]
 unfold vSl;simp only[e3]
theorem D7{d:Nat}{i:Int}(h0:0<=i):HT.sIx n d (some i)=min i.toNat n:=by
 show(if i<0 then(i+(n:Int)).toNat else min i.toNat n)=_
 rw[if_neg (by omega)]
theorem KY{α:Type}{xs:List α}{j:Int}(h0:0<=j):iY xs none (some j)=xs.take j.toNat:=by
 unfold iY;rw[D7 h0];simp only[HT.sIx,List.drop_zero,Nat.sub_zero];rw[List.take_eq_take_iff];omega
theorem tH{α:Type}{xs:List α}{j:Int}(h0:0<=j):iY xs (some j) none=xs.drop j.toNat:=by
 unfold iY;rw[D7 h0];simp only[HT.sIx]
 by_cases hj:j.toNat<=xs.length
 ·rw[Nat.min_eq_left hj,List.take_of_length_le (by rw[List.length_drop];omega)]
 ·rw[Nat.min_eq_right (by omega),List.drop_of_length_le (OO _),List.drop_of_length_le (by omega)];simp
section
variable{tg:Mg}{g:PH->Bool}
theorem D8{δ0:Ev}{Q:PV->PH->Prop}(I:Nat->PH->Prop):∀(xs:List PV)(k:Nat)(h:PH),I k h->
  (∀i x h,k<=i->xs[i-k]?=some x->I i h->g h=true/\∃δ1,tg x δ0=some δ1/\(cb δ1 h).W λb h'=>if b=true then(elt δ1 h').W λp ig=>∃ys,ig[n]?=some (.lst ys)/\ys.length<16777216/\I (i+1) (ig.set n (.lst (ys++[p]))) else I (i+1) h')->
  (∀h,I (k+xs.length) h->g h=true/\Q (.ref n) h)->(jV g tg cb elt δ0 n xs h).W Q
 |[],k,h,i0,_,fin=>by
  obtain⟨h1,h2⟩:=fin h i0;simp[jV,h1,h2]
 |x::xs,k,h,i0,step,fin=>by
  obtain⟨h1,δ1,h2,h3⟩:=step k x h (OO _) (by simp) i0;have go:∀h2,I (k+1) h2->(jV g tg cb elt δ0 n xs h2).W Q:=λh2 i2=>
   D8 I xs (k+1) h2 i2 (λi y h hk hy=>step i y h (by omega) (by
    have:i-k=(i-(k+1))+1:=by omega
    rw[this,QA];exact hy)) (λh hi=>fin h (by
    have e:k+(x::xs).length=k+1+xs.length:=by simp;omega
    rw[e];exact hi))
  unfold jV;rw[if_pos h1,h2]
  show(Rs.bind (cb δ1 h) _).W Q
  rw[BV];refine FP h3 λb h' hb=>?_;cases b with
  |false=>exact go h' (by simpa using hb)
  |true=>
   show(Rs.bind (elt δ1 h') _).W Q
   rw[BV];refine FP (show(elt δ1 h').W _ from by simpa using hb) λp ig hp=>?_
   obtain⟨ys,e,hz,hi⟩:=hp;have e':bV ig n=some ys:=by unfold bV;rw[e]
   simp[e',hz];exact go _ hi
theorem oP(e:m δ h=.ok (.ref n) h1)(hn:h1[n]?=some (.lst xs)):bH m δ h=.ok ⟨xs,sY n xs⟩ h1:=by
 unfold bH;have e3:aO h1 n=some xs:=by unfold aO;rw[hn]
 rw[e,Rs.bind_ok];unfold ofSeq;simp only[e3]
theorem oQ(hn:h1[n]?=some (.lst xs)):∀h,Ext h1 h->sY n xs h=true:=λh hx=>by
 have e3:aO h n=some xs:=by unfold aO;rw[hx _ _ hn]
 unfold sY;rw[e3];exact PV.beqs_self xs
theorem iJ(e:m δ h=.ok (.tup xs) h1):bH m δ h=.ok ⟨xs,λ_=>true⟩ h1:=by
 unfold bH;rw[e];rfl
end
open PySem PySem.Spec PyProof.Rows
variable{ks:List (PV×Addr×V)}
section
variable{σ:St}
mutual
theorem G6(I:Inv X pins σ H s)(hK:X.K=C.K):∀(n:Nat){p:PV}{v:V}{u:Value},p.ky n=true->RV C φ H p v->RelV v u->HR s.heap p u
 |_,.int i,v,u,_,r,ru=>by cases r;exact ru
 |_,.str i,v,u,_,r,ru=>by cases r;exact ru
 |n+1,.tup ps,v,u,hk,r,ru=>by
  obtain⟨a,vs,rfl,q,rs⟩:=r;cases ru
  rw[<-hK]at q;obtain⟨its,rv,p,_⟩:=I.tuple q;exact⟨a,its,rfl,p,D9 I hK n (Pp.mp hk) rs rv⟩
 |0,.tup _,_,_,hk,_,_=>by cases hk
 |n,.non,_,_,hk,_,_=>by cases n <;> cases hk
 |n,.bl _,_,_,hk,_,_=>by cases n <;> cases hk
 |n,.ref _,_,_,hk,_,_=>by cases n <;> cases hk
 |n,.ty _,_,_,hk,_,_=>by cases n <;> cases hk
 |n,.fl _,_,_,hk,_,_=>by cases n <;> cases hk
theorem D9(I:Inv X pins σ H s)(hK:X.K=C.K):∀(n:Nat){ps:List PV}{vs:List V}{us:List Value},(∀p∈ps,p.ky n=true)->RVs C φ H ps vs->aI vs us->HRs s.heap ps us
 |_,[],[],us,_,_,ru=>by cases ru;trivial
 |n,p::ps,v::vs,us,hk,r,ru=>by
  cases ru with
  |cons h t=>exact⟨G6 I hK n (hk p Pb) r.1 h,D9 I hK n (λq hq=>hk q (OX _ hq)) r.2 t⟩
 |_,[],_::_,_,_,r,_=>r.elim
 |_,_::_,[],_,_,r,_=>r.elim
end
abbrev Av:List (PV×Addr×V)->List (PV×Addr×Value)->Prop:=Paired λp q=>p.1=q.1/\p.2.1=q.2.1/\RelV p.2.2 q.2.2
def HD(C:MC)(φ:List Addr)(H:Hp)(X:Cx)(s:Shared)(a:Addr)(kvs:List (PV×PV)):Prop:=
 ∃ks xs,RKd C φ H kvs ks/\Av ks xs/\xs.length<=OR/\(a == QI)=false/\s.heap.DictOfH (sO X.prog X.w) a xs
def uU(h:PH)(n:Nat):Option (List (PV×PV)):=match h[n]? with
 |some (.dD kvs)=>some kvs
 |some (.dK [])=>some []
 |_=>none
def PV.isKt:PV->Bool
 |.tup xs=>(PV.tup xs).ky 6
 |_=>false
theorem yO(h:p.isKt=true):p.ky 6=true:=by cases p <;> first|exact h|cases h
theorem oR{v:V}(h:p.isKt=true)(r:RV C φ H p v):∃b,v=.ref b:=by
 cases p <;> first|(obtain⟨b,_,e,_⟩:=r;exact⟨b,e⟩)|cases h
set_option tactic.hygienic true in
theorem wK{kvs:List (PV×PV)}(I:Inv X pins σ H s)(hK:X.K=C.K)(hw:X.w=C.w)(rh:RH C φ H h)(ha:φ[n]?=some a)(e:uU h n=some kvs):HD C φ H X s a kvs/\Mut (H a)/\CK (H a):=by
 unfold uU at e;split at e
 ·rename_i kv hk;cases e
  obtain⟨ks,hH,r⟩:=rh.at' n a _ ha hk;have hO:bS X.prog X.w H s.heap a (dDO C.w a ks):=I.hok a _ hH;obtain⟨⟨hz,hm,xs,rx,o,es,ep,h1,h2,h3,h4,h5⟩,_⟩:=hO;refine⟨⟨ks,xs,r,rx,by rw[<-Rv rx];exact hz,hm,o,es,ep,h1,h2,h3,?_,?_,h5⟩,by rw[hH];exact QK,by rw[hH];exact QK⟩
  ·rw[h4,<-hw];rfl
  ·have all:∀{l:List (PV×PV)}{m:List (PV×Addr×V)}{z:List (PV×Addr×Value)},RKd C φ H l m->Av m z->∀x∈z,(sO X.prog X.w).is s.heap x.1 x.2.1:=by
    intro l m z q;unfold RKd at q
    induction q generalizing z with
    |nil=>intro rz x hx;cases rz;cases hx
    |cons hq t ih=>
     intro rz x hx;cases rz with
     |cons hz' tz=>
      rcases KP.mp hx with e|hx
      ·subst e;refine⟨?_,?_⟩
       ·rw[<-hz'.1,<-hq.1];exact hq.2.1
       ·rw[<-hz'.1,<-hq.1,<-hz'.2.1];exact G6 I hK 6 hq.2.1 hq.2.2.1 rfl
      ·exact ih tz x hx
   exact all r rx
 ·rename_i hk;cases e
  obtain⟨ks,hH,r⟩:=rh.at' n a _ ha hk;have:ks=[]:=by cases r;rfl
  subst this;obtain⟨z,hd,vs,rel,o,es,ep,h1,h2,h3,h4,h5,h6⟩:=CH I.hok hH;have:vs=[]:=by cases rel;rfl
  subst this;refine⟨⟨[],[],.nil,.nil,Pu _,hd,o,es,ep,h1,h2,h3,?_,(λx hx=>nomatch hx),List.nodup_nil⟩,by rw[hH];exact QK,by rw[hH];exact QK⟩;cases he:es.toList with
  |nil=>rfl
  |cons y ys=>rw[he]at h5;cases h5
 ·cases e
theorem HD.val{a:Addr}{kvs:List (PV×PV)}{xs:List (PV×Addr×Value)}(r:RKd C φ H kvs ks)(rx:Av ks xs)(k:PV):match cA kvs k,(atKey xs k).map (·.2) with
  |some p,some u=>∃v,RelV v u/\RV C φ H p v
  |none,none=>True
  |_,_=>False:=by
 unfold RKd at r
 induction r generalizing xs with
 |nil=>cases rx;trivial
 | @cons p q ps qs h t ih=>
  cases rx with
  | @cons q' x qs' xs' hx tx=>
   obtain⟨pk,pv⟩:=p
   by_cases e:pk=k
   ·have e':x.1=k:=hx.1.symm.trans (h.1.symm.trans e);have b:atKey (x::xs') k=some x.2:=by simp[atKey,QR,e']
    rw[b];unfold cA;rw[if_pos e];exact⟨_,hx.2.2,h.2.2.2⟩
   ·have e':¬ x.1=k:=λz=>e (h.1.trans (hx.1.trans z));have b:atKey (x::xs') k=atKey xs' k:=by simp[atKey,QR,e']
    rw[b];unfold cA;rw[if_neg e];exact ih tx
def oS{κ:Type}[DecidableEq κ](kvs:List (κ×PV))(k:κ)(p:PV):List (κ×PV):=if(cA kvs k).isSome then kvs.map (λkv=>if kv.1=k then(kv.1,p) else kv) else kvs++[(k,p)]
theorem HD.replace{a:Addr}{kvs:List (PV×PV)}{xs:List (PV×Addr×Value)}(r:RKd C φ H kvs ks)(rx:Av ks xs)(k:PV){v:V}(rp:RV C φ H p v)(ru:RelV v u):
  ∃c9,RKd C φ H (kvs.map λkv=>if kv.1=k then(kv.1,p) else kv) c9/\Av c9 (xs.map (putAt k u)):=by
 unfold RKd at r
 induction r generalizing xs with
 |nil=>cases rx;exact⟨[],.nil,.nil⟩
 | @cons pp q ps qs h t ih=>
  cases rx with
  | @cons q' x qs' xs' hx tx=>
   obtain⟨c9,r1,r2⟩:=ih tx
   by_cases e:pp.1=k
   ·refine⟨(q.1,q.2.1,v)::c9,.cons ?_ r1,.cons ?_ r2⟩
    ·simp only[if_pos e];exact⟨h.1,h.2.1,h.2.2.1,rp⟩
    ·unfold putAt;rw[if_pos (hx.1.symm.trans (h.1.symm.trans e))];exact⟨hx.1,hx.2.1,ru⟩
   ·refine⟨q::c9,.cons ?_ r1,.cons ?_ r2⟩
    ·simp only[if_neg e];exact h
    ·unfold putAt;rw[if_neg λz=>e (h.1.trans (hx.1.trans z))];exact hx
theorem HD.put{a b:Addr}{kvs:List (PV×PV)}{xs:List (PV×Addr×Value)}(r:RKd C φ H kvs ks)(rx:Av ks xs){k:PV}(hk:k.ky 6=true)(rk:RV C φ H k (.ref b)){v:V}(rp:RV C φ H p v)(ru:RelV v u):
  ∃c9,RKd C φ H (oS kvs k p) c9/\Av c9 (storedH xs k b u):=by
 have hv:=HD.val (a:=b) r rx k;unfold oS storedH;cases e1:cA kvs k with
 |some p0=>
  rw[e1]at hv;cases e2:atKey xs k with
  |none=>rw[e2]at hv;exact hv.elim
  |some z=>exact HD.replace (a:=b) r rx k rp ru
 |none=>
  rw[e1]at hv;cases e2:atKey xs k with
  |some z=>rw[e2]at hv;exact hv.elim
  |none=>exact⟨ks++[(k,b,v)],Paired.snoc r ⟨rfl,hk,rk,rp⟩,Paired.snoc rx ⟨rfl,rfl,ru⟩⟩
theorem HD.isSome{kvs:List (PV×PV)}{xs:List (PV×Addr×Value)}(r:RKd C φ H kvs ks)(rx:Av ks xs)(k:PV):(atKey xs k).isSome=(cA kvs k).isSome:=by
 have hv:=HD.val (a:=0) r rx k;cases e1:cA kvs k with
 |some p0=>
  rw[e1]at hv;cases e2:atKey xs k with
  |none=>rw[e2]at hv;exact hv.elim
  |some z=>rfl
 |none=>
  rw[e1]at hv;cases e2:atKey xs k with
  |some z=>rw[e2]at hv;exact hv.elim
  |none=>rfl
theorem wL(I:Inv X pins σ H s)(hK:X.K=C.K){b:Addr}(hk:p.isKt=true)(r:RV C φ H p (.ref b)):(sO X.prog X.w).is s.heap p b:=⟨yO hk,G6 I hK 6 (yO hk) r rfl⟩
end
theorem Cxt.room6{k:Nat}(c:Cxt C k X):(sO X.prog X.w).room X.A.in1:=by
 have:=c.hu64
 show X.A.units+1+6<cLine
 omega
def kL(x y:PV)(h:PH):Option (Option PV):=match y with
 |.ref n=>if x.isKt=true then(uU h n).map λkvs=>cA kvs x else none
 |_=>none
def Da(C:MC):V->V->Hp->(List Addr->Option PV->Prop)->Prop:=λx y H R=>∃φ h p n a kvs,RH C φ H h/\RV C φ H p x/\y=.ref a/\φ[n]?=some a/\uU h n=some kvs/\p.isKt=true/\R φ (cA kvs p)
set_option tactic.hygienic true in
theorem nA{q:PV}{x:V}{o:Option PV}{R:List Addr->Option PV->Prop}(rh:RH C φ H h)(rx:RV C φ H p x)(ry:RV C φ H q y)(e:kL p q h=some o)(r:R φ o):Da C x y H R:=by
 unfold kL at e;cases q with
 |ref n=>
  obtain⟨a,rfl,ha⟩:=ry;dsimp only at e;split at e
  ·rename_i hk;cases e1:uU h n with
   |none=>rw[e1]at e;cases e
   |some kvs=>rw[e1]at e;cases e;exact⟨φ,h,p,n,a,kvs,rh,rx,rfl,ha,e1,hk,r⟩
  ·cases e
 |_=>cases e
theorem Ip{k:Nat}(c:Cxt C k X):OpR X (Pn .In) (λx y H Q=>Da C x y H λ_ o=>Q (.bl o.isSome) H):=λpins s σ H x y v u Q I rx ry h=>by
 obtain⟨φ,h,p,n,a,kvs,rh,rp,rfl,ha,ht,hk,q⟩:=h;cases ry
 obtain⟨b,rfl⟩:=oR hk rp;cases rx
 obtain⟨⟨ks,xs,r,gm,hz,hm,dd⟩,_⟩:=wK I c.K c.w rh ha ht;refine wpAny_in_heap c.room6 (wL I c.K hk rp) hm dd ?_;rw[HD.isSome r gm p];exact⟨.bl _,H,I.tok _,rfl,q⟩
theorem BY{k:Nat}(c:Cxt C k X):OpR X (Pn .NotIn) (λx y H Q=>Da C x y H λ_ o=>Q (.bl (!o.isSome)) H):=λpins s σ H x y v u Q I rx ry h=>by
 obtain⟨φ,h,p,n,a,kvs,rh,rp,rfl,ha,ht,hk,q⟩:=h;cases ry
 obtain⟨b,rfl⟩:=oR hk rp;cases rx
 obtain⟨⟨ks,xs,r,gm,hz,hm,dd⟩,_⟩:=wK I c.K c.w rh ha ht;refine wpAny_notIn_heap c.room6 (wL I c.K hk rp) hm dd ?_;rw[HD.isSome r gm p];exact⟨.bl _,H,I.tok _,rfl,q⟩
def Ef:PV->PV->PH->Rs PV:=λx y h=>match kL x y h with
 |some o=>.ok (.bl o.isSome) h
 |none=>vIn x y h
def jA:PV->PV->PH->Rs PV:=λx y h=>match kL x y h with
 |some o=>.ok (.bl (!o.isSome)) h
 |none=>sV x y h
theorem N1{k:Nat}:OpS C k X (Pn .In) Ef:=λc=>((Oc c).or (Ip c)).imp λx y H Q h=>by
 obtain⟨φ,h,p,q,rh,rx,ry,po⟩:=h;unfold Ef at po;cases e:kL p q h with
 |none=>rw[e]at po;exact .inl ⟨φ,h,p,q,rh,rx,ry,po⟩
 |some o=>rw[e]at po;exact .inr (nA rh rx ry e (po.val rh rfl))
theorem G7{k:Nat}:OpS C k X (Pn .NotIn) jA:=λc=>((HY c).or (BY c)).imp λx y H Q h=>by
 obtain⟨φ,h,p,q,rh,rx,ry,po⟩:=h;unfold jA at po;cases e:kL p q h with
 |none=>rw[e]at po;exact .inl ⟨φ,h,p,q,rh,rx,ry,po⟩
 |some o=>rw[e]at po;exact .inr (nA rh rx ry e (po.val rh rfl))
theorem Oq{k:Nat}(c:Cxt C k X):IxR X (λx y H Q=>Da C y x H λφ o=>∃p,o=some p/\∀v:V,RV C φ H p v->Q v H):=by
 intro value slice pins s σ H x y v u Q I rx ry h hs;obtain⟨φ,h,p,n,a,kvs,rh,rp,rfl,ha,ht,hk,p',ep,q⟩:=h;cases rx
 obtain⟨b,rfl⟩:=oR hk rp;cases ry
 obtain⟨⟨ks,xs,r,gm,hz,hm,dd⟩,_⟩:=wK I c.K c.w rh ha ht;have hT:=dd.typeIs;have hv:=HD.val (a:=a) r gm p;rw[ep]at hv;cases e2:atKey xs p with
 |none=>rw[e2]at hv;exact hv.elim
 |some z=>
  rw[e2]at hv;obtain⟨v',af,ax⟩:=hv;unfold subscriptTail;refine ff ?_;rw[getitemInPython_of_ne hT.not_modules];refine ff (Rp hT Sg.lookup ?_);have fin:wpAny (model X.prog X.w) X.A (subscripted slice false (.ref a) (.ref b)) (λr s₃=>wpAny (model X.prog X.w) X.A (letTemporaryGo value (.ref a) r >>= λ_=>pure r) (EP X pins σ Q) X.xe s₃) X.xe s:=by
   rw[hs];exact wpAny_operating (wpAny_getItem_heap c.room6 (wL I c.K hk rp) dd e2 (ff (wpAny_letTemporaryGo (z8 ⟨v',H,I.tok _,af,q v' ax⟩))))
  first
   |exact z8 (ff fin)
   |exact ff (z8 (ff fin))
   |exact ff fin
def vAt:PV->PV->PH->Rs PV:=λx y h=>match kL y x h with
 |some (some p)=>.ok p h
 |some none=>.bad
 |none=>vIx x y h
theorem Os{k:Nat}{a:Expr}(ha:SE C k X a ma)(hb:SE C k X b mb)(hs:CF b:=by intro _ _;rfl):SE C k X (.Subscript a b pos) (aB vAt ma mb):=λc=>
 (LS ((ixC c.hu C.K c.K).or (Oq c)) (ha c) (hb c) hs).imp λσ H Q h=>by
  obtain⟨φ,δ,h,rh,re,p⟩:=CP h;refine⟨φ,δ,h,rh,re,p.imp ?_⟩;rintro v H1 ⟨φ,δ,h,rh,re,p⟩;refine⟨φ,δ,h,rh,re,p.imp ?_⟩;rintro u H2 ⟨φ,h,p,q,rh,rx,ry,po⟩;unfold vAt at po;cases e:kL q p h with
  |none=>rw[e]at po;exact .inl (Mz ⟨φ,h,p,q,rh,rx,ry,po⟩)
  |some o=>
   rw[e]at po;cases o with
   |none=>exact po.elim
   |some r=>exact .inr (nA rh ry rx e ⟨r,rfl,λv' rv=>po.val rh rv⟩)
def BZ(x y v:PV)(h:PH):Option PH:=match x with
 |.ref n=>match oH y,h[n]? with
  |some key,some (.dK kvs)=>if kvs.length<OR then some (h.set n (.dK (oS kvs key v))) else none
  |some _,_=>none
  |none,_=>if y.isKt=true then(match uU h n with
   |some kvs=>if kvs.length<OR then some (h.set n (.dD (oS kvs y v))) else none
   |none=>none) else none
 |_=>none
theorem C0{κ:Type}[DecidableEq κ]{kvs:List (κ×PV)}{ks:List (κ×V)}(r:RKv C φ H kvs ks)(a:κ):(cA kvs a).isSome=(iD ks a).isSome:=by
 have:=pO r a;cases e1:cA kvs a with
 |none=>
  cases e2:iD ks a with
  |none=>rfl
  |some v=>rw[e1,e2]at this;exact this.elim
 |some p=>
  cases e2:iD ks a with
  |none=>rw[e1,e2]at this;exact this.elim
  |some v=>rfl
set_option tactic.hygienic true in
theorem Aw{κ:Type}[DecidableEq κ]{kvs:List (κ×PV)}{ks:List (κ×V)}(r:RKv C φ H kvs ks)(a:κ){v:V}(rp:RV C φ H p v):RKv C φ H (oS kvs a p) (putK ks a v):=by
 unfold oS putK;rw[sA,C0 r a];split
 ·rename_i hx;clear hx;unfold RKv at r⊢
  induction r with
  |nil=>exact .nil
  | @cons p' q' ps qs h t ih=>
   refine .cons ?_ ih
   by_cases e:p'.1=a
   ·have e':q'.1=a:=h.1.symm.trans e;simp only[if_pos e,if_pos e'];exact⟨h.1,rp⟩
   ·have e':¬ q'.1=a:=λz=>e (h.1.trans z);simp only[if_neg e,if_neg e'];exact h
 ·exact Paired.snoc r ⟨rfl,rp⟩
variable{xu yu:Value}
set_option tactic.hygienic true in
theorem wM{k:Nat}{h':PH}{px py pv:PV}{x v:V}(c:Cxt C k X)(rh:RH C φ H h)(rx:RV C φ H px x)(ry:RV C φ H py y)(rv:RV C φ H pv v)(e:BZ px py pv h=some h'){σ:St}{Q:Unit->Shared->Prop}(I:Inv X pins σ H s)(jg:RelV x xu)(bw:RelV y yu)(ip:RelV v vu)(q:∀s' H',Inv X pins σ H' s'->Kp H H'->RH C φ H' h'->Q () s'):wpAny (model X.prog X.w) X.A (setItem xu yu vu) Q X.xe s:=by
 unfold BZ at e;cases px with
 |ref n=>
  obtain⟨a,rfl,ha⟩:=rx;cases jg
  dsimp only at e;split at e
  ·rename_i key kvs c6 hk;split at e
   ·rename_i hl;cases e
    obtain⟨ks,hH,rk⟩:=rh.at' n a _ ha hk;have ey:y=kV key:=sW ry c6;subst ey;have jj:ks.length<OR:=by rw[<-Rv rk];exact hl
    refine DL c.hu I (.k hH jj) bw ip λs' I'=>q s' _ I' (Kp.dK hH) ?_;refine rh.write ha (by rw[hH];exact QK) ⟨_,bC,?_⟩;exact(Aw rk key rv).mono OT (Kp.dK hH)
   ·cases e
  ·cases e
  ·split at e
   ·rename_i hk;split at e
    ·rename_i kvs ht;split at e
     ·rename_i hl;cases e
      obtain⟨b,rfl⟩:=oR hk ry;cases bw
      obtain⟨⟨ks,xs,r,gm,hz,hm,dd⟩,mu,nt⟩:=wK I c.K c.w rh ha ht;refine wpAny_setItem_heap (hsz:=hz) c.room6 (wL I c.K hk ry) dd λh' gh hs=>?_;obtain⟨c9,r1,r2⟩:=HD.put (a:=a) r gm (yO hk) ry rv ip;obtain⟨o,es,ep,hq,h2,h3,h4,_,h5⟩:=gh;have fj:c9.length<=OR:=by
       have e1:=Rv r1;have e2:(oS kvs py pv).length<=kvs.length+1:=by
        unfold oS;split
        ·rw[OP];omega
        ·simp
       omega
      refine q _ (upd H a (dDO C.w a c9)) (rD I mu hs ⟨o,hq⟩ ⟨⟨fj,hm,_,r2,o,es,ep,hq,h2,h3,?_,h5⟩,⟨o,hq⟩,?_⟩) (Kp.upd nt) ?_
      ·rw[h4,<-c.w];rfl
      ·rintro g1 g2 ⟨z1,z2,ws,z3,o',es',ie,z4,z5⟩ keep;exact⟨z1,z2,ws,z3,o',es',ie,keep _ z4,z5⟩
      ·exact rh.write ha nt ⟨c9,bC,RKd.mono OT (Kp.upd nt) r1⟩
     ·cases e
    ·cases e
   ·cases e
 |_=>cases e
open PySem PySem.Spec PyProof.Rows
def MtG(C:MC)(k:Nat)(X:Cx)(T:String)(ty:PV->PH->Bool)(id:String)(g:PV->List PV->PH->Rs PV):Prop:=Cxt C k X->MtR X id (rM C g)/\
 ∀pins s σ H φ h p x v,Inv X pins σ H s->RH C φ H h->RV C φ H p x->RelV x v->ty p h=true->s.TypeIs v T/\∀a,v=.ref a->∃ob,s.heap.get? a=some ob/\ob.dict=none
section
variable{k:Nat}
theorem C1{o:Expr}{id:String}{g:PV->List PV->PH->Rs PV}(pa:PlainAttrs T)(slot:Slot T name id)(jz:typeOf (.builtin id)=pure (.type "method_descriptor"))(hm:MtG C k X T ty id g)(ho:SE C k X o mo)(ha:SA C k X (e::es) ms)(ah:R5 o name X.env (eval o X.env)=eval o X.env:=by rfl)(bq:((backTo ab (Pe (e::es) X.env)).all (λx=>!x.1)&&(backToKw ab (keywordEach [] X.env)).all (λx=>x.1.isSome)
   && decide ((e::es).length+([]:List Keyword).length+(if([]:List Keyword).isEmpty then 0 else 1)<30))=true:=by rfl)(ai:(apos.endLine == ab.line)=true:=by rfl)(hs:Pe (e::es) X.env=(false,eval e X.env)::Pe es X.env:=by rfl)(bh:(backTo ab (Pe es X.env)).any (·.1)=false:=by rfl):
  SE C k X (.Call (.Attribute o name apos) (e::es) [] ab) (mMt ty g mo ms):=λc pins s σ H Q I ⟨φ,δ,h,rh,re,p⟩=>by
 refine wpAny_Call_method_late ah bq ai rfl (thn (ho c pins s σ H _ I ⟨φ,δ,h,rh,re,post.bind p⟩) ?_);rintro v s1 ⟨x,H1,I1,r1,φ1,px,h1,p1,t1,aa,af,q1⟩;obtain⟨ht,q1⟩:=q1.ite;obtain⟨g1,g2⟩:=(hm c).2 pins s1 σ H1 φ1 h1 px x v I1 aa af r1 ht;refine⟨T,id,pa,slot,jz,g1,g2,?_⟩;have hA:=ha c ab pins s1 σ H1 _ I1 ⟨φ1,δ,h1,aa,re.mono p1 t1,postA.bind q1⟩;rw[hs]at hA⊢;refine Qm (show(false || (backTo ab (Pe es X.env)).any (·.1))=false by rw[bh];rfl) (QW (thn hA ?_));rintro us s2 ⟨vs,H2,I2,r2,φ2,ps,h2,p2,t2,aj,ax,q2⟩;exact(hm c).1 pins s2 σ H2 x vs v us Q I2 r1 r2 ⟨φ2,h2,px,ps,aj,af.mono p2 t2,ax,q2⟩
theorem N2{o:Expr}{id:String}{g:PV->List PV->PH->Rs PV}(pa:PlainAttrs T)(slot:Slot T name id)(jz:typeOf (.builtin id)=pure (.type "method_descriptor"))(hm:MtG C k X T ty id g)(ho:SE C k X o mo)(ah:R5 o name X.env (eval o X.env)=eval o X.env:=by rfl)(ai:(apos.endLine == ab.line)=true:=by rfl):SE C k X (.Call (.Attribute o name apos) [] [] ab) (FN ty g mo):=λc pins s σ H Q I ⟨φ,δ,h,rh,re,p⟩=>by
 refine wpAny_Call_method0_late ah ai (thn (ho c pins s σ H _ I ⟨φ,δ,h,rh,re,post.bind p⟩) ?_);rintro v s1 ⟨x,H1,I1,r1,φ1,px,h1,p1,t1,aa,af,q1⟩;obtain⟨ht,q1⟩:=q1.ite;obtain⟨g1,g2⟩:=(hm c).2 pins s1 σ H1 φ1 h1 px x v I1 aa af r1 ht;exact⟨T,id,pa,slot,jz,g1,g2,Qm rfl (PySem.evalArgs_none ((hm c).1 pins s1 σ H1 x [] v [] Q I1 r1 .nil ⟨φ1,h1,px,[],aa,af,trivial,q1⟩))⟩
def eB(x:PV)(h:PH):Bool:=match x with
 |.ref n=>match h[n]? with
  |some (.dK _)=>true
  |some (.dD _)=>true
  |_=>false
 |_=>false
set_option tactic.hygienic true in
theorem tI(c:Cxt C k X):∀pins s σ H φ h p x v,Inv X pins σ H s->RH C φ H h->RV C φ H p x->RelV x v->eB p h=true->s.TypeIs v "dict" /\ ∀a,v=.ref a->∃ob,s.heap.get? a=some ob/\ob.dict=none:=by
 intro pins s σ H φ h p x v I rh rv r e;unfold eB at e;cases p with
 |ref n=>
  obtain⟨a,rfl,ha⟩:=rv;cases r
  dsimp only at e;split at e
  ·rename_i kvs hk;obtain⟨ks,hH,rk⟩:=rh.at' n a _ ha hk;obtain⟨z,hd,vs,rel,dd⟩:=CH I.hok hH;refine⟨dd.typeIs,λb eb=>?_⟩;cases eb
   obtain⟨ob,_,_,h1,h2,_⟩:=dd;exact⟨ob,h1,h2.2.1⟩
  ·rename_i kvs hk;have ht:uU h n=some kvs:=by unfold uU;rw[hk]
   obtain⟨⟨ks,xs,r,gm,hz,hm,dd⟩,_⟩:=wK I c.K c.w rh ha ht;refine⟨dd.typeIs,λb eb=>?_⟩;cases eb
   obtain⟨ob,_,_,h1,h2,_⟩:=dd;exact⟨ob,h1,h2.2.1⟩
  ·cases e
 |_=>cases e
def dG(h:PH)(x y:PV):Option (Option PV):=match kL y x h with
 |some o=>some o
 |none=>match x with
  |.ref n=>yI h n y
  |_=>none
def Ax:PV->List PV->PH->Rs PV:=λx ps h=>match ps with
 |[y]=>match dG h x y with
  |some o=>.ok (o.getD .non) h
  |none=>.bad
 |[y,z]=>match dG h x y with
  |some o=>.ok (o.getD z) h
  |none=>.bad
 |_=>.bad
set_option tactic.hygienic true in
theorem G8{x y:PV}{o:Option PV}(e:kL x y h=some o):∃n kvs,y=.ref n/\x.isKt=true/\uU h n=some kvs/\o=cA kvs x:=by
 unfold kL at e;cases y with
 |ref n=>
  dsimp only at e;split at e
  ·rename_i hk;cases e1:uU h n with
   |none=>rw[e1]at e;cases e
   |some kvs=>rw[e1]at e;cases e;exact⟨n,kvs,rfl,hk,e1,rfl⟩
  ·cases e
 |_=>cases e
set_option tactic.hygienic true in
theorem KZ(c:Cxt C k X):MtR X "dict.get" (rM C Ax):=λpins s σ H x xs v us Q I rx rs h=>by
 obtain⟨φ,h,p,ps,rh,rp,c0,po⟩:=h
 -- what is found
 have key:∀{y:PV}{yv:V}{yu:Value}{o:Option PV}{d:PV}{dv:V}{du:Value}{more:List Value},dG h p y=some o->RV C φ H y yv->RelV yv yu->RV C φ H d dv->RelV dv du->
   ((more=[]/\du=.none/\dv=.non)\/more=[du])->(∀z,RV C φ H (o.getD d) z->Q z H)->wpAny (model X.prog X.w) X.A (call (.builtin "dict.get") (v::yu::more)) (EP X pins σ Q) X.xe s:=by
  intro y yv yu o d dv du more e ry bw rd rdu hm q;unfold dG at e;cases e1:kL y p h with
  |some o'=>
   rw[e1]at e;cases e
   obtain⟨n,kvs,rfl,hk,ht,rfl⟩:=G8 e1;obtain⟨a,rfl,ha⟩:=rp;cases rx
   obtain⟨b,rfl⟩:=oR hk ry;cases bw
   obtain⟨⟨ks,xs,r,gm,hz,oj,dd⟩,_⟩:=wK I c.K c.w rh ha ht;have hv:=HD.val (a:=a) r gm y;have fin:EP X pins σ Q (((atKey xs y).map (·.2)).getD du) { s with toks:=s.toks+(sO X.prog X.w).draws y }:=by
    cases e2:cA kvs y with
    |some p2=>
     rw[e2]at hv q;cases e3:atKey xs y with
     |none=>rw[e3]at hv;exact hv.elim
     |some z=>
      rw[e3]at hv;obtain⟨v',af,ax⟩:=hv;exact⟨v',H,I.tok _,af,q v' ax⟩
    |none=>
     rw[e2]at hv q;cases e3:atKey xs y with
     |some z=>rw[e3]at hv;exact hv.elim
     |none=>exact⟨dv,H,I.tok _,rdu,q dv rd⟩
   rcases hm with⟨rfl,rfl,_⟩|rfl
   ·exact Ru P5 dd.typeIs Qo (Ry _ _) (meetsH_dict_get (sO X.prog X.w) a b oj) ⟨c.room6,y,xs,wL I c.K hk ry,dd,fin⟩
   ·exact Ru P5 dd.typeIs Qo (PySem.F.args_dict_get_3 _ _ _) (meetsH_dict_get_default (sO X.prog X.w) a b oj du) ⟨c.room6,y,xs,wL I c.K hk ry,dd,fin⟩
  |none=>
   rw[e1]at e;cases p with
   |ref n=>
    obtain⟨a,rfl,ha⟩:=rp;cases rx
    dsimp only at e;obtain⟨o',g,is,val⟩:=mT rh ha ry e;have fin:∀w' s',Inv X pins σ H s'->RelV (o'.getD dv) w'->EP X pins σ Q w' s':=λw' s' I' r'=>by
     refine⟨o'.getD dv,H,I',r',q _ ?_⟩;cases o with
     |some p2=>obtain⟨w2,rfl,ym⟩:=val p2 rfl;exact ym
     |none=>
      cases o' with
      |none=>exact rd
      |some z=>cases is
    rcases hm with⟨rfl,rfl,rfl⟩|rfl
    ·exact K4 c.hu I g bw fin
    ·exact K5 c.hu I g bw rdu fin
   |_=>cases e
 unfold Ax at po;split at po
 ·rename_i y;split at po
  ·rename_i o e;obtain⟨yv,rfl,ry⟩:=c0.one;obtain⟨yu,rfl,bw⟩:=vals1 rs;exact key (d:=.non) (dv:=.non) (du:=.none) e ry bw rfl rfl (.inl ⟨rfl,rfl,rfl⟩) λz rz=>po.val rh rz
  ·exact po.elim
 ·rename_i y z;split at po
  ·rename_i o e;obtain⟨yv,zv,rfl,ry,rz⟩:=c0.two;obtain⟨yu,zu,rfl,bw,t9⟩:=vals2 rs;exact key e ry bw rz t9 (.inr rfl) λz rz=>po.val rh rz
  ·exact po.elim
 ·exact po.elim
theorem N3:MtG C k X "dict" eB "dict.get" Ax:=λc=>⟨KZ c,tI c⟩
def nB:List PV->Option (List (Key×PV))
 |[]=>some []
 |.tup [y,v]::r=>match oH y,nB r with
  |some key,some rs=>some ((key,v)::rs)
  |_,_=>none
 |_::_=>none
def yP(kvs more:List (Key×PV)):List (Key×PV):=more.foldl (λacc kv=>oS acc kv.1 kv.2) kvs
theorem C2:∀{more:List (Key×PV)}{ms:List (Key×V)}{kvs:List (Key×PV)}{ks:List (Key×V)},RKv C φ H more ms->RKv C φ H kvs ks->RKv C φ H (yP kvs more) (pI ks ms):=by
 intro more ms kvs ks r;unfold RKv at r
 induction r generalizing kvs ks with
 |nil=>intro q;exact q
 | @cons p q ps qs h t ih=>
  intro r0;have e:=Aw r0 p.1 h.2;rw[show putK ks p.1 q.2=putK ks q.1 q.2 by rw[h.1]]at e;exact ih e
theorem Inv.tupleD{σ:St}{xs:List V}(I:Inv X pins σ H s)(h:SqT X.K H a xs):∃its:List Value,aI xs its/\nO s.heap a its.toArray/\xs.length<=OR:=by
 rcases h with h|⟨o,its,n,hk,hc,hs,hz,r,hd⟩
 ·obtain⟨z,its,r,p⟩:=h.ok I.hok;exact⟨its,r,p,z⟩
 ·refine⟨its.toList,r,⟨o,I.kIn a o hk,hc,⟨n,by simpa using hs⟩,hd⟩,?_⟩
  have e:=r.length;rw[e];simpa using hz
theorem wN{pins:List (Addr×Obj)}{σ:St}{H:Hp}{s:Shared}{φ:List Addr}(I:Inv X pins σ H s)(hK:X.K=C.K):∀{ps:List PV}{rs:List (Key×PV)}{vs:List V}{us:List Value},nB ps=some rs->RVs C φ H ps vs->aI vs us->
  ∃qs:List (Addr×Key×Value×Value),us=qs.map (λq=>Py q.1)/\(∀q∈qs,(aQ X.prog X.w).is q.2.1 q.2.2.1=true)/\(∀q∈qs,IsTup s.heap q.1 #[q.2.2.1,q.2.2.2])/\∃ws:List (Key×V),RKv C φ H rs ws/\KV ws (qs.map λq=>(q.2.1,q.2.2.2))
 |[],rs,[],us,e,_,ru=>by
  cases ru
  cases e
  exact⟨[],rfl,(λ_ h=>nomatch h),(λ_ h=>nomatch h),[],.nil,.nil⟩
 |p::ps,rs,v::vs,us,e,r,ru=>by
  cases ru with
  | @cons _ u _ us' h t=>
   cases p with
   |tup xs=>
    match xs,e with
    |[y,z],e=>
     unfold nB at e;cases e1:oH y with
     |none=>rw[e1]at e;cases e
     |some key=>
      cases e2:nB ps with
      |none=>rw[e1,e2]at e;cases e
      |some ki=>
       rw[e1,e2]at e;cases e
       obtain⟨qs,rfl,a1,a2,ws,a3,a4⟩:=wN I hK e2 r.2 t;obtain⟨b,bs,rfl,sq,rb⟩:=r.1;cases h
       obtain⟨yv,zv,rfl,ry,rz⟩:=rb.two;rw[<-hK]at sq;obtain⟨its,dn,pt,_⟩:=I.tuple sq;obtain⟨yu,zu,rfl,bw,t9⟩:=vals2 dn;have ey:=sW ry e1;subst ey;refine⟨(b,key,yu,zu)::qs,rfl,?_,?_,(key,zv)::ws,.cons ⟨rfl,rz⟩ a3,.cons ⟨rfl,t9⟩ a4⟩
       ·intro q hq;rcases KP.mp hq with rfl|hq
        ·exact kE bw
        ·exact a1 q hq
       ·intro q hq;rcases KP.mp hq with rfl|hq
        ·exact pt
        ·exact a2 q hq
    |[],e=>cases e
    |[_],e=>cases e
    |_::_::_::_,e=>cases e
   |_=>cases e
 |[],_,_::_,_,_,r,_=>r.elim
 |_::_,_,[],_,_,r,_=>r.elim
def wO:List PV->PH->Rs PV:=λxs h=>match xs with
 |[.tup ps]=>match nB ps with
  |some rs=>.ok (.ref h.length) (h++[.dK (yP [] rs)])
  |none=>.bad
 |[.ref n]=>match h[n]? with
  |some (.dK kvs)=>.ok (.ref h.length) (h++[.dK kvs])
  |_=>.bad
 |_=>.bad
set_option tactic.hygienic true in
theorem L0:jU C k X (.type "dict") wO:=λc pins s σ H xs us Q I r h=>by
 obtain⟨φ,h,ps,rh,rv,po⟩:=h;unfold wO at po;split at po
 ·rename_i ps;split at po
  ·rename_i rs e;obtain⟨v,rfl,rx⟩:=rv.one;obtain⟨a,vs,rfl,sa,ra⟩:=rx;obtain⟨u,rfl,ru⟩:=vals1 r;cases ru
   have hl:=ra.length;have nz:=sa;rw[<-c.K]at nz;obtain⟨its,dn,⟨o,o1,o2,⟨n,o3⟩,o4⟩,hz⟩:=Inv.tupleD I nz;obtain⟨qs,rfl,a1,a2,ws,a3,a4⟩:=wN I c.K e ra dn;have hq:qs.length<=OR:=by
    have:=dn.length;rw[OP]at this;omega
   refine qZ (I.ok.hd c.calm) o1 o2 o3 o4 a1 a2 hq λh' tk dd kk=>?_;have r1:=C2 a3 (.nil:RKv C φ H [] []);have y3:(pI [] ws).length<=OR:=by
    have h1:=mG ws [];have h2:=KV.length a4;rw[OP]at h2;simp at h1;omega
   have fr:H s.heap.objs.size=none:=I.fresh;refine⟨.ref s.heap.objs.size,_,I.laid (a:=s.heap.objs.size) (o:=.dK (pI [] ws)) (t':=tk) kk (OO _) (xV y3 (beq_eq_false_iff_ne.mpr (Sn (OW I.big))) (a4.merge .nil) dd),rfl,?_⟩;exact po (φ++[s.heap.objs.size]) (.ref _) _ (PP _ _) (Kp.new fr) (rh.new fr ⟨_,bC,r1.mono (PP _ _) (Kp.new fr)⟩) ⟨_,rfl,by rw[<-rh.len];simp⟩
  ·exact po.elim
 ·rename_i n;split at po
  ·rename_i kvs hk;obtain⟨v,rfl,rx⟩:=rv.one;obtain⟨a,rfl,ha⟩:=rx;obtain⟨u,rfl,ru⟩:=vals1 r;cases ru
   obtain⟨ks,hH,rk⟩:=rh.at' n a _ ha hk;refine Fc I (.inl hH) λp s' hp I'=>⟨.ref p,_,I',rfl,?_⟩;exact po (φ++[p]) (.ref _) _ (PP _ _) (Kp.new hp) (rh.new hp ⟨_,bC,rk.mono (PP _ _) (Kp.new hp)⟩) ⟨_,rfl,by rw[<-rh.len];simp⟩
  ·exact po.elim
 ·exact po.elim
end
def Eg(x:List Key):List (List Key)->List (List Key)
 |[]=>[x]
 |y::ys=>if dI y x=true then y::Eg x ys else x::y::ys
def cE:List (List Key)->List (List Key)
 |[]=>[]
 |x::xs=>Eg x (cE xs)
theorem pU(x:List Key):∀ys,(Eg x ys).Perm (x::ys)
 |[]=>.refl _
 |y::ys=>by
  unfold Eg;split
  ·exact((pU x ys).cons y).trans (.swap x y ys)
  ·exact .refl _
theorem dN:∀xs,(cE xs).Perm xs
 |[]=>.refl _
 |x::xs=>(pU x _).trans ((dN xs).cons x)
set_option tactic.hygienic true in
theorem qR{S:List Bool}{x:List Key}(hx:shape x=S):∀{ys:List (List Key)},(∀y∈ys,shape y=S)->ys.Pairwise (λa b=>dI b a=false)->(Eg x ys).Pairwise (λa b=>dI b a=false)
 |[],_,_=>List.pairwise_singleton _ _
 |y::ys,hs,hp=>by
  have hy:=hs y Pb;have fo:=λz hz=>hs z (OX _ hz);rw[QT]at hp;unfold Eg;split
  ·rename_i h;rw[QT];refine⟨λz hz=>?_,qR hx fo hp.2⟩;rcases KP.mp ((pU x ys).mem_iff.mp hz) with rfl|hz
   ·exact xY h
   ·exact hp.1 z hz
  ·rename_i h;have h':dI y x=false:=by simpa using h
   rw[QT];refine⟨λz hz=>?_,QT.mpr hp⟩;rcases KP.mp hz with rfl|hz
   ·exact h'
   ·exact rF (hx.trans hy.symm) (hy.trans (fo z hz).symm) h' (hp.1 z hz)
theorem gQ{S:List Bool}:∀{xs:List (List Key)},(∀y∈xs,shape y=S)->(cE xs).Pairwise (λa b=>dI b a=false)
 |[],_=>.nil
 |x::xs,hs=>qR (hs x Pb) (λy hy=>hs y (OX _ ((dN xs).mem_iff.mp hy))) (gQ λy hy=>hs y (OX _ hy))
variable{S:List Bool}
theorem jB{xs ys:List (List Key)}(hs:∀y∈xs,shape y=S)(hp:ys.Perm xs)(h:ys.Pairwise (λa b=>dI b a=false)):ys=cE xs:=by
 refine List.Perm.eq_of_pairwise (le:=λa b=>dI b a=false) (λa b ha hb h1 h2=>?_) h (gQ hs) (hp.trans (dN xs).symm);exact Ae ((hs a (hp.mem_iff.mp ha)).trans (hs b ((dN xs).mem_iff.mp hb)).symm) h2 h1
def kP:Key->PV
 |.inl i=>.int i
 |.inr x=>.str x
theorem Iq{x:PV}{a:Key}(h:oH x=some a):x=kP a:=by
 cases x <;> first|(cases h;rfl)|cases h
@[simp]theorem Dc(a:Key):oH (kP a)=some a:=by cases a <;> rfl
def jX:List PV->Option (List Key)
 |[]=>some []
 |x::xs=>match oH x,jX xs with
  |some a,some r=>some (a::r)
  |_,_=>none
theorem oT:∀{xs:List PV}{ks:List Key},jX xs=some ks->xs=ks.map kP
 |[],_,h=>by cases h;rfl
 |x::xs,ks,h=>by
  unfold jX at h;cases e1:oH x with
  |none=>rw[e1]at h;cases h
  |some a=>
   cases e2:jX xs with
   |none=>rw[e1,e2]at h;cases h
   |some r=>
    rw[e1,e2]at h;cases h
    rw[Iq e1,oT e2];rfl
@[simp]theorem G9:∀ks:List Key,jX (ks.map kP)=some ks
 |[]=>rfl
 |a::ks=>by simp[jX,G9 ks]
def tP(ks:List Key):PV:=.tup (ks.map kP)
def kM:List PV->Option (List (List Key))
 |[]=>some []
 |.tup xs::r=>match jX xs,kM r with
  |some a,some b=>some (a::b)
  |_,_=>none
 |_::_=>none
theorem Ay:∀{xs:List PV}{ks:List (List Key)},kM xs=some ks->xs=ks.map tP
 |[],_,h=>by cases h;rfl
 |x::xs,ks,h=>by
  cases x with
  |tup ys=>
   unfold kM at h;cases e1:jX ys with
   |none=>rw[e1]at h;cases h
   |some a=>
    cases e2:kM xs with
    |none=>rw[e1,e2]at h;cases h
    |some r=>
     rw[e1,e2]at h;cases h
     rw[oT e1,Ay e2];rfl
  |_=>cases h
@[simp]theorem Az:∀ks:List (List Key),kM (ks.map tP)=some ks
 |[]=>rfl
 |a::ks=>by simp[kM,tP,Az ks]
def C3(ae:List (List Key)):Bool:=match ae with
 |[]=>true
 |a::r=>(!a.isEmpty)&&r.all λx=>shape x == shape a
theorem tJ(h:C3 ae=true):∃b sh,∀ks∈ae,shape ks=b::sh:=by
 cases ae with
 |nil=>exact⟨true,[],λ_ h=>nomatch h⟩
 |cons a r=>
  unfold C3 at h;rw[Pj]at h;cases a with
  |nil=>cases h.1
  |cons z zs=>
   refine⟨cX z,shape zs,λks hk=>?_⟩;rcases KP.mp hk with rfl|hk
   ·rfl
   ·have:=Pp.mp h.2 ks hk;exact eq_of_beq this
section
variable{k:Nat}
theorem N4{a:Key}{v:V}:RV C φ H (kP a) v↔Rep C.K H (kD a) v:=by cases a <;> exact Iff.rfl
theorem yQ{φ:List Addr}{H:Hp}:∀{ks:List Key}{vs:List V},RVs C φ H (ks.map kP) vs↔cH C.K H (ks.map kD) vs
 |[],[]=>Iff.rfl
 |[],_::_=>Iff.rfl
 |_::_,[]=>Iff.rfl
 |_::_,_::_=>and_congr N4 yQ
theorem N5{ks:List Key}{v:V}:RV C φ H (tP ks) v↔Rep C.K H (tD ks) v:=by
 constructor
 ·rintro⟨a,vs,e,s,r⟩;exact⟨a,vs,e,s,yQ.mp r⟩
 ·rintro⟨a,vs,e,s,r⟩;exact⟨a,vs,e,s,yQ.mpr r⟩
theorem rO{φ:List Addr}{H:Hp}:∀{ae:List (List Key)}{vs:List V},RVs C φ H (ae.map tP) vs↔cH C.K H (ae.map tD) vs
 |[],[]=>Iff.rfl
 |[],_::_=>Iff.rfl
 |_::_,[]=>Iff.rfl
 |_::_,_::_=>and_congr N5 rO
def nC:PV->List PV->PH->Rs PV:=λx ps h=>match x,ps with
 |.ref n,[]=>match h[n]? with
  |some (.dK _)=>.ok (.ref h.length) (h++[.vw 0 n])
  |_=>.bad
 |_,_=>.bad
set_option tactic.hygienic true in
theorem Ir:MtG C k X "dict" eB "dict.items" nC:=λc=>⟨MtR.imp (show MtR X "dict.items" Fq from Fs) λx xs H Q h=>by
 obtain⟨φ,h,p,ps,rh,rp,c0,po⟩:=h;unfold nC at po;split at po
 ·rename_i n;split at po
  ·rename_i kvs hk;obtain⟨a,rfl,ha⟩:=rp;obtain⟨ks,hH,rk⟩:=rh.at' n a _ ha hk;have:xs=[]:=by cases xs <;> first|rfl|exact c0.elim
   subst this;refine⟨a,ks,rfl,rfl,hH,λl hl=>?_⟩;refine po (φ++[l]) (.ref l) _ (PP _ _) (Kp.new hl) (rh.new hl ⟨a,lS (PP _ _) ha,bC⟩) ⟨l,rfl,by rw[<-rh.len];simp⟩
  ·exact po.elim
 ·exact po.elim,tI c⟩
def Jg(xs:List PV):Option (List PV):=match kM xs with
 |some ae=>if ae.length<64/\C3 ae=true then some ((cE ae).map tP) else none
 |none=>match jX xs with
  |some ks=>if ks.length<64/\ks.all (λx=>cX x == cX (.inr ""))=true then some ((cE (ks.map λx=>[x])).flatten.map kP) else none
  |none=>none
theorem RH.same(r:RH C φ H h)(s:xU H H1):RH C φ H1 h:=⟨r.len,r.nd,λn b ob h1 h2=>by
 have q:=r.at' n b ob h1 h2;obtain⟨u,hu⟩:=q.some;exact q.stay OT (Kp.same s) ((s _ _ hu).trans hu.symm)⟩
set_option tactic.hygienic true in
theorem Dd{a b:Str}:dI [.inr a] [.inr b]=decide (a.cps.toList<b.cps.toList):=by
 unfold dI;split
 ·rename_i e;cases e
  simp[dI,List.lt_irrefl]
 ·rfl
theorem qS:∀{r:List Str}{p:Str},risingS p r=true->((p::r).map λx=>[(Qx x:Key)]).Pairwise (λa b=>dI b a=false)
 |[],p,_=>List.pairwise_singleton _ _
 |x::r,p,h=>by
  have h0:dI [.inr x] [.inr p]=false/\risingS x r=true:=by
   unfold risingS at h;rw[Pj,ltCps_eq]at h;rw[Dd];exact⟨by simpa using h.1,h.2⟩
  have ih:=qS h0.2;rw[Pa,QT];refine⟨λz hz=>?_,ih⟩;obtain⟨y,hy,rfl⟩:=OU.mp hz;rcases KP.mp hy with rfl|hy
  ·exact h0.1
  ·rw[Pa,QT]at ih;exact rF (a:=[.inr p]) (b:=[.inr x]) (c:=[.inr y]) rfl rfl h0.1 (ih.1 _ (OU.mpr ⟨y,hy,rfl⟩))
theorem Iu{ks:List Key}(h:ks.all (λx=>cX x == cX (.inr ""))=true):∃ss:List Str,ks=ss.map Qx:=by
 induction ks with
 |nil=>exact⟨[],rfl⟩
 |cons a ks ih=>
  rw[Ra,Pj]at h;obtain⟨ss,e⟩:=ih h.2;cases a with
  |inl i=>exact absurd h.1 (by simp[cX])
  |inr x=>exact⟨x::ss,by rw[e];rfl⟩
theorem oU{φ:List Addr}{H:Hp}:∀{ss:List Str}{vs:List V},RVs C φ H (ss.map PV.str) vs↔vs=ss.map V.str
 |[],[]=>by simp[RVs]
 |[],_::_=>by simp[RVs]
 |_::_,[]=>by simp[RVs]
 |x::ss,v::vs=>by
  simp only[Pa,RVs,List.cons.injEq];exact and_congr Iff.rfl oU
theorem wQ:∀ss:List Str,(((ss.map λx=>[(Qx x:Key)]).flatten).map kP)=ss.map PV.str
 |[]=>rfl
 |x::ss=>by
  have:=wQ ss;simp only[Pa,List.flatten_cons,List.singleton_append];rw[this];rfl
theorem Eh{kvs:List (Key×PV)}{ks:List (Key×V)}(r:RKv C φ H kvs ks):∀{ae:List (List Key)},kM (kvs.map λkv=>PV.tup [kP kv.1,kv.2])=some ae->ks.map (λkv=>[kV kv.1,kv.2])=ae.map (λks=>ks.map kV):=by
 unfold RKv at r
 induction r with
 |nil=>intro ae h;cases h;rfl
 | @cons p q ps qs h t ih=>
  intro ae e;rw[Pa]at e;unfold kM at e;cases e1:jX [kP p.1,p.2] with
  |none=>rw[e1]at e;cases e
  |some a=>
   cases e2:kM (ps.map λkv=>PV.tup [kP kv.1,kv.2]) with
   |none=>rw[e1,e2]at e;cases e
   |some b=>
    rw[e1,e2]at e;cases e
    rw[Pa,Pa,ih e2]
    congr 1
    unfold jX at e1;rw[Dc]at e1;cases e3:jX [p.2] with
    |none=>rw[e3]at e1;cases e1
    |some c=>
     rw[e3]at e1;cases e1
     have:=oT e3
     match c,this with
     |[d],this=>
      have e4:p.2=kP d:=by simpa using this
      have rv:=h.2;rw[e4]at rv;have e5:q.2=kV d:=sW rv (Dc d);rw[h.1,e5];rfl
     |[],this=>exact absurd this (by simp)
     |_::_::_,this=>exact absurd this (by simp)
def De(h:PH)(n:Nat):Option (List PV):=match h[n]? with
 |some (.vw 0 d)=>match h[d]? with
  |some (.dK kvs)=>some (kvs.map λkv=>.tup [kP kv.1,kv.2])
  |_=>none
 |_=>none
def gA:List PV->PH->Rs PV:=λxs h=>match xs with
 |[.ref n]=>match aO h n with
  |some ys=>match Jg ys with
   |some zs=>.ok (.ref h.length) (h++[.lst zs])
   |none=>.bad
  |none=>match De h n with
   |some ys=>match kM ys with
    |some ae=>if ae.length<64/\C3 ae=true then .ok (.ref h.length) (h++[.lst ((cE ae).map tP)]) else .bad
    |none=>.bad
   |none=>.bad
 |_=>.bad
set_option tactic.hygienic true in
theorem Ga:jU C k X (.builtin "sorted") gA:=λc=>cG.imp (cG.or (yC c.calm C.K c.K) (by have:=pK (X:=X);rw[c.K]at this;exact this)) λvs H Q h=>by
 obtain⟨φ,h,ps,rh,rv,po⟩:=h;unfold gA at po;split at po
 ·rename_i n;obtain⟨v,rfl,rx⟩:=rv.one;obtain⟨a,rfl,ha⟩:=rx;split at po
  ·rename_i ys e;obtain⟨a2,vs,aw,sa,ra⟩:=bZ rh e;rw[ha]at aw;cases aw;split at po
   ·rename_i zs ez;unfold Jg at ez;split at ez
    ·rename_i ae ek;split at ez
     ·rename_i hc;cases ez
      have ey:=Ay ek;subst ey;obtain⟨b,sh,hsh⟩:=tJ hc.2;refine .inl ⟨a,ae,sh,b,rfl,hc.1,hsh,.inl ⟨vs,sa,rO.mp ra,λl fv fg hl hp hs hr=>?_⟩⟩;rw[jB hsh hp hs]at hr;exact po.lnew rh (rO.mpr hr) hl
     ·cases ez
    ·split at ez
     ·rename_i ks ek;split at ez
      ·rename_i hc;cases ez
       obtain⟨ss,rfl⟩:=Iu hc.2;have ey:=oT ek;rw[Ph]at ey;have xw:ys=ss.map PV.str:=ey;subst xw;have ev:=oU.mp ra;subst ev;refine .inr ⟨a,ss,rfl,sa,by simpa using hc.1,λl fk hl hp hs=>?_⟩
       have e1:(fk.map λx=>[(Qx x:Key)])=cE ((ss.map Qx).map λx=>[x]):=by
        rw[Ph];refine jB (S:=[false]) (λy hy=>?_) (hp.map _) ?_
        ·obtain⟨z,_,rfl⟩:=OU.mp hy;rfl
        ·cases fk with
         |nil=>exact .nil
         |cons x r=>exact qS hs
       rw[<-e1]at po;refine po.lnew rh ?_ hl;have e2:(((fk.map λx=>[(Qx x:Key)]).flatten).map kP)=fk.map PV.str:=wQ fk;rw[e2];exact oU.mpr rfl
      ·cases ez
     ·cases ez
   ·exact po.elim
  ·split at po
   ·rename_i ys ev;split at po
    ·rename_i ae ek;obtain⟨hc,po⟩:=po.ite;unfold De at ev;split at ev
     ·rename_i d hv;split at ev
      ·rename_i kvs hk;cases ev
       obtain⟨b,hb,hH⟩:=rh.at' n a _ ha hv;obtain⟨ks,hD,rk⟩:=rh.at' d b _ hb hk;obtain⟨bb,sh,hsh⟩:=tJ hc.2;refine .inl ⟨a,ae,sh,bb,rfl,hc.1,hsh,.inr ⟨b,ks,hH,hD,?_,λH1 s1 l fv fg hl hp hs hr=>?_⟩⟩
       ·exact Eh rk ek
       ·rw[jB hsh hp hs]at hr;exact(post.weak OT (Kp.same s1) po).lnew (rh.same s1) (rO.mpr hr) hl
      ·cases ev
     ·cases ev
    ·exact po.elim
   ·exact po.elim
 ·exact po.elim
end
open PySem
@[simp]theorem N6{x:PV}:kL x (.tup xs) h=none:=(rfl)
@[simp]theorem Lx{x:PV}:kL x (.str z) h=none:=(rfl)
@[simp]theorem N7{i:Int}{y:PV}:kL (.int i) y h=none:=by cases y <;> rfl
@[simp]theorem N8{i:Str}{y:PV}:kL (.str i) y h=none:=by cases y <;> rfl
@[simp]theorem NH{y:PV}:vAt (.str z) y h=vIx (.str z) y h:=by unfold vAt;simp
@[simp]theorem Df{x:PV}{i:Int}:vAt x (.int i) h=vIx x (.int i) h:=by unfold vAt;simp
@[simp]theorem Jh{x:PV}:jA x (.tup ys) h=sV x (.tup ys) h:=by unfold jA;simp
theorem Gb{kvs:List (Key×PV)}(e:h[n]?=some (.dK kvs)):eB (.ref n) h=true:=by unfold eB;simp[e]
theorem Iv{kvs:List (Key×PV)}{z:PV}(e:h[n]?=some (.dK kvs)):Ax (.ref n) [.str x,z] h=.ok ((cA kvs (.inr x)).getD z) h:=by
 simp[Ax,dG,yI,e,oH]
theorem Iw{kvs:List (Key×PV)}{z:PV}(e:h[n]?=some (.dK kvs))(c:kvs.length<16777216):BZ (.ref n) (.str x) z h=some (h.set n (.dK (oS kvs (.inr x) z))):=by
 simp[BZ,e,oH,c]
theorem uV{d:Nat}{kvs:List (Key×PV)}(e1:h[n]?=some (.vw 0 d))(e2:h[d]?=some (.dK kvs))(ek:kvs.map (λkv=>PV.tup [kP kv.1,kv.2])=ae.map tP)(h1:ae.length<64)(h2:C3 ae=true):
  gA [.ref n] h=.ok (.ref h.length) (h++[.lst ((cE ae).map tP)]):=by
 have e3:aO h n=none:=by simp[aO,e1]
 have e4:De h n=some (kvs.map λkv=>PV.tup [kP kv.1,kv.2]):=by simp[De,e1,e2]
 simp only[gA,e3,e4,ek,Az];rw[if_pos ⟨h1,h2⟩]
open PySem PySem.Spec PyProof.Rows
def AA{κ:Type}[DecidableEq κ](kvs:List (κ×PV))(a:κ):List (κ×PV):=kvs.filter λkv=>decide (kv.1≠a)
theorem Ei{κ:Type}[DecidableEq κ]{kvs:List (κ×PV)}{ks:List (κ×V)}(r:RKv C φ H kvs ks)(a:κ):RKv C φ H (AA kvs a) (rZ ks a):=by
 unfold RKv at r⊢;unfold AA rZ
 induction r with
 |nil=>exact .nil
 | @cons p q ps qs h t ih=>
  rw[RB,RB]
  by_cases e:p.1=a
  ·have e':q.1=a:=h.1.symm.trans e;simp only[e,e',ne_eq,not_true_eq_false,decide_false,Qb,if_false];exact ih
  ·have e':¬ q.1=a:=λz=>e (h.1.trans z);simp only[e,e',ne_eq,not_false_eq_true,decide_true,if_true];exact .cons h ih
open PySem PySem.Spec PyProof.Rows PySem.SeqAt PySem.W
def wR:List PV->Option (List Str)
 |[]=>some []
 |.str x::r=>(wR r).map (x::·)
 |_=>none
theorem AB:∀ss:List Str,wR (ss.map PV.str)=some ss
 |[]=>rfl
 |x::r=>by
  show(wR (r.map PV.str)).map (x::·)=_
  rw[AB r];rfl
theorem AC:∀{xs:List PV}{ss:List Str},wR xs=some ss->xs=ss.map PV.str
 |[],ss,h=>by cases h;rfl
 |x::r,ss,h=>by
  cases x with
  |str z=>
   have h':(wR r).map (z::·)=some ss:=h;obtain⟨t,ht,rfl⟩:=Qn.mp h';rw[AC ht];rfl
  |_=>cases h
def unZ:List Key->Str
 |[.inr x]=>x
 |_=>""
def kN(ss:List Str):List Str:=(cE (ss.map λx=>[(Qx x:Key)])).map unZ
theorem Dg(ss:List Str):(ss.map λx=>[(Qx x:Key)]).map unZ=ss:=by
 rw[Ph];exact(QL λ_ _=>rfl).trans (List.map_id ss)
theorem C4(ss:List Str):(kN ss).Perm ss:=by
 have:=(dN (ss.map λx=>[(Qx x:Key)])).map unZ;rw[Dg]at this;exact this
open PySem
theorem Ext.setN{hX:PH}{o:MO}(x:Ext h hX)(hn:h.length<=n):Ext h (hX.set n o):=λm o' e=>by
 have:=(Io.mp e).1;rw[QD (by omega)];exact x m o' e
open PySem PySem.Spec PyProof.Rows
def N9(f:Str)(p:PV):List (Str×PV)->List (Str×PV)
 |[]=>[(f,p)]
 |(g,x)::r=>if g=f then(g,p)::r else(g,x)::N9 f p r
def N'(x:PV)(h:PH):Option (Nat×Str×List (Str×PV)):=match x with
 |.ref n=>match h[n]? with
  |some (.ins c fs)=>some (n,c,fs)
  |_=>none
 |_=>none
def Na(f:Str)(x y:PV)(h:PH):Option PH:=match N' x h with
 |some (n,c,fs)=>if fs.length<1000 then some (h.set n (.ins c (N9 f y fs))) else none
 |none=>none
section
variable{o:Expr}{f:Str}{kx:Pos}
def OI(f:Str)(mo mv:Me):Ms:=λδ h=>(mv δ h).fl λy h1=>(mo δ h1).fl λx h2=>match Na f x y h2 with
 |some h3=>.nx δ h3
 |none=>.bad
end
def oV(x y v:PV)(h:PH):Option PH:=match x,y with
 |.ref n,.int i=>match bV h n with
  |some xs=>match ixN xs.length i with
   |some j=>some (h.set n (.lst (xs.set j v)))
   |none=>none
  |none=>BZ x y v h
 |_,_=>BZ x y v h
def qT(mv mo mi:Me):Ms:=λδ h=>(mv δ h).fl λv h1=>(mo δ h1).fl λx h2=>(mi δ h2).fl λy h3=>match oV x y v h3 with
 |some h4=>.nx δ h4
 |none=>.bad
def tK:List PV->PH->Rs PV:=λxs h=>match xs with
 |[.bl b]=>.ok (.int (if b then 1 else 0)) h
 |[.int i]=>.ok (.int i) h
 |_=>.bad
set_option tactic.hygienic true in
theorem C5{k:Nat}{h':PH}{px py pv:PV}{x v:V}(c:Cxt C k X)(rh:RH C φ H h)(rx:RV C φ H px x)(ry:RV C φ H py y)(rv:RV C φ H pv v)(e:oV px py pv h=some h'){σ:St}{Q:Unit->Shared->Prop}(I:Inv X pins σ H s)(jg:RelV x xu)(bw:RelV y yu)(ip:RelV v vu)(q:∀s' H',Inv X pins σ H' s'->Kp H H'->RH C φ H' h'->Q () s'):wpAny (model X.prog X.w) X.A (setItem xu yu vu) Q X.xe s:=by
 unfold oV at e;split at e
 ·rename_i n i;split at e
  ·rename_i xs el;split at e
   ·rename_i j ej;cases e
    obtain⟨a,rfl,ha⟩:=rx;cases ry
    obtain⟨ws,hH,ay⟩:=rh.at' n a _ ha (iG el);refine thn (set_list pins s σ H (.ref a) (.int i) v xu yu vu (λH'=>H'=upd H a (.lst (ws.set j v))) I jg bw ip ⟨a,ws,i,j,rfl,rfl,hH,by rw[<-ay.length];exact ej,rfl⟩) ?_;rintro _ s' ⟨H',I',rfl⟩;refine q s' _ I' (Kp.lst hH) (rh.write ha (by rw[hH];trivial) ⟨_,bC,(RVs.set rv j ay).mono OT (Kp.lst hH)⟩)
   ·cases e
  ·exact wM c rh rx ry rv e I jg bw ip q
 ·exact wM c rh rx ry rv e I jg bw ip q
variable{mv:Me}
theorem L1{k:Nat}{o i:Expr}{mi:Me}(hv:SE C k X value mv)(ho:SE C k X o mo)(hi:SE C k X i mi)(hs:swapsWith value (some (.Subscript o i pos')) pos.line X.env=pure false:=by rfl):
  SSt C k X (.Assign [.Subscript o i pos'] value pos) (qT mv mo mi):=λc pins s σ H D I ⟨φ,δ,h,rh,re,p⟩=>by
 refine wpAny_Assign_Subscript (thn (hv c pins s σ H _ I ⟨φ,δ,h,rh,re,post.fl p⟩) ?_) hs;rintro vu s1 ⟨v,H1,I1,ip,φ1,pv,h1,p1,t1,aa,af,q1⟩;refine thn (ho c pins s1 σ H1 _ I1 ⟨φ1,δ,h1,aa,re.mono p1 t1,post.fl q1⟩) ?_;rintro xu s2 ⟨x,H2,I2,jg,φ2,px,h2,p2,t2,aj,ax,q2⟩;refine thn (hi c pins s2 σ H2 _ I2 ⟨φ2,δ,h2,aj,(re.mono p1 t1).mono p2 t2,post.fl q2⟩) ?_;rintro yu s3 ⟨y,H3,I3,bw,φ3,py,h3,p3,t3,c5,i7,q3⟩;cases e:oV px py pv h3 with
 |none=>rw[e]at q3;exact q3.elim
 |some h4=>
  rw[e]at q3;exact C5 c c5 (ax.mono p3 t3) i7 ((af.mono p2 t2).mono p3 t3) e I3 jg bw ip λs' H' I' kp df=>⟨σ,H',I',q3 φ3 σ H' OT kp df ((((re.mono p1 t1).mono p2 t2).mono p3 t3).mono OT kp)⟩
set_option tactic.hygienic true in
theorem Nb{k:Nat}:jU C k X (.type "int") tK:=λc pins s σ H xs us Q I r h=>by
 obtain⟨φ,h,ps,rh,rv,po⟩:=h;unfold tK at po;split at po
 ·obtain⟨v,rfl,rx⟩:=rv.one;cases rx
  obtain⟨u,rfl,ru⟩:=vals1 r;cases ru
  rename_i b;exact call_int_bool ⟨.int (if b then 1 else 0),H,I.tok _,⟨_,rfl⟩,po.val rh rfl⟩
 ·obtain⟨v,rfl,rx⟩:=rv.one;cases rx
  obtain⟨u,rfl,ru⟩:=vals1 r;obtain⟨t,rfl⟩:=ru;rename_i i;exact call_int_int ⟨.int i,H,I,⟨_,rfl⟩,po.val rh rfl⟩
 ·exact po.elim
@[simp]theorem Ot{E:FE}{mi:Me}:(qT mv mo mi δ h).W E=(mv δ h).W λv h1=>(mo δ h1).W λx h2=>(mi δ h2).W λy h3=>∃h4,oV x y v h3=some h4/\E.nx δ h4:=by
 unfold qT;rw[Ig]
 congr 1
 funext v h1
 rw[Ig]
 congr 1
 funext x h2
 rw[Ig]
 congr 1
 funext y h3
 cases e:oV x y v h3 <;> simp
theorem Ej{i:Int}{v:PV}(e:h[n]?=some (.lst xs))(h0:0<=i)(h1:i<xs.length):oV (.ref n) (.int i) v h=some (h.set n (.lst (xs.set i.toNat v))):=by
 have e1:bV h n=some xs:=by simp[bV,e]
 have e2:ixN xs.length i=some i.toNat:=by unfold ixN;rw[if_pos h0,if_pos h1]
 simp[oV,e1,e2]
@[simp]theorem Nc{b:Bool}:tK [.bl b] h=.ok (.int (if b then 1 else 0)) h:=(rfl)
section
variable{k:Nat}
def tL:List PV->Option (List Str)
 |[]=>some []
 |.str x::r=>(tL r).map (x::·)
 |_::_=>none
def jnd(sep:Str):List Str->Str
 |[p]=>p
 |l=>Builtin.Str.glued sep l
def L3(sep:Str)(l:List Str):Nat:=l.toArray.foldl (·+·.length+sep.length) 0
def bG(x:PV)(_:PH):Bool:=match x with
 |.str _=>true
 |_=>false
def eC:PV->List PV->PH->Rs PV:=λx ps h=>match x,ps with
 |.str sep,[.ref n]=>match bV h n with
  |some ys=>match tL ys with
   |some zs=>if L3 sep zs<=OR/\(jnd sep zs).length<=OR then .ok (.str (jnd sep zs)) h else .bad
   |none=>.bad
  |none=>.bad
 |_,_=>.bad
theorem wU{φ:List Addr}{H:Hp}:∀{ys:List PV}{zs:List Str}{vs:List V}{us:List Value},tL ys=some zs->RVs C φ H ys vs->aI vs us->∃l:List (Str×Tok),us=strValues l/\l.map (·.1)=zs
 |[],zs,[],us,e,_,ru=>by
  cases ru;cases e;exact⟨[],rfl,rfl⟩
 |p::ys,zs,v::vs,us,e,r,ru=>by
  cases ru with
  | @cons _ u _ us' h t=>
   cases p with
   |str x=>
    unfold tL at e;cases e2:tL ys with
    |none=>rw[e2]at e;cases e
    |some zs'=>
     rw[e2]at e;cases e
     obtain⟨l,rfl,rfl⟩:=wU e2 r.2 t;have e1:v=.str x:=r.1;subst e1;obtain⟨tk,rfl⟩:=h;exact⟨(x,tk)::l,rfl,rfl⟩
   |_=>cases e
 |[],_,_::_,_,_,r,_=>r.elim
 |_::_,_,[],_,_,r,_=>r.elim
set_option tactic.hygienic true in
theorem Iy(c:Cxt C k X):MtR X "str.join" (rM C eC):=λpins s σ H x xs v us Q I rx rs h=>by
 obtain⟨φ,h,p,ps,rh,rp,c0,po⟩:=h;unfold eC at po;split at po
 ·rename_i sep n;split at po
  ·rename_i ys hl;split at po
   ·rename_i zs hz;split at po
    ·rename_i hlen;have e1:x=.str sep:=rp;subst e1;obtain⟨tk,rfl⟩:=rx;obtain⟨v1,rfl,af⟩:=c0.one;obtain⟨a,rfl,ha⟩:=af;obtain⟨u,rfl,ru⟩:=vals1 rs;cases ru
     have hk:h[n]?=some (.lst ys):=by
      unfold bV at hl;split at hl
      ·rename_i q;cases hl;exact q
      ·cases hl
     obtain⟨vs,hH,dz⟩:=rh.at' n a _ ha hk;obtain⟨_,its,m,dn,_,hx⟩:=I.lstM hH;obtain⟨l,rfl,el⟩:=wU hz dz dn;have hq:Q (.str (jnd sep zs)) H:=po.val rh rfl;have w6:Builtin.Str.tooLong ((l.map (·.1)).toArray.foldl (·+·.length+sep.length) 0)=false:=by
      rw[el]
      show decide (L3 sep zs>OR)=false
      exact decide_eq_false (by have:=hlen.1;omega)
     have zt:s.heap.IsList a (strValues l).toArray:=⟨_,hx,rfl,m,rfl⟩;refine R6 PySem.F.slot_str_join (P8 s sep tk) PySem.F.entry_str_join (PySem.F.args_str_join_2 _ _) (meets_str_join_list sep tk a l w6) ⟨zt,?_⟩;subst el;have fj:=hlen.2
     match l,hq,fj with
     |[],hq,fj=>exact⟨fj,.str _,H,I.tok _,⟨_,rfl⟩,hq⟩
     |[p],hq,fj=>exact⟨.str _,H,I,⟨_,rfl⟩,hq⟩
     |p::q::r,hq,fj=>exact⟨fj,.str _,H,I.tok _,⟨_,rfl⟩,hq⟩
    ·exact po.elim
   ·exact po.elim
  ·exact po.elim
 ·exact po.elim
theorem L4:MtG C k X "str" bG "str.join" eC:=λc=>⟨Iy c,λpins s σ H φ h p x v I rh rv r e=>by
 cases p with
 |str z=>
  have e1:x=.str z:=rv;subst e1;obtain⟨t,rfl⟩:=r;exact⟨P8 s z t,λa e=>nomatch e⟩
 |_=>cases e⟩
end
section
variable{k:Nat}{its:Array Value}{ps:List PV}
def Ji:PV->Option V
 |.non=>some .non
 |.bl b=>some (.bl b)
 |.int i=>some (.int i)
 |.str z=>some (.str z)
 |_=>none
def tM:List PV->Option (List V)
 |[]=>some []
 |p::r=>match Ji p,tM r with
  |some v,some vs=>some (v::vs)
  |_,_=>none
theorem Iz{v:V}(e:Ji p=some v):RV C φ H p v:=by
 cases p <;> first|(cases e;rfl)|cases e
set_option tactic.hygienic true in
theorem tN{φ:List Addr}{H:Hp}:∀{ps:List PV}{vs:List V},tM ps=some vs->RVs C φ H ps vs
 |[],vs,e=>by cases e;trivial
 |p::ps,vs,e=>by
  unfold tM at e;split at e
  ·rename_i v ws e1 e2;cases e
   exact⟨Iz e1,tN e2⟩
  ·cases e
def Gc(K:z9)(a:Addr)(ps:List PV):Prop:=∃(o:Obj)(its:Array Value)(n:Nat)(vs:List V),K.lookup a=some o/\o.cls=.type "tuple" /\ o.data=.seq its n/\its.size<=OR/\aI vs its.toList/\o.dict=none/\tM ps=some vs
theorem Gd(hm:X.mg x=some (.ref a))(g:Gc C.K a ps)(hg:Gl X x:=by rfl)(hd:(x == ("__debug__" : Str))=false:=by decide):SE C k X (.Name x pos) (mC (.tup ps)):=λc=>
 (nP (v:=.ref a) hg hm rfl hd).imp λσ H Q h=>by
  obtain⟨φ,δ,h,rh,re,p⟩:=h;obtain⟨o,its,n,vs,g1,g2,g3,g4,g5,g6,g7⟩:=g;exact p φ (.ref a) H OT (Kp.refl _) rh ⟨a,vs,rfl,.inr ⟨o,its,n,g1,g2,g3,g4,g5,g6⟩,tN g7⟩
end
theorem Dh{kvs:List (Key×PV)}{z:PV}(e:h[n]?=some (.dK kvs))(hl:kvs.length<16777216):oV (.ref n) (.str x) z h=some (h.set n (.dK (oS kvs (.inr x) z))):=by
 show BZ (.ref n) (.str x) z h=_
 exact Iw e hl
theorem Inv.drn{σ:St}(I:Inv X pins σ H s)(d:Drawn):Inv X pins σ H { s with drawn:=d }:=
 ⟨I.ok,I.os,I.bare,I.base,I.loc,I.cell,I.free,I.freeC,I.pin,I.hok,I.len⟩
def Its(x:Str):It:=⟨λi _=>i<x.cps.size,λi H v H'=>H'=H/\∃c,x.cps[i]?=some c/\v=V.str ⟨#[c]⟩,λi _=>x.cps.size<=i⟩
theorem Ge(x:Str)(t:Tok)(it:Addr):Turn P w K tg (Its x) [it] it (λi h=>h.IsStrIter it "str_ascii_iterator" x t i) where
 mem:=by simp
 obj:=λi h st b hb=>by
  have e:b=it:=by simpa using hb
  subst e;obtain⟨o,e,c,d⟩:=st;exact⟨o,e,λv z=>by rw[d]at z;cases z⟩
 keep:=λi h h' ⟨o,e,r⟩ k=>⟨o,k it (by simp) o e,r⟩
 item:=by
  intro X hP hw hK hc i pins s σ H E I hf st hg;subst hP hw hK;obtain⟨f0,f1,f2,f3,f4,f5⟩:=hf it (by simp);have hi:x.cps[i]?=some x.cps[i]:=Po hg;refine wpAny_pyNext_ascii_item st hi λh' cw sb=>?_;have I1:Inv X pins σ H { s with heap:=h',toks:=s.toks+1 }:=I.turned (t':=s.toks+1) (λb o hb e=>(sb.2 b hb).trans e) f0 f1 f3 f4 f5;obtain⟨o,e,c,d⟩:=id cw;exact⟨_,rfl,CB (s:={ s with heap:=h',toks:=s.toks+1 }) e c d (by decide) ⟨.str ⟨#[x.cps[i]]⟩,H,I1,⟨_,rfl⟩,⟨rfl,_,hi,rfl⟩,cw,λb hb=>(hf b hb).1⟩⟩
 done:=by
  intro X hP hw hK hc i pins s σ H E I hf st hg;subst hP hw hK;obtain⟨f0,f1,f2,f3,f4,f5⟩:=hf it (by simp);exact wpAny_pyNext_ascii_end (I.ok.hd hc) st (QH hg) λh' eb=>⟨rfl,I.turned (t':=s.toks) (λb o hb e=>eb b o hb e) f0 f1 f3 f4 f5⟩
 self:=λ_ _ _ _ _ st h=>wpAny_pyIter_striter_ascii st h
def ofStr(x:PV)(h:PH):Rs Wk:=match x with
 |.str x=>if(x.cps.all λc=>decide (c<128))=true then .ok ⟨x.cps.toList.map λc=>.str ⟨#[c]⟩,λ_=>true⟩ h else .bad
 |_=>.bad
def tO(m:Me):Mi:=λδ h=>(m δ h).bind ofStr
set_option tactic.hygienic true in
theorem Nd{k:Nat}(h:SE C k X iter m):SI C k X tg iter (tO m):=λc=>by
 intro pins s σ H R I q;obtain⟨φ,δ,hh,rh,re,p⟩:=q;have key:rd C m σ H λv H1=>∃φ1 x h1,φ<+:φ1/\Kp H H1/\RH C φ1 H1 h1/\RV C φ1 H1 x v/\dP C φ1 H1 (ofStr x h1) R:=by
  refine⟨φ,δ,hh,rh,re,?_⟩;unfold tO at p;cases e:m δ hh with
  |ok x h1=>
   rw[e]at p;intro φ' v H' p' t' df bu;refine⟨φ',x,h1,p',t',df,bu,?_⟩
   show dP C φ' H' (ofStr x h1) R
   have p0:dP C φ H (ofStr x h1) R:=p;cases e2:ofStr x h1 with
   |ok w h2=>rw[e2]at p0;exact λφ2 H2 J p2 t2=>p0 φ2 H2 J (p'.trans p2) (t'.trans t2)
   |exc z h2=>rw[e2]at p0;exact λφ2 H2 p2 t2=>p0 φ2 H2 (p'.trans p2) (t'.trans t2)
   |bad=>rw[e2]at p0;exact p0
  |exc x h1=>rw[e]at p;exact p
  |bad=>rw[e]at p;exact p
 refine thn (h c pins s σ H _ I key) λv s1 hz=>?_;obtain⟨x,H1,I1,r1,φ1,x',h1,p1,t1,aa,af,q1⟩:=hz;unfold ofStr at q1;cases x' with
 |str x'=>
  cases af
  obtain⟨t,rfl⟩:=r1;dsimp only at q1;split at q1
  ·rename_i ha;refine wpAny_pyIter_ascii ha ?_;refine⟨s1.heap.objs.size,[s1.heap.objs.size],_,_,H1,rfl,I1.kept (t':=s1.toks) λb o e=>zz _ e,Ge x' t _,⟨_,OQ _ rfl,rfl,rfl⟩,λb hb=>?_,?_⟩
   ·have e:b=s1.heap.objs.size:=by simpa using hb
    subst e;exact I1.fpOk (OO _) (I1.hok.fresh (OO _))
   ·refine q1 φ1 H1 (Its x') OT (Kp.refl H1) aa λφ2 H2 h2 p2 t2 aj _ i=>⟨λhi=>?_,λhi=>by simpa[Its] using hi⟩
    have bc:i<x'.cps.size:=by simpa using hi
    refine⟨bc,λv H' y=>?_⟩;obtain⟨e,c',ec,rfl⟩:=y;subst e;have:x'.cps.toList[i]?=some c':=by simpa using ec
    exact⟨⟨.str ⟨#[c']⟩,by simp[ec],rfl⟩,Kp.refl _,aj⟩
  ·exact q1.elim
 |_=>exact q1.elim
def AD(w:World)(a:Addr)(ks:List Str):HO:=.ext λh=>cY w h a ks
def ddT(ss:List Str):List Str:=fmT (λi=>ss.getD i "") ss.length
theorem IA(ss:List Str):(ddT ss).length<=ss.length:=yG _ _
theorem IB(ss:List Str)(x:Str):x∈ddT ss↔x∈ss:=by
 unfold ddT;rw[CN];constructor
 ·rintro⟨j,h1,h2⟩;have:ss.getD j "" = ss[j]:=by simp[h1]
  rw[<-h2,this];exact Qt h1
 ·intro h;obtain⟨j,h1,h2⟩:=List.getElem_of_mem h;exact⟨j,h1,by simp[h1,h2]⟩
theorem L5(ss:List Str):(ddT ss).Nodup:=FA _ _
variable{ss:List Str}
theorem Ek{vs:List Value}(h:StrsAre vs ss)(h0:0<vs.length):keyKind' vs.toArray=pure oneType':=by
 cases h with
 |nil=>simp at h0
 |cons n t r=>
  cases r with
  |nil=>
   rw[keyKind'_eq,List.mapM_toArray,mapM_first_strs (.cons n t .nil)];simp only[map_pure,pure_bind];rw[if_neg (by simp),if_neg (by simp),oneTypeOnly'_eq];simp;rw[show typeOf (Qv n t)=pure (R1 "str") from rfl]
   simp
  |cons m u r=>exact keyKind_strs (.cons n t (.cons m u r))
theorem qU{vs:List Value}(h:StrsAre vs ss):vs.length=ss.length/\∀i,i<vs.length->∃t,vs.getD i PC=Qv (ss.getD i "") t:=by
 induction h with
 |nil=>exact⟨rfl,λi h=>by simp at h⟩
 |cons n t r ih=>
  refine⟨by simp[ih.1],λi h=>?_⟩;cases i with
  |zero=>exact⟨t,rfl⟩
  |succ i=>simpa using ih.2 i (by simpa using h)
theorem oW{vs:List Value}{ss:List Str}(h:StrsAre vs ss):∀{q:List Nat},(∀i∈q,i<vs.length)->aI ((q.map λi=>ss.getD i "").map V.str) (q.map λi=>vs.getD i PC)
 |[],_=>.nil
 |i::q,hq=>by
  obtain⟨t,e⟩:=(qU h).2 i (hq i Pb);simp only[Pa,e];exact .cons ⟨t,rfl⟩ (oW h λj hj=>hq j (OX _ hj))
theorem AE{y:Str}{t u:Tok}{Q:Bool->Shared->Prop}(h:Q (decide (x.cps.toList<y.cps.toList)) s):wpAny (model prog w) A (keyLt' oneType' (.str x t) (.str y u)) Q E s:=by
 show wpAny (model prog w) A (oneLt' true (.str x t) (.str y u)) Q E s
 exact oneLt_str h
variable{zs:List Str}
theorem wV(p:zs.Perm ss)(h:zs.Pairwise (λa b=>¬ b.cps.toList<a.cps.toList)):zs=kN ss:=by
 have e1:(zs.map λx=>[(Qx x:Key)])=cE (ss.map λx=>[(Qx x:Key)]):=by
  refine jB (S:=[false]) (λy hy=>?_) (p.map _) ?_
  ·obtain⟨z,_,rfl⟩:=OU.mp hy;rfl
  ·rw[QM];refine h.imp λ{a b} h1=>?_;rw[Dd];exact decide_eq_false h1
 unfold kN;rw[<-e1,Dg]
theorem yR{ks:List Str}{R:List Value->Shared->Prop}(hh:A.handled=none)(hS:cY w s.heap a ks)(hz:ks.length<=OR)
  (h:∀h' d tk vs ms,(∀b o,s.heap.get? b=some o->h'.get? b=some o)->StrsAre vs ms->ms.Perm ks->R vs { s with heap:=h',drawn:=d,toks:=tk }):wpAny (model prog w) A (collect (.ref a)) R E s:=by
 obtain⟨o,es,ep,t,ho,hx,hd,ht,hf,jk,hp⟩:=hS
 have hlen:es.size=ks.length:=by have:=hp.length_eq;simpa using this
 unfold collect
 refine ff (wpAny_runValue (Q3 PyProof.Rows.entry_proto_collect' ?_))
 rw[QE F.plain_proto_collect]
 refine(show wpAny _ _ (newObj _ _ >>= _) _ _ _ from ff (Pw (z8 ⟨R9 F.plain_list_iadd _,Q3 PyProof.Rows.entry_list_iadd' ?_⟩)))
 rw[QE F.plain_list_iadd]
 have xy:(s.heap.push { cls:=.type "list",data:=.seq #[] }).get? s.heap.objs.size=some { cls:=.type "list",data:=.seq #[] }:=OQ s.heap rfl
 have jw:(s.heap.push { cls:=.type "list",data:=.seq #[] }).get? a=some o:=zz _ ho
 refine(show wpAny _ _ (RU (.ref s.heap.objs.size) (.ref a) (.ref s.heap.objs.size)) _ _ _ from ?_)
 refine BO (R:=λr s'=>match r with|.ok (.ret v)=>wpAny (model prog w) A (match v with|Py a=>(do let o <-load a;match o.data with|Data.seq xs epoch=>pure xs.toList|x=>unsupported "internal:collect")|x=>unsupported "internal:collect") R E s'|.ok _=>False|.error e=>E e s') (s:={ s with heap:=s.heap.push { cls:=.type "list",data:=.seq #[] } }) hh jw hx hd ht hf (by omega) s.heap.objs.size (QY (OS ho)) _ 0 xy λh' d tk acc c' kp l8 pe=>?_
 refine(show wpAny _ _ (load s.heap.objs.size >>= _) _ _ _ from ff (wpAny_load l8 (z8 ?_)))
 have all:∀(l:List Value),(∀v∈l,∃k tk,v=Qv k tk)->∃ms,StrsAre l ms/\ms=l.map λv=>sN (0,v):=by
  intro l
  induction l with
  |nil=>intro _;exact⟨[],.nil,rfl⟩
  |cons v l ih=>
   intro hv
   obtain⟨k,tk,rfl⟩:=hv v Pb
   obtain⟨ms,i,e⟩:=ih λv h=>hv v (OX _ h)
   exact⟨k::ms,.cons k tk i,by rw[e];rfl⟩
 obtain⟨ms,i,e⟩:=all acc.toList λv hv=>by
  obtain⟨x,hx,rfl⟩:=OU.mp (pe.mem_iff.mp hv)
  obtain⟨k,tk,rfl⟩:=jk x hx
  exact⟨k,tk,rfl⟩
 refine h h' d tk acc.toList ms (λb o e=>kp b o (OW (OS e)) (zz _ e)) i ?_
 rw[e]
 refine(pe.map _).trans ?_
 rw[Ph]
 exact(show es.toList.map (λx=>sN (0,x.2))=es.toList.map sN from QL λx _=>rfl)▸hp
theorem El(hc:X.calm=true):cG X (.type "set") (λxs H Q=>∃l ns,xs=[.ref l]/\SqL X.K H l (ns.map V.str)/\ns.length<64/\∀a,H a=none->Q (.ref a) (upd H a (AD X.w a (ddT ns)))):=by
 intro pins s σ H xs us Q I r h;obtain⟨l,ns,rfl,hq,f7,q⟩:=h;obtain⟨u,rfl,ru⟩:=vals1 r;cases ru
 obtain⟨its,rv,pl,hz⟩:=I.list hq;have hlen:=rv.length;rw[OP]at hlen;refine E5 (I.ok.hd hc) pl.isList (ns:=ns) (by simpa using mR rv) (by simp[scanBound];omega) λh' tk hS kp=>?_
 have hn:(Re its).size=ns.length:=by simpa using hlen.symm
 rw[hn]at hS;have hS:cY X.w h' s.heap.objs.size (ddT ns):=hS;have:∃o,h'.get? s.heap.objs.size=some o:=let ⟨o,_,_,_,e,_⟩:=hS;⟨o,e⟩;exact⟨.ref s.heap.objs.size,_,I.laid (t':=tk) (o:=AD X.w s.heap.objs.size (ddT ns)) kp (OO _) ⟨hS,this,λh1 h2 p k=>cY.kept p k⟩,rfl,q _ I.fresh⟩
theorem C6(hc:X.calm=true):cG X (.builtin "sorted") (λxs H Q=>∃a ks,xs=[.ref a]/\H a=some (AD X.w a ks)/\ks.length<64/\∀l,H l=none->Q (.ref l) (upd H l (.lst ((kN ks).map V.str)))):=by
 intro pins s σ H xs us Q I r h;obtain⟨a,ks,rfl,hH,f7,q⟩:=h;obtain⟨u,rfl,ru⟩:=vals1 r;cases ru
 have hS:cY X.w s.heap a ks:=(I.hok a _ hH).1;refine wF (κ:=oneType') (λits s1=>∃ms,Inv X pins σ H s1/\StrsAre its ms/\ms.Perm ks) (yR (I.ok.hd hc) hS (by rw[Qy];omega) λh' d tk vs ms kp i pe=>⟨ms,(I.drn d).kept (t':=tk) kp,i,pe⟩) ?_;rintro its s1 ⟨ms,I1,i,pe⟩;obtain⟨l1,g⟩:=qU i;have l2:=pe.length_eq;refine⟨by omega,λi j=>decide ((ms.getD i "").cps.toList<(ms.getD j "").cps.toList),λi j k hi hj hk h1 h2=>decide_eq_false (So.mpr (List.le_trans (So.mp (of_decide_eq_false h1)) (So.mp (of_decide_eq_false h2)))),λi j _ _ h=>decide_eq_false (List.lt_asymm (of_decide_eq_true h)),λA' s' kp h0 Q' E' hq=>?_,λs' kp i j hi hj Q' hq=>?_,λp h' e a1 a2 kp he=>?_⟩
 ·rw[Ek i h0];exact z8 hq
 ·obtain⟨t,e1⟩:=g i hi;obtain⟨u,e2⟩:=g j hj;rw[e1,e2];exact AE hq
 ·have gk:∀i∈p,i<its.length:=λi hi=>by
   have:=a1.mem_iff.mp hi
   rwa[QX]at this
  have hz:(p.map λi=>ms.getD i "")=kN ks:=by
   refine wV ?_ ?_
   ·refine List.Perm.trans ?_ pe;refine(a1.map _).trans ?_;have:(Pm its.length).map (λi=>ms.getD i "")=ms:=by
     apply List.ext_getElem
     ·simp[l1]
     ·intro i h1 h2;simp at h1;simp[h2]
    rw[this]
   ·rw[QM];exact a2.imp λh=>of_decide_eq_false h
  have rv:=oW i gk;rw[hz]at rv;refine⟨.ref s1.heap.objs.size,_,I1.laid (t':=s1.toks) (o:=.lst ((kN ks).map V.str)) kp (OO _) ⟨?_,_,e,rv,he⟩,rfl,q _ I1.fresh⟩;rw[OP,(C4 ks).length_eq,Qy];omega
def fO:PV->PH->Rs PV:=λx h=>match x with
 |.ref n=>match aO h n with
  |some ys=>match wR ys with
   |some ns=>if ns.length<64 then .ok (.ref h.length) (h++[.lst ((kN (ddT ns)).map PV.str)]) else .bad
   |none=>.bad
  |none=>.bad
 |_=>.bad
set_option tactic.hygienic true in
theorem C7{k:Nat}{p ee:Pos}(he:SE C k X e me)(hb:("sorted" : Str)∈C.bs)(ph:("set" : Str)∈C.bs)(hg:Gl X "sorted" := by rfl)(wt:Gl X "set" := by rfl)(n9:Pe [e] X.env=(false,eval e X.env)::Pe [] X.env:=by rfl)(pz:(backTo ee (Pe [] X.env)).any (·.1)=false:=by rfl)(d6:Pe [.Call (.Name "set" p2) [e] [] ee] X.env=(false,eval (.Call (.Name "set" p2) [e] [] ee) X.env)::Pe [] X.env:=by rfl)(ub:(backTo pos (Pe [] X.env)).any (·.1)=false:=by rfl):
  SE C k X (.Call (.Name "sorted" p) [.Call (.Name "set" p2) [e] [] ee] [] pos) (mUn fO me):=λc=>
 (A7 (C6 c.calm) hg (c.bn _ hb) PyProof.Rows.Boot.«sorted» (xP (vP (El c.calm) wt (c.bn _ ph) PyProof.Rows.Boot.«set» (xP (he c) Bz n9) (by decide) (by decide) n9 pz) Bz d6) (by decide) (by decide) d6 ub).imp λσ H Q h=>by
  obtain⟨φ,δ,h,rh,re,p⟩:=h;refine⟨φ,δ,h,rh,re,(post.bind p).imp ?_⟩;rintro v H1 ⟨φ1,x,h1,p1,t1,aa,af,q1⟩;unfold fO at q1;split at q1
  ·rename_i n;obtain⟨a,rfl,ha⟩:=af;split at q1
   ·rename_i ys ey;split at q1
    ·rename_i ns en;obtain⟨f7,q1⟩:=q1.ite;obtain⟨a',vs,vj,sq,dz⟩:=bZ aa ey;rw[ha]at vj;cases vj
     rw[AC en]at dz;rw[oU.mp dz]at sq;refine⟨a,ns,rfl,by rw[c.K];exact sq,f7,λb hb=>?_⟩;refine⟨b,ddT ns,rfl,bC,Nat.lt_of_le_of_lt (IA ns) f7,λl hl=>?_⟩;have hK:Kp H1 (upd H1 b (AD X.w b (ddT ns))):=Kp.new hb;have q2:post C φ1 (upd H1 b (AD X.w b (ddT ns))) (.ok (.ref h1.length) (h1++[.lst ((kN (ddT ns)).map PV.str)])) Q:=λφ' v H' p t rh rv=>q1 φ' v H' p (hK.trans t) rh rv;exact q2.lnew (aa.same (xU.upd hb)) (oU.mpr rfl) hl
    ·exact q1.elim
   ·exact q1.elim
  ·exact q1.elim
theorem AF(e:h[n]?=some (.lst (ss.map PV.str)))(hl:ss.length<64):fO (.ref n) h=.ok (.ref h.length) (h++[.lst ((kN (ddT ss)).map PV.str)]):=by
 have e1:aO h n=some (ss.map PV.str):=by simp[aO,e]
 simp only[fO,e1,AB];rw[if_pos hl]
structure ZA(z TI TO i1 i2:Addr)(f1 f2:List Addr):Prop where
 TIz:TI≠z
 TOz:TO≠z
 i1z:i1≠z
 i2z:i2≠z
 TITO:TI≠TO
 TIi1:TI≠i1
 TIi2:TI≠i2
 TOi1:TO≠i1
 TOi2:TO≠i2
 i12:i1≠i2
 a1:∀b∈f1,b≠z/\b≠TO/\b≠i2
 a2:∀b∈f2,b≠z/\b≠TO/\b≠i1
variable{P1 P2:Nat->Value->Prop}{S1 S2:Nat->Heap->Prop}{f1 f2:List Addr}{i1 i2:Addr}{n1 n2:Nat}
theorem IC{z:Addr}{TI:Addr}{TO:Addr}(D1:Draws prog w A i1 f1 n1 P1 S1)(D2:Draws prog w A i2 f2 n2 P2 S2)(Z:ZA z TI TO i1 i2 f1 f2){k:Nat}{a b:Value}(hz:IsZip s.heap z TI TO .none)(b9:IsPair s.heap TI (.ref i1) (.ref i2))(cm:IsPair s.heap TO a b)(s1:S1 k s.heap)(s2:S2 k s.heap)(k1:k<n1)(k2:k<n2)(hQ:∀x y h' tk,P1 k x->P2 k y->IsZip h' z TI TO (rawInt s.heap.objs.size)->IsPair h' TO x y->S1 (k+1) h'->S2 (k+1) h'->IsPair h' s.heap.objs.size x y->h'.objs.size=s.heap.objs.size+1->
   (∀c o,c≠z->c≠TO->c≠i1->c≠i2->s.heap.get? c=some o->h'.get? c=some o)->Q (.ref s.heap.objs.size) { s with heap:=h',toks:=tk }):
  wpAny (model prog w) A (Builtin.«zip.__next__» ⟨[.ref z],[]⟩) (λfin s'=>∃v,fin=.done (.ret v)/\Q v s') E s:=by
 show wpAny _ _ (field (.ref z) 2 >>= _) _ _ _
 refine ff (Qz hz rfl (x:=.bool false) rfl ?_)
 show wpAny _ _ (field (.ref z) 3 >>= _) _ _ _
 refine ff (Qz hz rfl (x:=.ref TI) rfl ?_);refine ff (QO b9 rfl ?_)
 show wpAny _ _ (Qu (.ref z) >>= _) _ _ _
 refine ff ?_;unfold Qu;refine ff (Qz hz rfl (x:=.none) rfl (z8 ?_));simp only[if_true];refine ff (Rn ?_);refine ff (Qz hz rfl (x:=.ref TO) rfl ?_);refine ff (Rg hz (by simp) λh₁ ij oh=>?_)
 replace ij:IsZip h₁ z TI TO .ellipsis:=ij
 have e1:=oh.extBut;have ow:S1 k h₁:=D1.frame _ _ _ s1 λb hb o e=>e1 b o (Z.a1 b hb).1 e;have p8:S2 k h₁:=D2.frame _ _ _ s2 λb hb o e=>e1 b o (Z.a2 b hb).1 e;refine ff ?_;simp only[List.zipIdx_cons,List.zipIdx_nil,List.forIn_cons,List.forIn_nil];refine ff (ff (wpAny_onRaise ?_))
 show wpAny _ _ (PR (.ref i1) >>= _) _ _ _
 refine ff (D1.item k _ _ _ k1 ow λx h₂ t2 px vg i3=>z8 ?_);have e2:=i3.extBut;have qw:S2 k h₂:=D2.frame _ _ _ p8 λb hb o e=>e2 b o (Z.a2 b hb).2.2 e;have ft:IsPair h₂ TO a b:=e2 _ _ Z.TOi1 (e1 _ _ Z.TOz cm);refine ff (QO ft rfl ?_);refine ff (wpAny_updateSeq_pair ft λh₃ gq ja=>?_)
 replace gq:IsPair h₃ TO x b:=gq
 have e3:=ja.extBut;have zf:S1 (k+1) h₃:=D1.frame _ _ _ vg λb hb o e=>e3 b o (Z.a1 b hb).2.1 e;have tf:S2 k h₃:=D2.frame _ _ _ qw λb hb o e=>e3 b o (Z.a2 b hb).2.1 e;refine ff (wpAny_letGo (z8 ?_));refine ff (ff (wpAny_onRaise ?_))
 show wpAny _ _ (PR (.ref i2) >>= _) _ _ _
 refine ff (D2.item k _ _ _ k2 tf λy h₄ t4 py wx kh=>z8 ?_);have e4:=kh.extBut;have yz:S1 (k+1) h₄:=D1.frame _ _ _ zf λb hb o e=>e4 b o (Z.a1 b hb).2.2 e;have kn:IsPair h₄ TO x b:=e4 _ _ Z.TOi2 gq;refine ff (QO kn rfl ?_);refine ff (wpAny_updateSeq_pair kn λh₅ gx lj=>?_)
 replace gx:IsPair h₅ TO x y:=gx
 have e5:=lj.extBut;refine ff (wpAny_letGo (z8 (z8 ?_)));refine ff (QO gx rfl ?_);refine ff (wpAny_newTuple ?_);have hsz:h₅.objs.size=s.heap.objs.size:=by
  have q4:=kh.1;have q3:=ja.1;have q2:=i3.1;have q1:=oh.1;rw[lj.1];exact q4.trans (q3.trans (q2.trans q1))
 have v9:IsZip h₅ z TI TO .ellipsis:=e5 _ _ Z.TOz.symm (e4 _ _ Z.i2z.symm (e3 _ _ Z.TOz.symm (e2 _ _ Z.i1z.symm ij)));have x9:∀c o,c≠z->c≠TO->c≠i1->c≠i2->s.heap.get? c=some o->h₅.get? c=some o:=λc o c1 c2 c3 c4 e=>e5 _ _ c2 (e4 _ _ c4 (e3 _ _ c2 (e2 _ _ c3 (e1 _ _ c1 e))));have zh:S1 (k+1) h₅:=D1.frame _ _ _ yz λb hb o e=>e5 b o (Z.a1 b hb).2.1 e;have yh:S2 (k+1) h₅:=D2.frame _ _ _ wx λb hb o e=>e5 b o (Z.a2 b hb).2.1 e;have mq:z<h₅.objs.size:=OS v9
 show wpAny _ _ (Sj (.ref z) (.ref h₅.objs.size) >>= _) _ _ _
 refine ff ?_;unfold Sj;have xf:IsZip (h₅.push { cls:=.type "tuple",data:=.seq #[x,y] }) z TI TO .ellipsis:=zz _ v9;refine ff (Rg xf (by simp) λh₇ tq sy=>?_)
 replace tq:IsZip h₇ z TI TO (rawInt h₅.objs.size):=tq
 refine Rg tq (by simp) λh₈ nc sm=>?_
 replace nc:IsZip h₈ z TI TO (rawInt h₅.objs.size):=nc
 have up:∀c o,c≠z->h₅.get? c=some o->h₈.get? c=some o:=λc o c1 e=>sm.extBut _ _ c1 (sy.extBut _ _ c1 (zz _ e));have vk:IsPair h₈ h₅.objs.size x y:=sm.extBut _ _ (QY mq) (sy.extBut _ _ (QY mq) (OQ _ rfl));have vy:h₈.objs.size=h₅.objs.size+1:=by rw[sm.1,sy.1,Qp]
 rw[hsz]at nc vk vy;refine z8 ⟨_,rfl,?_⟩
 show Q (.ref h₅.objs.size) _
 rw[hsz];exact hQ x y h₈ _ px py nc (up _ _ Z.TOz gx) (D1.frame _ _ _ zh λb hb o e=>up b o (Z.a1 b hb).1 e) (D2.frame _ _ _ yh λb hb o e=>up b o (Z.a2 b hb).1 e) vk vy λc o c1 c2 c3 c4 e=>up c o c1 (x9 c o c1 c2 c3 c4 e)
theorem L6{z:Addr}{TI:Addr}{TO:Addr}(D1:Draws prog w A i1 f1 n1 P1 S1)(D2:Draws prog w A i2 f2 n2 P2 S2)(Z:ZA z TI TO i1 i2 f1 f2){k:Nat}{a b:Value}{Q:PySem.Fin->Shared->Prop}(hz:IsZip s.heap z TI TO .none)(b9:IsPair s.heap TI (.ref i1) (.ref i2))(cm:IsPair s.heap TO a b)(s1:S1 k s.heap)(s2:S2 k s.heap)(hk:k=n1\/k<n1/\k=n2)(hE:∀h' e tk,(∀c o,c≠z->c≠TO->c≠i1->c≠i2->s.heap.get? c=some o->h'.get? c=some o)->(∃o,h'.get? e=some o/\o.cls=.type "StopIteration")->E (.ref e) { s with heap:=h',toks:=tk }):
  wpAny (model prog w) A (Builtin.«zip.__next__» ⟨[.ref z],[]⟩) Q E s:=by
 show wpAny _ _ (field (.ref z) 2 >>= _) _ _ _
 refine ff (Qz hz rfl (x:=.bool false) rfl ?_)
 show wpAny _ _ (field (.ref z) 3 >>= _) _ _ _
 refine ff (Qz hz rfl (x:=.ref TI) rfl ?_);refine ff (QO b9 rfl ?_)
 show wpAny _ _ (Qu (.ref z) >>= _) _ _ _
 refine ff ?_;unfold Qu;refine ff (Qz hz rfl (x:=.none) rfl (z8 ?_));simp only[if_true];refine ff (Rn ?_);refine ff (Qz hz rfl (x:=.ref TO) rfl ?_);refine ff (Rg hz (by simp) λh₁ ij oh=>?_)
 replace ij:IsZip h₁ z TI TO .ellipsis:=ij
 have e1:=oh.extBut;have ow:S1 k h₁:=D1.frame _ _ _ s1 λb hb o e=>e1 b o (Z.a1 b hb).1 e;have p8:S2 k h₁:=D2.frame _ _ _ s2 λb hb o e=>e1 b o (Z.a2 b hb).1 e;refine ff ?_;simp only[List.zipIdx_cons,List.zipIdx_nil,List.forIn_cons,List.forIn_nil];refine ff (ff (wpAny_onRaise ?_))
 show wpAny _ _ (PR (.ref i1) >>= _) _ _ _
 rcases hk with rfl|⟨k1,rfl⟩
 ·refine ff (D1.done _ _ _ ow λh₂ e i3 he=>?_);obtain⟨oe,i6,k9⟩:=he;have vc:IsZip h₂ z TI TO .ellipsis:=i3 _ _ Z.i1z.symm ij;have t8:e≠z:=λx=>by subst x;rw[vc]at i6;cases i6;simp at k9
  exact Rg vc (by simp) λh₃ _ ja=>hE h₃ e _ (λc o c1 _ c3 _ x=>ja.extBut _ _ c1 (i3 _ _ c3 (e1 _ _ c1 x))) ⟨oe,ja.extBut _ _ t8 i6,k9⟩
 ·refine ff (D1.item k _ _ _ k1 ow λx h₂ t2 px vg i3=>z8 ?_);have e2:=i3.extBut;have qw:S2 k h₂:=D2.frame _ _ _ p8 λb hb o e=>e2 b o (Z.a2 b hb).2.2 e;have ft:IsPair h₂ TO a b:=e2 _ _ Z.TOi1 (e1 _ _ Z.TOz cm);refine ff (QO ft rfl ?_);refine ff (wpAny_updateSeq_pair ft λh₃ gq ja=>?_);have e3:=ja.extBut;have tf:S2 k h₃:=D2.frame _ _ _ qw λb hb o e=>e3 b o (Z.a2 b hb).2.1 e;refine ff (wpAny_letGo (z8 ?_));refine ff (ff (wpAny_onRaise ?_))
  show wpAny _ _ (PR (.ref i2) >>= _) _ _ _
  refine ff (D2.done _ _ _ tf λh₄ e kh he=>?_);obtain⟨oe,i6,k9⟩:=he;have vb:IsZip h₄ z TI TO .ellipsis:=kh _ _ Z.i2z.symm (e3 _ _ Z.TOz.symm (e2 _ _ Z.i1z.symm ij));have t8:e≠z:=λx=>by subst x;rw[vb]at i6;cases i6;simp at k9
  exact Rg vb (by simp) λh₅ _ lj=>hE h₅ e _ (λc o c1 c2 c3 c4 x=>lj.extBut _ _ c1 (kh _ _ c4 (e3 _ _ c2 (e2 _ _ c3 (e1 _ _ c1 x))))) ⟨oe,lj.extBut _ _ t8 i6,k9⟩
theorem Gf{z:Addr}{TI:Addr}{TO:Addr}(hh:A.handled=none)(D1:∀A:Around,A.handled=none->Draws prog w A i1 f1 n1 P1 S1)(D2:∀A:Around,A.handled=none->Draws prog w A i2 f2 n2 P2 S2)(Z:ZA z TI TO i1 i2 f1 f2){k:Nat}{a b:Value}{Q:Option Value->Shared->Prop}(hz:IsZip s.heap z TI TO .none)(b9:IsPair s.heap TI (.ref i1) (.ref i2))(cm:IsPair s.heap TO a b)(s1:S1 k s.heap)(s2:S2 k s.heap)(k1:k<n1)(k2:k<n2)(hQ:∀x y h' tk,P1 k x->P2 k y->IsZip h' z TI TO (rawInt s.heap.objs.size)->IsPair h' TO x y->S1 (k+1) h'->S2 (k+1) h'->IsPair h' s.heap.objs.size x y->h'.objs.size=s.heap.objs.size+1->
   (∀c o,c≠z->c≠TO->c≠i1->c≠i2->s.heap.get? c=some o->h'.get? c=some o)->Q (some (.ref s.heap.objs.size)) { s with heap:=h',toks:=tk }):
  wpAny (model prog w) A (pyNext (.ref z)) Q E s:=by
 have hT:s.TypeIs (.ref z) "zip" := ⟨_,hz,rfl⟩;unfold pyNext;exact ff (wpAny_attempt (Pz (name:=PJ "__next__") hT RY
  (PL RY hT PySem.F.entry_zip_next
   (IC (D1 A.in1 hh) (D2 A.in1 hh) Z hz b9 cm s1 s2 k1 k2 λx y h' tk a1 a2 a3 a4 a5 a6 a7 a8 a9=>z8 (hQ x y h' tk a1 a2 a3 a4 a5 a6 a7 a8 a9)) (PySem.F.args_zip_next_1 _))))
theorem AG{z:Addr}{TI:Addr}{TO:Addr}(hh:A.handled=none)(D1:∀A:Around,A.handled=none->Draws prog w A i1 f1 n1 P1 S1)(D2:∀A:Around,A.handled=none->Draws prog w A i2 f2 n2 P2 S2)(Z:ZA z TI TO i1 i2 f1 f2){k:Nat}{a b:Value}{Q:Option Value->Shared->Prop}(hz:IsZip s.heap z TI TO .none)(b9:IsPair s.heap TI (.ref i1) (.ref i2))(cm:IsPair s.heap TO a b)(s1:S1 k s.heap)(s2:S2 k s.heap)(hk:k=n1\/k<n1/\k=n2)(hQ:∀h' tk,(∀c o,c≠z->c≠TO->c≠i1->c≠i2->s.heap.get? c=some o->h'.get? c=some o)->Q none { s with heap:=h',toks:=tk }):wpAny (model prog w) A (pyNext (.ref z)) Q E s:=by
 have hT:s.TypeIs (.ref z) "zip" := ⟨_,hz,rfl⟩;unfold pyNext;refine ff (wpAny_attempt (Pz (name:=PJ "__next__") hT RY
  (PL RY hT PySem.F.entry_zip_next (L6 (D1 A.in1 hh) (D2 A.in1 hh) Z hz b9 cm s1 s2 hk λh' e tk hk he=>?_) (PySem.F.args_zip_next_1 _))))
 obtain⟨o,ho,hc⟩:=he;refine ff (QV (T:="StopIteration") (b:=true) ⟨o,ho,hc⟩ isSubtype_stop ?_);exact z8 (hQ _ _ hk)
theorem boot_zip:Q7 "zip" = some (.type "zip"):=by first|rfl|decide +kernel|kernel_rfl
open PySem PySem.Spec PyProof.Rows PySem.W
def eD:Ms:=λ_ _=>.bad
theorem Nf{k:Nat}:SSt C k X st eD:=λc _ _ σ H _ I h=>by
 obtain⟨φ,δ,h,rh,re,p⟩:=h;exact p.elim
open PySem PySem.Spec PyProof.Rows
def pT(fl:Value):Obj->Prop:=λo=>∃ts,o.data=.fields ts/\ts[3]?=some fl
theorem getD_none{α:Type}{o:Array (Option α)}{x:α}(h:(o.getD j (some x)).isNone=true):o[j]?=some none:=by
 by_cases q:j<o.size
 ·have e:o.getD j (some x)=o[j]:=by simp[SD,q]
  rw[e]at h;rw[Po q,Option.isNone_iff_eq_none.mp h]
 ·have e:o.getD j (some x)=some x:=by simp[SD,q]
  rw[e]at h;cases h
section
variable{k:Nat}
def lU:PV->List PV->PH->Rs PV:=λx ps h=>match x,ps with
 |.str x,[.str y]=>.ok (.bl (QP x y)) h
 |_,_=>.bad
set_option tactic.hygienic true in
theorem Em(c:Cxt C k X):MtR X "str.startswith" (rM C lU):=λpins s σ H x xs v us Q I rx rs h=>by
 obtain⟨φ,h,p,ps,rh,rp,c0,po⟩:=h;unfold lU at po;split at po
 ·rename_i z y;have e1:x=.str z:=rp;subst e1;obtain⟨tk,rfl⟩:=rx;obtain⟨v1,rfl,af⟩:=c0.one;have e2:v1=.str y:=af;subst e2;obtain⟨u,rfl,ru⟩:=vals1 rs;obtain⟨tu,rfl⟩:=ru;refine call_gives Q5 (P8 s z tk) PySem.F.entry_str_startswith (PySem.F.args_str_startswith_2 _ _) (gives_str_startswith z y tk tu) ?_;have e3:(decide (0+y.length<=z.length)&&Builtin.Str.subAt z y 0)=QP z y:=by simp only[QP,Nat.zero_add]
  rw[e3];exact⟨.bl _,H,I,rfl,po.val rh rfl⟩
 ·exact po.elim
theorem Gg:MtG C k X "str" bG "str.startswith" lU:=λc=>⟨Em c,λpins s σ H φ h p x v I rh rv r e=>by
 cases p with
 |str z=>
  have e1:x=.str z:=rv;subst e1;obtain⟨t,rfl⟩:=r;exact⟨P8 s z t,λa e=>nomatch e⟩
 |_=>cases e⟩
@[simp]theorem L7{y:Str}:lU (.str x) [.str y] h=.ok (.bl (QP x y)) h:=(rfl)
open PySem.Builtin.Str in
def spl(x y:Str)(m:Nat):List Str:=
 if(decide (x.length<y.length) || decide (Px x<Px y))=true then[x]
 else if(occurrences x y 0 x.length m).isEmpty=true then[x]
 else partsBetween x (occurrences x y 0 x.length m) y.length
def eG:PV->List PV->PH->Rs PV:=λx ps h=>match x,ps with
 |.str x,[.str y]=>if(y.length == 0)=false/\x.length<=OR/\(spl x y (x.length+1)).length<=OR then .ok (.ref h.length) (h++[.lst ((spl x y (x.length+1)).map PV.str)]) else .bad
 |_,_=>.bad
theorem tQ{φ:List Addr}{H:Hp}:∀zs:List Str,RVs C φ H (zs.map PV.str) (zs.map V.str)
 |[]=>trivial
 |z::zs=>⟨rfl,tQ zs⟩
theorem pV:∀(zs:List Str)(t:Nat),aI (zs.map V.str) (strsFrom t zs)
 |[],_=>.nil
 |z::zs,t=>.cons ⟨t,rfl⟩ (pV zs (t+1))
theorem fP{σ:St}{Q:VK}(I:Inv X pins σ H s)(rh:RH C φ H h)(po:post C φ H (.ok (.ref h.length) (h++[.lst (zs.map PV.str)])) Q)(hz:zs.length<=OR)(ru:aI (zs.map V.str) us):EP X pins σ Q (.ref s.heap.objs.size) { s with toks:=t',heap:=s.heap.push { cls:=.type "list",data:=.seq us.toArray } }:=by
 refine⟨.ref s.heap.objs.size,_,I.laid (t':=t') (o:=.lst (zs.map V.str)) (λ_ _ q=>zz _ q) (OO _) ⟨by rw[OP];exact hz,us,_,ru,OQ _ rfl⟩,rfl,po.lnew rh (tQ zs) I.fresh⟩
set_option tactic.hygienic true in
theorem AH(c:Cxt C k X):MtR X "str.split" (rM C eG):=λpins s σ H x xs v us Q I rx rs h=>by
 obtain⟨φ,h,p,ps,rh,rp,c0,po⟩:=h;unfold eG at po;split at po
 ·rename_i z y;split at po
  ·rename_i hc;obtain⟨hy,hx,hn⟩:=hc;have e1:x=.str z:=rp;subst e1;obtain⟨tk,rfl⟩:=rx;obtain⟨v1,rfl,af⟩:=c0.one;have e2:v1=.str y:=af;subst e2;obtain⟨u,rfl,ru⟩:=vals1 rs;obtain⟨tu,rfl⟩:=ru;have po0:=po;unfold spl at po hn
   by_cases h1:(decide (z.length<y.length) || decide (Px z<Px y))=true
   ·rw[if_pos h1]at po hn;refine R6 PY (P8 s z tk) QC (PySem.F.args_str_split_2 _ _) (meets_str_split_cannot_occur z y tk tu h1) ?_;exact fP I rh po hn (.cons ⟨tk,rfl⟩ .nil)
   ·rw[if_neg h1]at po hn;have h1:=Bool.not_eq_true _▸h1
    by_cases hf:(Pi z y 0 z.length (z.length+1)).isEmpty=true
    ·rw[if_pos hf]at po hn;refine R6 PY (P8 s z tk) QC (PySem.F.args_str_split_2 _ _) (meets_str_split_not_found z y tk tu h1 hy hf) ?_;exact fP I rh po hn (.cons ⟨tk,rfl⟩ .nil)
    ·rw[if_neg hf]at po hn;have hf:=Bool.not_eq_true _▸hf;refine R6 PY (P8 s z tk) QC (PySem.F.args_str_split_2 _ _) (meets_str_split_sep z y tk tu h1 hy hf hx hn) ?_;exact fP I rh po hn (pV _ _)
  ·exact po.elim
 ·exact po.elim
theorem m_split:MtG C k X "str" bG "str.split" eG:=λc=>⟨AH c,λpins s σ H φ h p x v I rh rv r e=>by
 cases p with
 |str z=>
  have e1:x=.str z:=rv;subst e1;obtain⟨t,rfl⟩:=r;exact⟨P8 s z t,λa e=>nomatch e⟩
 |_=>cases e⟩
def fE:PV->List PV->PH->Rs PV:=λx ps h=>match x,ps with
 |.str x,[.str y,.int i]=>if(decide (i < -(2 ^ 63:Int)) || decide (i >= 2 ^ 63))=false/\(y.length == 0)=false/\x.length<=OR/\(spl x y (limitOf x i)).length<=OR then .ok (.ref h.length) (h++[.lst ((spl x y (limitOf x i)).map PV.str)]) else .bad
 |_,_=>.bad
set_option tactic.hygienic true in
theorem En(c:Cxt C k X):MtR X "str.split" (rM C fE):=λpins s σ H x xs v us Q I rx rs h=>by
 obtain⟨φ,h,p,ps,rh,rp,c0,po⟩:=h;unfold fE at po;split at po
 ·rename_i z y i;split at po
  ·rename_i hc;obtain⟨hk,hy,hx,hn⟩:=hc;have e1:x=.str z:=rp;subst e1;obtain⟨tk,rfl⟩:=rx;obtain⟨v1,v2,rfl,af,ax⟩:=c0.two;have e2:v1=.str y:=af;subst e2;have e3:v2=.int i:=ax;subst e3;obtain⟨u,u2,rfl,ru,se⟩:=vals2 rs;obtain⟨tu,rfl⟩:=ru;obtain⟨tv,rfl⟩:=se;unfold spl at po hn
   by_cases h1:(decide (z.length<y.length) || decide (Px z<Px y))=true
   ·rw[if_pos h1]at po hn;refine R6 PY (P8 s z tk) QC (PySem.F.args_str_split_3 _ _ _) (meets_str_split_max_cannot_occur z y i tk tu tv hk h1) ?_;exact fP I rh po hn (.cons ⟨tk,rfl⟩ .nil)
   ·rw[if_neg h1]at po hn;have h1:=Bool.not_eq_true _▸h1
    by_cases hf:(Pi z y 0 z.length (limitOf z i)).isEmpty=true
    ·rw[if_pos hf]at po hn;refine R6 PY (P8 s z tk) QC (PySem.F.args_str_split_3 _ _ _) (meets_str_split_max_not_found z y i tk tu tv hk h1 hy hf) ?_;exact fP I rh po hn (.cons ⟨tk,rfl⟩ .nil)
    ·rw[if_neg hf]at po hn;have hf:=Bool.not_eq_true _▸hf;refine R6 PY (P8 s z tk) QC (PySem.F.args_str_split_3 _ _ _) (meets_str_split_sep_max z y i tk tu tv hk h1 hy hf hx hn) ?_;exact fP I rh po hn (pV _ _)
  ·exact po.elim
 ·exact po.elim
theorem Gh:MtG C k X "str" bG "str.split" fE:=λc=>⟨En c,λpins s σ H φ h p x v I rh rv r e=>by
 cases p with
 |str z=>
  have e1:x=.str z:=rv;subst e1;obtain⟨t,rfl⟩:=r;exact⟨P8 s z t,λa e=>nomatch e⟩
 |_=>cases e⟩
open PySem.Builtin.Str in
def nD(x y:Str):List Str:=match occurrences x y 0 x.length 1 with
 |i::_=>[strSub x 0 i,y,strSub x (i+y.length) x.length]
 |[]=>[x,Str.empty,Str.empty]
def fW:PV->List PV->PH->Rs PV:=λx ps h=>match x,ps with
 |.str x,[.str y]=>if(y.length == 0)=false/\x.length<=OR then .ok (.tup ((nD x y).map PV.str)) h else .bad
 |_,_=>.bad
theorem AI{σ:St}{Q:VK}(I:Inv X pins σ H s)(rh:RH C φ H h)(po:post C φ H (.ok (.tup (zs.map PV.str)) h) Q)(hz:zs.length<=OR)(ru:aI (zs.map V.str) us):EP X pins σ Q (.ref s.heap.objs.size) { s with toks:=t',heap:=s.heap.push { cls:=.type "tuple",data:=.seq us.toArray } }:=by
 refine⟨.ref s.heap.objs.size,_,I.laid (t':=t') (o:=.tup (zs.map V.str)) (λ_ _ q=>zz _ q) (OO _) ⟨by rw[OP];exact hz,us,ru,⟨_,OQ _ rfl,rfl,⟨_,rfl⟩,rfl⟩⟩,rfl,po.tnew rh (tQ zs) I.fresh⟩
set_option tactic.hygienic true in
theorem Gi(c:Cxt C k X):MtR X "str.partition" (rM C fW):=λpins s σ H x xs v us Q I rx rs h=>by
 obtain⟨φ,h,p,ps,rh,rp,c0,po⟩:=h;unfold fW at po;split at po
 ·rename_i z y;split at po
  ·rename_i hc;obtain⟨hy,hx⟩:=hc;have e1:x=.str z:=rp;subst e1;obtain⟨tk,rfl⟩:=rx;obtain⟨v1,rfl,af⟩:=c0.one;have e2:v1=.str y:=af;subst e2;obtain⟨u,rfl,ru⟩:=vals1 rs;obtain⟨tu,rfl⟩:=ru;refine R6 PySem.F.slot_str_partition (P8 s z tk) PySem.F.entry_str_partition (PySem.F.args_str_partition_2 _ _) (meets_str_partition z y tk tu hy hx) ?_;unfold nD at po;cases eo:Pi z y 0 z.length 1 with
   |nil=>
    rw[eo]at po;exact AI I rh po (by show 3<=OR;decide) (.cons ⟨_,rfl⟩ (.cons ⟨_,rfl⟩ (.cons ⟨_,rfl⟩ .nil)))
   |cons i r=>
    rw[eo]at po;exact AI I rh po (by show 3<=OR;decide) (.cons ⟨_,rfl⟩ (.cons ⟨_,rfl⟩ (.cons ⟨_,rfl⟩ .nil)))
  ·exact po.elim
 ·exact po.elim
theorem ID:MtG C k X "str" bG "str.partition" fW:=λc=>⟨Gi c,λpins s σ H φ h p x v I rh rv r e=>by
 cases p with
 |str z=>
  have e1:x=.str z:=rv;subst e1;obtain⟨t,rfl⟩:=r;exact⟨P8 s z t,λa e=>nomatch e⟩
 |_=>cases e⟩
end
def AJ:List PV->PH->Rs PV:=λxs h=>match xs with
 |[.str x]=>match PySem.intText? x with
  |some n=>if x.length<=640 then .ok (.int n) h else .bad
  |none=>.bad
 |_=>.bad
set_option tactic.hygienic true in
theorem L8{k:Nat}:jU C k X (.type "int") AJ:=λc pins s σ H xs us Q I r h=>by
 obtain⟨φ,h,ps,rh,rv,po⟩:=h;unfold AJ at po;split at po
 ·rename_i x;split at po
  ·rename_i n hn;split at po
   ·rename_i hl;obtain⟨v,rfl,rx⟩:=rv.one;cases rx
    obtain⟨u,rfl,ru⟩:=vals1 r;obtain⟨t,rfl⟩:=ru;exact PySem.W.KIN.call_text hn hl ⟨.int n,H,I.tok _,⟨_,rfl⟩,po.val rh rfl⟩
   ·exact po.elim
  ·exact po.elim
 ·exact po.elim
def jY:List PV->PH->Rs PV:=λxs h=>match xs with
 |[.int a]=>if a.natAbs.log2<1920 then .ok (.str (PJ (toString a))) h else .bad
 |_=>.bad
set_option tactic.hygienic true in
theorem L9{k:Nat}:jU C k X (.type "str") jY:=λc pins s σ H xs us Q I r h=>by
 obtain⟨φ,h,ps,rh,rv,po⟩:=h;unfold jY at po;split at po
 ·rename_i a;split at po
  ·rename_i hl;obtain⟨v,rfl,rx⟩:=rv.one;cases rx
   obtain⟨u,rfl,ru⟩:=vals1 r;obtain⟨t,rfl⟩:=ru;exact P.str_of_int hl ⟨.str _,H,I.tok _,⟨_,rfl⟩,po.val rh rfl⟩
  ·exact po.elim
 ·exact po.elim
variable{e2:Expr}
section
variable{k:Nat}
def IE(x:PV)(h:PH):Rs PV:=match x with
 |.str y=>if y.length<=OR then .ok (.str y) h else .bad
 |.int a=>if a.natAbs.log2<1920 then .ok (.str (PJ (toString a))) h else .bad
 |_=>.bad
def AL(m:Me):Me:=λδ h=>(m δ h).bind IE
set_option tactic.hygienic true in
theorem AM(he:SE C k X e m):SE C k X (.FormattedValue e (-1) none pos) (AL m):=λc pins s σ H Q I ⟨φ,δ,h,rh,re,p⟩=>by
 refine wpAny_FormattedValue_plain ?_;refine thn (he c pins s σ H _ I ⟨φ,δ,h,rh,re,post.bind p⟩) ?_;rintro v s1 ⟨x,H1,I1,rv,φ1,px,h1,pf1,t1,aa,rx,q1⟩;unfold IE at q1;split at q1
 ·rename_i y;split at q1
  ·rename_i hl;have e1:x=.str y:=rx;subst e1;obtain⟨t,rfl⟩:=rv;have hq:=q1.val aa rfl;exact wpAny_formatField_str ⟨.str y,H1,I1,⟨t,rfl⟩,hq⟩ ⟨.str y,H1,I1.tok _,⟨_,rfl⟩,hq⟩ hl
  ·exact q1.elim
 ·rename_i a;split at q1
  ·rename_i hl;have e1:x=.int a:=rx;subst e1;obtain⟨t,rfl⟩:=rv;exact wpAny_formatField_int hl ⟨.str _,H1,(I1.tok _).tok _,⟨_,rfl⟩,q1.val aa rfl⟩
  ·exact q1.elim
 ·exact q1.elim
def mJn:Str->List Me->Me
 |acc,[]=>λ_ h=>if acc.length<=OR then .ok (.str acc) h else .bad
 |acc,m::ms=>λδ h=>(m δ h).bind λx h1=>match x with
  |.str y=>if(acc++y).length<=OR then mJn (acc++y) ms δ h1 else .bad
  |_=>.bad
inductive SEs(C:MC)(k:Nat)(X:Cx):List Expr->List Me->Prop
 |nil:SEs C k X [] []
 |cons {e:Expr} {m:Me} {es:List Expr} {ms:List Me} (h:SE C k X e m) (t:SEs C k X es ms):SEs C k X (e::es) (m::ms)
set_option tactic.hygienic true in
theorem AN(c:Cxt C k X):∀{es:List Expr}{ms:List Me}(_:SEs C k X es ms){acc:Str}{pins:List (Addr×Obj)}{s:Shared}{σ:St}{H:Hp}{Q:VK}{φ:List Addr}{δ:Ev}{h:PH}(_:Inv X pins σ H s)(_:RH C φ H h)(_:RE C φ H δ σ)(_:post C φ H (mJn acc ms δ h) Q),
  Joins (model X.prog X.w) X.A X.xe (evalEach es X.env) acc (λout s₁=>out.length<=OR/\EP X pins σ Q (.str out s₁.toks) { s₁ with toks:=s₁.toks+1 }) s
 |[],_,.nil,acc,pins,s,σ,H,Q,φ,δ,h,I,rh,re,p=>by
  unfold mJn at p;split at p
  ·rename_i hl;exact⟨hl,.str acc,H,I.tok _,⟨_,rfl⟩,p.val rh rfl⟩
  ·exact p.elim
 |e::es,_,.cons he ht,acc,pins,s,σ,H,Q,φ,δ,h,I,rh,re,p=>by
  unfold mJn at p;refine thn (he c pins s σ H _ I ⟨φ,δ,h,rh,re,post.bind p⟩) ?_;rintro v s1 ⟨x,H1,I1,rv,φ1,px,h1,pf1,t1,aa,rx,q1⟩;split at q1
  ·rename_i y;split at q1
   ·rename_i hl;have e1:x=.str y:=rx;subst e1;obtain⟨t,rfl⟩:=rv;exact⟨y,t,rfl,hl,AN c ht I1 aa (re.mono pf1 t1) q1⟩
   ·exact q1.elim
  ·exact q1.elim
theorem AO{e1:Expr}{ms:List Me}(h:SEs C k X (e1::e2::es) ms):SE C k X (.JoinedStr (e1::e2::es) pos) (mJn Str.empty ms):=λc pins s σ H Q I ⟨φ,δ,hh,rh,re,p⟩=>wpAny_JoinedStr (AN c h I rh re p)
end
def C8:PV->PV->PH->Rs PV:=λx y h=>match x,y with
 |.str x,.str y=>.ok (.bl (Txt.contains y x)) h
 |_,_=>.bad
set_option tactic.hygienic true in
theorem Ng{k:Nat}:OpS C k X (Pn .In) C8:=λc pins s σ H x y u v Q I rx ry h=>by
 obtain⟨φ,h,p,q,rh,rp,rq,po⟩:=h;unfold C8 at po;split at po
 ·rename_i z w;have e1:x=.str z:=rp;subst e1;have e2:y=.str w:=rq;subst e2;obtain⟨t,rfl⟩:=rx;obtain⟨t',rfl⟩:=ry;exact SB.contains ⟨.bl _,H,I,rfl,po.val rh rfl⟩
 ·exact po.elim
@[simp]theorem IF{y:Str}:C8 (.str x) (.str y) h=.ok (.bl (Txt.contains y x)) h:=(rfl)
theorem oX{t:Addr}{items}{x:Value}(hit:s.heap.IsTupleIter it t i)(ht:s.heap.IsTuple t items)(hx:items[i]?=some x)(hQ:∀h',h'.IsTupleIter it t (i+1)->RK it s.heap h'->Q x { s with heap:=h' }):
  wpAny (model prog w) A (PR (.ref it)) Q E s:=by
 obtain⟨o,ho,hc,hd⟩:=id hit;obtain⟨ol,t7,_,nl,r8⟩:=ht;unfold PR;refine ff (Pz (name:=PJ "__next__") hit.typeIs slot_tupleiter_next
  (PL slot_tupleiter_next hit.typeIs entry_tupleiter_next ?_ (args_tupleiter_next _)))
 show wpAny _ _ (field (.ref it) 0 >>= _) _ _ s
 refine ff (Qz ho hd (x:=.ref t) rfl ?_)
 show wpAny _ _ (if(Py t == PC)=true then _ else _) _ _ s
 rw[if_neg (show ¬ ((Py t == PC)=true) from Pc)]
 show wpAny _ _ (field (.ref it) 1 >>= _) _ _ s
 refine ff (Qz ho hd (x:=.int i 0) rfl ?_)
 show wpAny _ _ (seqItems? (.ref t) >>= _) _ _ s
 refine ff (QO t7 r8 ?_);simp only[Int.toNat_natCast,hx];refine ff (wpAny_setField ho hd (by simp) (z8 ⟨x,rfl,z8 (hQ _ ?_ (Q4 ..))⟩));exact⟨_,QQ _ ho (Obj.isFreed_of_fields (Obj.data_mapFields hd _)),(Obj.cls_mapFields ..).trans hc,by
  rw[Obj.data_mapFields hd];simp[rawInt]⟩
theorem iK{t:Addr}{items}(hh:A.handled=none)(hit:s.heap.IsTupleIter it t i)(ht:s.heap.IsTuple t items)(hx:items[i]?=none)(hE:∀h' e,Heap.ExtBut it s.heap h'->(∃o,h'.get? e=some o/\o.cls=.type "StopIteration")->E (.ref e) { s with heap:=h' }):
  wpAny (model prog w) A (PR (.ref it)) Q E s:=by
 obtain⟨o,ho,hc,hd⟩:=id hit;obtain⟨ol,t7,_,nl,r8⟩:=ht;unfold PR;refine ff (Pz (name:=PJ "__next__") hit.typeIs slot_tupleiter_next
  (PL slot_tupleiter_next hit.typeIs entry_tupleiter_next ?_ (args_tupleiter_next _)))
 show wpAny _ _ (field (.ref it) 0 >>= _) _ _ s
 refine ff (Qz ho hd (x:=.ref t) rfl ?_)
 show wpAny _ _ (if(Py t == PC)=true then _ else _) _ _ s
 rw[if_neg (show ¬ ((Py t == PC)=true) from Pc)]
 show wpAny _ _ (field (.ref it) 1 >>= _) _ _ s
 refine ff (Qz ho hd (x:=.int i 0) rfl ?_)
 show wpAny _ _ (seqItems? (.ref t) >>= _) _ _ s
 refine ff (QO t7 r8 ?_);simp only[Int.toNat_natCast,hx];refine ff (Rn (ff (wpAny_setField ho hd (by simp) ?_)))
 show wpAny _ _ (newExc (.type "StopIteration") [] >>= _) _ _ _
 refine ff ?_;simp only[newExc,newTuple];refine ff (Pw ?_ (by size_fits));refine ff (m:=Si _ _) (Rk (a:=PC) (by first|rfl|(simp only[Si];rfl)) ?_)
 refine Pw ?_ (by size_fits);simp only[raiseNew];refine ff (wpAny_handled ?_)
 first|rw[show A.in1.handled=none from hh]|rw[hh]
 refine ff (z8 (wpAny_throw ?_));exact hE _ _ (((Q4 ..).extBut.push _).push _) ⟨_,OQ _ rfl,rfl⟩
def SqB(b:Bool)(K:z9)(H:Hp)(l:Addr)(vs:List V):Prop:=match b with
 |true=>SqL K H l vs
 |false=>SqT K H l vs
def IsB(b:Bool)(h:Heap)(l:Addr)(its:Array Value):Prop:=match b with
 |true=>h.IsList l its
 |false=>h.IsTuple l its
def ItB(b:Bool)(h:Heap)(it l:Addr)(i:Nat):Prop:=match b with
 |true=>h.IsListIter it l i
 |false=>h.IsTupleIter it l i
def itC:Bool->String
 |true=>"list_iterator"
 |false=>"tuple_iterator"
theorem ItB.get{b:Bool}{h:Heap}(x:ItB b h it l i):∃o,h.get? it=some o/\o.cls=.type (itC b)/\o.data=.fields #[.ref l,.int i 0]:=by
 cases b <;> exact x
theorem ItB.of{b:Bool}{h:Heap}(x:∃o,h.get? it=some o/\o.cls=.type (itC b)/\o.data=.fields #[.ref l,.int i 0]):ItB b h it l i:=by
 cases b <;> exact x
theorem ItB.at{b:Bool}{h:Heap}(x:ItB b h it l i)(e:∀o,h.get? it=some o->h'.get? it=some o):ItB b h' it l i:=let ⟨o,ho,r⟩:=x.get;.of ⟨o,e o ho,r⟩
theorem IsB.at{b:Bool}{h:Heap}{its:Array Value}(x:IsB b h l its)(e:∀o,h.get? l=some o->h'.get? l=some o):IsB b h' l its:=by
 cases b with
 |true=>exact Heap.IsList.at x e
 |false=>let ⟨o,ho,r⟩:=(show h.IsTuple l its from x);exact⟨o,e o ho,r⟩
theorem drB(b:Bool)(hh:A.handled=none)(it l:Addr)(d8:l≠it)(items:Array Value):Draws prog w A it [it,l] items.size (λi v=>items[i]?=some v) (λi h=>ItB b h it l i/\IsB b h l items) where
 live:=λ_ _ st=>let ⟨o,ho,_⟩:=st.1.get;⟨o,ho⟩
 frame:=λ_ _ _ st hk=>⟨st.1.at λo e=>hk it (by simp) o e,st.2.at λo e=>hk l (by simp) o e⟩
 item:=λi s Q E hi st hQ=>by
  cases b with
  |true=>exact wpAny_nextOf_list_item st.1 st.2 (x:=items[i]) (by simp[hi]) λh' jy fo=>hQ _ h' s.toks (by simp[hi]) ⟨jy,st.2.at λo e=>fo.extBut _ _ d8 e⟩ fo
  |false=>exact oX st.1 st.2 (x:=items[i]) (by simp[hi]) λh' jy fo=>hQ _ h' s.toks (by simp[hi]) ⟨jy,st.2.at λo e=>fo.extBut _ _ d8 e⟩ fo
 done:=λs Q E st hE=>by
  cases b with
  |true=>exact wpAny_nextOf_list_end hh st.1 st.2 (by simp) hE
  |false=>exact iK hh st.1 st.2 (by simp) hE
theorem Nh(b:Bool)(hh:A.handled=none)(it l:Addr)(items:Array Value)(i:Nat)(h:items[i]?=none):Draws prog w A it [it,l] i (λ_ _=>False) (λj g=>j=i/\ItB b g it l i/\IsB b g l items) where
 live:=λ_ _ st=>let ⟨o,ho,_⟩:=st.2.1.get;⟨o,ho⟩
 frame:=λ_ _ _ st hk=>⟨st.1,st.2.1.at λo e=>hk it (by simp) o e,st.2.2.at λo e=>hk l (by simp) o e⟩
 item:=λj s Q E hj st hQ=>absurd hj (by rw[st.1];exact Qs _)
 done:=λs Q E st hE=>by
  cases b with
  |true=>exact wpAny_nextOf_list_end hh st.2.1 st.2.2 h hE
  |false=>exact iK hh st.2.1 st.2.2 h hE
theorem Di(b:Bool){items}(h:IsB b s.heap l items)(hQ:Q (.ref s.heap.objs.size) { s with heap:=s.heap.push { cls:=.type (itC b),data:=.fields #[.ref l,.int 0 0] } }):wpAny (model prog w) A (pyIter (.ref l)) Q E s:=by
 cases b with
 |true=>exact Sa h hQ
 |false=>exact wpAny_pyIter_tuple h hQ
abbrev Eo(b:Bool)(h:Heap)(l:Addr):Heap:=h.push { cls:=.type (itC b),data:=.fields #[.ref l,.int 0 0] }
abbrev Ou(h:Heap)(a b:Nat):Heap:=h.push { cls:=.type "tuple",data:=.seq #[.ref a,.ref b] }
abbrev Ov(h:Heap):Heap:=h.push { cls:=.type "tuple",data:=.seq #[.none,.none] }
abbrev Ow(h:Heap)(a b:Nat):Heap:=h.push { cls:=.type "zip",data:=.fields #[.none,.bool false,.bool false,.ref a,.ref b] }
abbrev zbA(b c:Bool)(h:Heap)(l m:Addr):Heap:=Eo c (Eo b h l) m
abbrev zbB(b c:Bool)(h:Heap)(l m:Addr):Heap:=Ou (zbA b c h l m) h.objs.size (Eo b h l).objs.size
abbrev zbC(b c:Bool)(h:Heap)(l m:Addr):Heap:=Ov (zbB b c h l m)
abbrev zbD(b c:Bool)(h:Heap)(l m:Addr):Heap:=Ow (zbC b c h l m) (zbA b c h l m).objs.size (zbB b c h l m).objs.size
set_option maxHeartbeats 4000000 in
theorem AQ(b c:Bool)(l m:Addr)(xs ys:Array Value):
  Meets (Builtin.«zip.__new__» ⟨[.type "zip",.ref l,.ref m],[]⟩) (λ_ R s=>IsB b s.heap l xs/\IsB c s.heap m ys/\R (.ok (.ret (.ref (zbC b c s.heap l m).objs.size))) { s with heap:=zbD b c s.heap l m }):=
 .of_wp λprog w A R s h=>by
  obtain⟨hp,g,d,tk,os⟩:=s;obtain⟨h1,h2,h⟩:=h;have f9:=sub_zip;have zx:IsB b (Shared.heap ⟨hp,g,d,tk,os⟩) l xs:=h1;have wq:IsB c (Shared.heap ⟨Eo b hp l,g,d,tk,os⟩) m ys:=h2.at λo e=>zz _ e
  wp_walk using Di b zx,Di c wq
  exact⟨_,rfl,h⟩
theorem IG(b c:Bool){m:Addr}{xs ys:Array Value}(h1:IsB b s.heap l xs)(h2:IsB c s.heap m ys)(h:∀h',IsZip h' (s.heap.objs.size+4) (s.heap.objs.size+2) (s.heap.objs.size+3) .none->IsPair h' (s.heap.objs.size+2) (.ref s.heap.objs.size) (.ref (s.heap.objs.size+1))->
   IsPair h' (s.heap.objs.size+3) .none .none->ItB b h' s.heap.objs.size l 0->ItB c h' (s.heap.objs.size+1) m 0->h'.objs.size=s.heap.objs.size+5->
   (∀c o,s.heap.get? c=some o->h'.get? c=some o)->Q (.ref (s.heap.objs.size+4)) { s with heap:=h' }):
  wpAny (model prog w) A (call (.type "zip") [.ref l,.ref m]) Q E s:=by
 refine callType_new PySem.F.called_zip (by decide) (PySem.F.typeCall_zip_2 _ _) (PySem.F.newCall_zip_2 _ _) (λobj=>PySem.F.args_object_init_3 obj _ _) PySem.F.entry_zip_new
  (AQ b c l m xs ys) ⟨h1,h2,?_⟩
 have z1:(Eo b s.heap l).objs.size=s.heap.objs.size+1:=Qp ..;have z2:(zbA b c s.heap l m).objs.size=s.heap.objs.size+2:=by rw[Qp,z1]
 have z3:(zbB b c s.heap l m).objs.size=s.heap.objs.size+3:=by rw[Qp,z2]
 have z4:(zbC b c s.heap l m).objs.size=s.heap.objs.size+4:=by rw[Qp,z3]
 have z5:(zbD b c s.heap l m).objs.size=s.heap.objs.size+5:=by rw[Qp,z4]
 have g5:(zbD b c s.heap l m).get? (zbC b c s.heap l m).objs.size=some _:=OQ _ rfl;have g4:(zbD b c s.heap l m).get? (zbB b c s.heap l m).objs.size=some _:=zz _ (OQ _ rfl);have g3:(zbD b c s.heap l m).get? (zbA b c s.heap l m).objs.size=some _:=zz _ (zz _ (OQ _ rfl));have g2:(zbD b c s.heap l m).get? (Eo b s.heap l).objs.size=some _:=zz _ (zz _ (zz _ (OQ _ rfl)));have g1:(zbD b c s.heap l m).get? s.heap.objs.size=some _:=zz _ (zz _ (zz _ (zz _ (OQ _ rfl))))
 show _/\_
 rw[z2,z3,z4]at g5;rw[z1,z2]at g3;rw[z3]at g4;rw[z1]at g2;rw[z4];exact⟨⟨_,g5,rfl⟩,h _ g5 g3 g4 (.of ⟨_,g1,rfl,rfl⟩) (.of ⟨_,g2,rfl,rfl⟩) z5 λc o e=>
  zz _ (zz _ (zz _ (zz _ (zz _ e))))⟩
section
variable{σ:St}{b:Bool}{c:Addr}{xs ys:List V}
theorem Inv.sqB(I:Inv X pins σ H s)(h:SqB b X.K H a xs):∃its:List Value,aI xs its/\IsB b s.heap a its.toArray:=by
 cases b with
 |true=>obtain⟨its,r,p,_⟩:=I.list h;exact⟨its,r,p.isList⟩
 |false=>obtain⟨its,r,p,_⟩:=I.tuple h;exact⟨its,r,p⟩
theorem Inv.sqB_inj(I:Inv X pins σ H s)(h:SqB b X.K H a xs)(h':SqB b X.K H a ys):xs=ys:=by
 cases b with
 |true=>exact I.list_inj h h'
 |false=>exact I.tuple_inj h h'
theorem Ni(h:SqB b X.K H a xs):(∃u,H a=some u)\/∃o,X.K.lookup a=some o:=by
 cases b with
 |true=>
  rcases h with(h|⟨o,h⟩)|⟨o,_,_,h,_⟩
  ·exact .inl ⟨_,h⟩
  ·exact .inl ⟨_,h⟩
  ·exact .inr ⟨o,h⟩
 |false=>
  rcases h with(h|⟨o,h⟩)|⟨o,_,_,h,_⟩
  ·exact .inl ⟨_,h⟩
  ·exact .inl ⟨_,h⟩
  ·exact .inr ⟨o,h⟩
theorem Inv.sqB_ne(I:Inv X pins σ H s)(h:SqB b X.K H a xs)(f:xN X pins H c):a≠c:=λe=>by
 subst e;rcases Ni h with⟨u,h⟩|⟨o,h⟩
 ·rw[f.1]at h;cases h
 ·have e:=I.mod.kin _ _ h;rcases f.2.2.2.1 with q|q
  ·exact I.ok.noex _ _ e q
  ·exact absurd (Pd (OS (I.ok.bs _ _ e).1) q) (Qs _)
end
def ItQ(b c:Bool)(K:z9)(l m:Addr):It:=
 ⟨λi H=>(∃vs v,SqB b K H l vs/\vs[i]?=some v)/\∃us u,SqB c K H m us/\us[i]?=some u,
  λi H y H'=>∃t v u,H t=none/\(∀vs,SqB b K H l vs->vs[i]?=some v)/\(∀us,SqB c K H m us->us[i]?=some u)/\y=.ref t/\H'=upd H t (.tup [v,u]),
  λi H=>∃vs us,SqB b K H l vs/\SqB c K H m us/\(vs.length<=i\/us.length<=i)⟩
structure ZN(z TI TO i1 i2:Addr):Prop where
 TIz:TI≠z
 TOz:TO≠z
 i1z:i1≠z
 i2z:i2≠z
 TITO:TI≠TO
 TIi1:TI≠i1
 TIi2:TI≠i2
 TOi1:TO≠i1
 TOi2:TO≠i2
 i12:i1≠i2
theorem ZN.za{z TI TO m:Addr}(N:ZN z TI TO i1 i2)(lz:l≠z)(lO:l≠TO)(l2:l≠i2)(mz:m≠z)(mO:m≠TO)(m1:m≠i1):ZA z TI TO i1 i2 [i1,l] [i2,m]:=
 ⟨N.TIz,N.TOz,N.i1z,N.i2z,N.TITO,N.TIi1,N.TIi2,N.TOi1,N.TOi2,N.i12,λb hb=>by
  simp only[KP,Pk,or_false]at hb;rcases hb with rfl|rfl
  ·exact⟨N.i1z,N.TOi1.symm,N.i12⟩
  ·exact⟨lz,lO,l2⟩,λb hb=>by
  simp only[KP,Pk,or_false]at hb;rcases hb with rfl|rfl
  ·exact⟨N.i2z,N.TOi2.symm,N.i12.symm⟩
  ·exact⟨mz,mO,m1⟩⟩
variable{elts:List Expr}{x1:Nat}
theorem Ep(bl bm:Bool)(l m:Addr)(z TI TO i1 i2:Addr)(N:ZN z TI TO i1 i2):
  Turn P w K (.Tuple elts x1 pos) (ItQ bl bm K l m) [z,TI,TO,i1,i2] z (λi h=>IsZip h z TI TO .none/\IsPair h TI (.ref i1) (.ref i2)/\(∃a b,IsPair h TO a b)/\ItB bl h i1 l i/\ItB bm h i2 m i) where
 mem:=by simp
 obj:=λi h ⟨hz,b9,⟨a,b,cm⟩,q1,q2⟩ b hb=>by
  obtain⟨o1,e1,_,d1⟩:=q1.get;obtain⟨o2,e2,_,d2⟩:=q2.get;simp only[KP,Pk,or_false]at hb;rcases hb with rfl|rfl|rfl|rfl|rfl
  ·exact⟨_,hz,λv q=>by cases q⟩
  ·exact⟨_,b9,λv q=>by cases q⟩
  ·exact⟨_,cm,λv q=>by cases q⟩
  ·exact⟨_,e1,λv q=>by rw[d1]at q;cases q⟩
  ·exact⟨_,e2,λv q=>by rw[d2]at q;cases q⟩
 keep:=λi h h' ⟨hz,b9,⟨a,b,cm⟩,h1,h2⟩ k=>
  ⟨k z (by simp) _ hz,k TI (by simp) _ b9,⟨a,b,k TO (by simp) _ cm⟩,h1.at λo e=>k i1 (by simp) o e,h2.at λo e=>k i2 (by simp) o e⟩
 item:=by
  intro X hP hw hK hc i pins s σ H E I hf ⟨hz,b9,⟨a,b,cm⟩,h1,h2⟩ ⟨⟨vs,v,hq,hv⟩,us,v2,il,hv2⟩;subst hP hw hK;obtain⟨its,rv,hl⟩:=I.sqB hq;obtain⟨iq,ax,hm⟩:=I.sqB il;obtain⟨u,hu,ru⟩:=rv.get hv;obtain⟨u2,vv,se⟩:=ax.get hv2;obtain⟨o1,e1,c1,d1⟩:=h1.get;obtain⟨o2,e2,c2,d2⟩:=h2.get;have hi:i<its.length:=(Io.mp hu).1;have hj:i<iq.length:=(Io.mp vv).1;have F:∀b∈[z,TI,TO,i1,i2],l≠b/\m≠b:=λb hb=>⟨I.sqB_ne hq (hf b hb),I.sqB_ne il (hf b hb)⟩;have Z:=N.za (l:=l) (m:=m) (F z (by simp)).1 (F TO (by simp)).1 (F i2 (by simp)).1 (F z (by simp)).2 (F TO (by simp)).2 (F i1 (by simp)).2;refine Gf (I.ok.hd hc) (λA hA=>drB bl hA i1 l (F i1 (by simp)).1 its.toArray) (λA hA=>drB bm hA i2 m (F i2 (by simp)).2 iq.toArray) Z hz b9 cm ⟨h1,hl⟩ ⟨h2,hm⟩ (by simpa using hi) (by simpa using hj) λxx yy h' tk px py a1 a2 a3 a4 a5 a6 kp=>⟨_,rfl,?_⟩
  have xi:xx=u:=by
   have:its[i]?=some xx:=by simpa using px
   rw[hu]at this;cases this;rfl
  subst xi;have y9:yy=u2:=by
   have:iq[i]?=some yy:=by simpa using py
   rw[vv]at this;cases this;rfl
  subst y9;refine wpAny_letOwnedTupleGo_zip (s:={ s with heap:=h',toks:=tk }) a1 λig hI same=>?_;have fr:H s.heap.objs.size=none:=I.hok.fresh (OO _);have nt:∀{b:Addr}{o:Obj},s.heap.get? b=some o->s.heap.objs.size≠b:=λe=>QY (OS e);have sb:∀(b:Addr)(o:Obj),b≠z->h'.get? b=some o->ig.get? b=some o:=λb o hb e=>(same.2 b hb).trans e;have ye:=sb _ _ (nt hz) a5;have fq:∀(b:Addr)(o:Obj),b∉[z,TO,i1,i2]->s.heap.get? b=some o->ig.get? b=some o:=λb o hb e=>
   sb b o (λq=>hb (by simp[q])) (kp b o (λq=>hb (by simp[q])) (λq=>hb (by simp[q])) (λq=>hb (by simp[q])) (λq=>hb (by simp[q])) e)
  have sub:∀b,b∈[z,TO,i1,i2]->b∈[z,TI,TO,i1,i2]:=λb hb=>by
   simp only[KP,Pk,or_false]at hb⊢;rcases hb with q|q|q|q <;> simp[q]
  have iw:∀b u,H b=some u->b∉[z,TO,i1,i2]:=λb u e q=>by
   have:=(hf b (sub b q)).1;rw[this]at e;cases e
  have mj:∀b u,H b=some u->b≠s.heap.objs.size:=λb u e q=>by rw[q,fr]at e;cases e
  refine⟨.ref s.heap.objs.size,upd H s.heap.objs.size (.tup [v,v2]),?_,rfl,⟨_,v,v2,fr,λys hy=>by rw[I.sqB_inj hy hq];exact hv,λys hy=>by rw[I.sqB_inj hy il];exact hv2,rfl,rfl⟩,⟨hI,sb _ _ Z.TIz (kp _ _ Z.TIz N.TITO Z.TIi1 Z.TIi2 b9),⟨_,_,sb _ _ Z.TOz a2⟩,a3.1.at λo e=>sb _ _ Z.i1z e,a4.1.at λo e=>sb _ _ Z.i2z e⟩,λb hb=>?_⟩
  ·refine Inv.step (s:=s) (h':=ig) (H:=H) (g':=s.gens) (d':=s.drawn) (t':=tk) (ch:=[z,TO,i1,i2]) I (λb hb=>?_) (λb o _ _ hc e _=>fq b o hc e) (λb o _ _ hc e _=>⟨o.slots,fq b o hc e⟩) (λb o hc e n=>?_)
    (λb o hc e=>⟨o,fq b o hc e⟩) (λb xs e=>by rw[aW (mj _ _ e)];exact e) (λb o u e=>by rw[aW (mj _ _ e)];exact e) (λb ps e=>⟨#[],by rw[aW (mj _ _ e),e];simp⟩) (λm hm=>?_) (λb u e=>?_) I.bare
   ·obtain⟨f0,f1,f2,f3,f4,f5⟩:=hf b (sub b hb);exact⟨f3,f1,f4,f5⟩
   ·rw[aW (OW (OS e))];exact n
   ·obtain⟨o,es,ep,ho,r⟩:=hm;exact⟨o,es,ep,fq _ o (λq=>(hf _ (sub _ q)).2.1 rfl) ho,r⟩
   ·by_cases hb:b=s.heap.objs.size
    ·subst hb;rw[bC]at e;cases e
     exact⟨by show 2<=OR;rw[aS];decide,[xx,yy],.cons ru (.cons se .nil),_,ye,rfl,⟨_,rfl⟩,rfl⟩
    ·rw[aW hb]at e;refine(I.hok b u e).stay (λc v hc q=>fq c v ?_ q) (λc q=>by rw[aW (mj _ _ q)];exact q) λc xs q=>by rw[aW (mj _ _ q)];exact q
     rcases hc with q|q
     ·rw[q];exact iw b u e
     ·exact iw c _ q
  ·have ny:=(hf b hb).1;have:b≠s.heap.objs.size:=by
    simp only[KP,Pk,or_false]at hb;rcases hb with rfl|rfl|rfl|rfl|rfl
    ·exact(nt hz).symm
    ·exact(nt b9).symm
    ·exact(nt cm).symm
    ·exact(nt e1).symm
    ·exact(nt e2).symm
   rw[aW this];exact ny
 done:=by
  intro X hP hw hK hc i pins s σ H E I hf ⟨hz,b9,⟨a,b,cm⟩,h1,h2⟩ ⟨vs,us,hq,il,hd⟩;subst hP hw hK;obtain⟨its,rv,hl⟩:=I.sqB hq;obtain⟨iq,ax,hm⟩:=I.sqB il;have hlen:=rv.length;have wb:=ax.length;have F:∀b∈[z,TI,TO,i1,i2],l≠b/\m≠b:=λb hb=>⟨I.sqB_ne hq (hf b hb),I.sqB_ne il (hf b hb)⟩;have Z:=N.za (l:=l) (m:=m) (F z (by simp)).1 (F TO (by simp)).1 (F i2 (by simp)).1 (F z (by simp)).2 (F TO (by simp)).2 (F i1 (by simp)).2;have sub:∀b,b∈[z,TO,i1,i2]->b∈[z,TI,TO,i1,i2]:=λb hb=>by
   simp only[KP,Pk,or_false]at hb⊢;rcases hb with q|q|q|q <;> simp[q]
  have iw:∀b u,H b=some u->b∉[z,TO,i1,i2]:=λb u e q=>by
   have:=(hf b (sub b q)).1;rw[this]at e;cases e
  have fin:∀(h':Heap)(tk:Nat),(∀c o,c≠z->c≠TO->c≠i1->c≠i2->s.heap.get? c=some o->h'.get? c=some o)->Inv X pins σ H { s with heap:=h',toks:=tk }:=λh' tk kp=>by
   have fq:∀(b:Addr)(o:Obj),b∉[z,TO,i1,i2]->s.heap.get? b=some o->h'.get? b=some o:=λb o hb e=>
    kp b o (λq=>hb (by simp[q])) (λq=>hb (by simp[q])) (λq=>hb (by simp[q])) (λq=>hb (by simp[q])) e
   refine Inv.step (s:=s) (h':=h') (H:=H) (g':=s.gens) (d':=s.drawn) (t':=tk) (ch:=[z,TO,i1,i2]) I (λb hb=>?_) (λb o _ _ hc e _=>fq b o hc e) (λb o _ _ hc e _=>⟨o.slots,fq b o hc e⟩) (λb o hc e n=>n)
    (λb o hc e=>⟨o,fq b o hc e⟩) (λb xs e=>e) (λb o u e=>e) (λb ps e=>⟨#[],by rw[e];simp⟩) (λm hm=>?_) (λb u e=>?_) I.bare
   ·obtain⟨f0,f1,f2,f3,f4,f5⟩:=hf b (sub b hb);exact⟨f3,f1,f4,f5⟩
   ·obtain⟨o,es,ep,ho,r⟩:=hm;exact⟨o,es,ep,fq _ o (λq=>(hf _ (sub _ q)).2.1 rfl) ho,r⟩
   ·refine(I.hok b u e).stay (λc v hc q=>fq c v ?_ q) (λ_ q=>q) λ_ _ q=>q;rcases hc with q|q
    ·rw[q];exact iw b u e
    ·exact iw c _ q
  by_cases hi:i<its.length
  ·have hx:iq.length<=i:=by rcases hd with q|q <;> omega
   exact AG (I.ok.hd hc) (λA hA=>drB bl hA i1 l (F i1 (by simp)).1 its.toArray) (λA hA=>Nh bm hA i2 m iq.toArray i (by simp;omega)) Z hz b9 cm ⟨h1,hl⟩ ⟨rfl,h2,hm⟩ (.inr ⟨by simpa using hi,rfl⟩) λh' tk kp=>⟨rfl,fin h' tk kp⟩
  ·exact AG (I.ok.hd hc) (λA hA=>Nh bl hA i1 l its.toArray i (by simp;omega)) (λA hA=>drB bm hA i2 m (F i2 (by simp)).2 iq.toArray) Z hz b9 cm ⟨rfl,h1,hl⟩ ⟨h2,hm⟩ (.inl rfl) λh' tk kp=>⟨rfl,fin h' tk kp⟩
 self:=λ_ _ _ _ _ ⟨hz,_⟩ h=>wpAny_pyIter_zip hz h
theorem Nj(n:Nat):ZN (n+4) (n+2) (n+3) n (n+1):=
 have q:∀i j:Nat,i≠j->n+i≠n+j:=λi j h e=>h (Nat.add_left_cancel e)
 ⟨q 2 4 (by decide),q 3 4 (by decide),q 0 4 (by decide),q 1 4 (by decide),q 2 3 (by decide),q 2 0 (by decide),q 2 1 (by decide),q 3 0 (by decide),q 3 1 (by decide),q 0 1 (by decide)⟩
def iZq(X:Cx)(ta:TA):TI:=λσ H R=>ta σ H λvs H1=>∃b c l m xs ys,vs=[.ref l,.ref m]/\SqB b X.K H1 l xs/\SqB c X.K H1 m ys/\R (ItQ b c X.K l m) H1
theorem Nk{a:Expr}{ta:TA}{p:Pos}{tp:Pos}(hg:Gl X "zip")(hm:X.mg "zip" = none)(ha:PA X [a,b] ta)(hs:Pe [a,b] X.env=[(false,eval a X.env),(false,eval b X.env)]:=by rfl)(d6:Pe [b] X.env=[(false,eval b X.env)]:=by rfl):
  PI X (.Tuple elts x1 tp) (.Call (.Name "zip" p) [a,b] [] pos) (iZq X ta):=by
 intro pins s σ H R I h;refine Call_ (rV I hg hm boot_zip (RL (thn (ha pos pins s σ H _ I h) λus s1 hz=>?_) (by rw[hs,d6]) (by rw[d6];rfl)));obtain⟨vs,H1,I1,r1,q1⟩:=hz;obtain⟨b,c,l,m,xs,ys,e,hq,il,q⟩:=q1;subst e;cases r1 with
 |cons r rr=>
  cases rr with
  |cons r' rr=>
   cases rr
   cases r
   cases r'
   obtain⟨its,rv,pl⟩:=I1.sqB hq;obtain⟨iq,ay,pm⟩:=I1.sqB il;refine IG b c pl pm λh' a1 a2 a3 a4 a5 a6 kp=>?_;refine wpAny_pyIter_zip a1 ?_;refine⟨s1.heap.objs.size+4,[s1.heap.objs.size+4,s1.heap.objs.size+2,s1.heap.objs.size+3,s1.heap.objs.size,s1.heap.objs.size+1],_,_,H1,rfl,I1.kept (t':=s1.toks) kp,Ep b c l m _ _ _ _ _ (Nj _),⟨a1,a2,⟨_,_,a3⟩,a4,a5⟩,λb hb=>?_,q⟩;have hle:s1.heap.objs.size<=b:=by
    simp only[KP,Pk,or_false]at hb;rcases hb with e|e|e|e|e
    all_goals rw[e]
    all_goals first|exact OO _|exact Nat.le_add_right _ _
   exact I1.fpOk hle (I1.hok.fresh hle)
def AR(xs ys:List PV):List PV:=List.zipWith (λp q=>PV.tup [p,q]) xs ys
def sqP(h:PH):PV->Option (List PV)
 |.ref n=>aO h n
 |.tup xs=>some xs
 |_=>none
def bP:PV->Bool
 |.ref _=>true
 |_=>false
def sqG(p:PV)(xs:List PV)(h:PH):Bool:=match sqP h p with
 |some ys=>PV.beqs ys xs
 |none=>false
def zqI:List PV->PH->Rs Wk:=λps h=>match ps with
 |[p,q]=>match sqP h p,sqP h q with
  |some xs,some ys=>.ok ⟨AR xs ys,λh'=>sqG p xs h'&&sqG q ys h'⟩ h
  |_,_=>.bad
 |_=>.bad
def mZq(ms:Ma):Mi:=λδ h=>(ms δ h).bind zqI
theorem yS{v:V}(rh:RH C φ H h)(r:RV C φ H p v)(e:sqP h p=some xs):∃a vs,v=.ref a/\SqB (bP p) C.K H a vs/\RVs C φ H xs vs:=by
 cases p with
 |ref n=>
  obtain⟨a,rfl,ha⟩:=r;obtain⟨a2,us,aw,sa,ra⟩:=bZ rh e;rw[ha]at aw;cases aw;exact⟨a,us,rfl,sa,ra⟩
 |tup ys=>
  obtain⟨a,vs,rfl,sa,ra⟩:=r;cases e
  exact⟨a,vs,rfl,sa,ra⟩
 |_=>cases e
theorem Gj(e:sqG p xs h=true):sqP h p=some xs:=by
 unfold sqG at e;cases q:sqP h p with
 |none=>rw[q]at e;cases e
 |some ys=>rw[q]at e;rw[PV.beqs_eq e]
set_option tactic.hygienic true in
theorem Ox{k:Nat}{x y:Expr}{tp p:Pos}(ha:SA C k X [x,y] ms)(hb:("zip" : Str)∈C.bs:=by decide)(hg:Gl X "zip" := by rfl)(hs:Pe [x,y] X.env=[(false,eval x X.env),(false,eval y X.env)]:=by rfl)(d6:Pe [y] X.env=[(false,eval y X.env)]:=by rfl):
  SI C k X (.Tuple elts x1 tp) (.Call (.Name "zip" p) [x,y] [] pos) (mZq ms):=λc=>
 (Nk hg (c.bn _ hb) (ha c) hs d6).imp λσ H R h=>by
  obtain⟨φ,δ,h,rh,re,p⟩:=h;refine⟨φ,δ,h,rh,re,(postA.bindI p).imp ?_⟩;rintro vs H1 ⟨φ1,xs,h1,p1,t1,aa,af,q1⟩;unfold zqI at q1;split at q1
  ·rename_i pv qv;obtain⟨v,w,rfl,rx,ry⟩:=af.two;split at q1
   ·rename_i xs ys ex ey;obtain⟨a,us,rfl,sa,ra⟩:=yS aa rx ex;obtain⟨b,ws,rfl,sb,rb⟩:=yS aa ry ey;rw[<-c.K]at sa sb;refine⟨_,_,a,b,us,ws,rfl,sa,sb,q1 φ1 H1 (ItQ (bP pv) (bP qv) X.K a b) OT (Kp.refl H1) aa λφ2 H2 h2 p2 t2 aj hg i=>?_⟩;have hg:(sqG pv xs h2&&sqG qv ys h2)=true:=hg;rw[Pj]at hg;obtain⟨a2,k5,e1,su,ru⟩:=yS aj (rx.mono p2 t2) (Gj hg.1);cases e1
    obtain⟨b2,mx,e1,sw,ay⟩:=yS aj (ry.mono p2 t2) (Gj hg.2);cases e1
    rw[<-c.K]at su sw;have hl:=ru.length;have fj:=ay.length
    show(i<(AR xs ys).length->_)/\((AR xs ys).length<=i->_)
    rw[AR,List.length_zipWith];refine⟨λhi=>?_,λhi=>⟨k5,mx,su,sw,by omega⟩⟩;have jd:i<k5.length:=by omega
    have n8:i<mx.length:=by omega
    refine⟨⟨⟨k5,k5[i],su,by simp[jd]⟩,mx,mx[i],sw,by simp[n8]⟩,λy H' yl=>?_⟩;obtain⟨t,v,u,ht,hv,hu,rfl,rfl⟩:=yl;obtain⟨pp,ep,rp⟩:=ru.get (hv k5 su);obtain⟨qq,eq,rq⟩:=ay.get (hu mx sw);refine⟨⟨.tup [pp,qq],?_,?_⟩,Kp.new ht,aj.aside ht⟩
    ·show(AR xs ys)[i]?=_
     unfold AR;rw[List.getElem?_zipWith,ep,eq]
    ·exact⟨t,[v,u],rfl,.inl (.inl bC),rp.mono OT (Kp.new ht),rq.mono OT (Kp.new ht),trivial⟩
   ·exact q1.elim
  ·exact q1.elim
def GEg{β:Type}(P:Params)(R:β->Value->Prop):List (Str×β)->List DictEntry->Prop
 |[],[]=>True
 |kv::r,e::es=>e.hash=PyData.keyHash P kv.1/\(∃t,e.key=.str kv.1 t)/\R kv.2 e.val/\GEg P R r es
 |_,_=>False
def GDg{β:Type}(C:MC)(R:β->Value->Prop)(a:Addr)(kvs:List (Str×β)):Prop:=(a == QI)=false/\(kvs.map λkv=>(Qx kv.1:Key)).Nodup/\∃es ep,C.K.lookup a=some ⟨.type "dict",none,.dict es ep,#[]⟩/\GEg C.w.params R kvs es.toList
theorem GEg.imp{β:Type}{P:Params}{R R':β->Value->Prop}(i:∀b v,R b v->R' b v):∀{l:List (Str×β)}{es:List DictEntry},GEg P R l es->GEg P R' l es
 |[],[],_=>trivial
 |_::_,_::_,⟨a,b,c,d⟩=>⟨a,b,i _ _ c,GEg.imp i d⟩
 |[],_::_,h=>h.elim
 |_::_,[],h=>h.elim
def gLk{β:Type}:List (Str×β)->Str->Option β
 |[],_=>none
 |kv::r,z=>if kv.1=z then some kv.2 else gLk r z
theorem wW{β:Type}{R:β->Value->Prop}{P:Program}{w:World}:∀{kvs:List (Str×β)}{es:List DictEntry},GEg w.params R kvs es->∃vs:List (Key×Value),Pairs (aQ P w) es vs/\vs.map (·.1)=(kvs.map λkv=>(Qx kv.1:Key))/\(∀e∈es,∃k,(aQ P w).is k e.key=true/\e.hash=(aQ P w).hash k)/\
  ∀z:Str,match gLk kvs z with
   |some v=>∃x,valueAt vs (Qx z:Key)=some x/\R v x
   |none=>valueAt vs (Qx z:Key)=none
 |[],[],_=>⟨[],.nil,rfl,(λ_ h=>nomatch h),λz=>rfl⟩
 |kv::r,e::es,⟨h1,⟨t1,h2⟩,h3,h4⟩=>by
  obtain⟨vs,p,q,s,v⟩:=wW (P:=P) h4;have hi:(aQ P w).is (Qx kv.1:Key) e.key=true:=by rw[h2];exact qH P w _ _
  refine⟨((Qx kv.1:Key),e.val)::vs,.cons hi rfl p,by rw[Pa,Pa,q],λx hx=>?_,λz=>?_⟩
  ·rcases KP.mp hx with rfl|hx
   ·exact⟨_,hi,h1⟩
   ·exact s x hx
  ·have hv:=v z;unfold valueAt at hv⊢;unfold gLk;rw[QR]
   by_cases c:kv.1=z
   ·subst c;simp;exact h3
   ·have c2:¬ (Qx kv.1:Key)=Qx z:=λq=>c (Sum.inr.inj q);simp only[if_neg c,decide_eq_false c2];exact hv
 |[],_::_,h=>h.elim
 |_::_,[],h=>h.elim
variable{nn:Nat}{sl:Array (Option Value)}
section
variable{k:Nat}
theorem Gk{β:Type}{R:β->Value->Prop}{kvs:List (Str×β)}(c:Cxt C k X)(g:GDg C R a kvs):∃vs:List (Key×Value),
  (∀{pins σ H s},Inv X pins σ H s->s.heap.DictOf (aQ X.prog X.w) a vs/\∃ob,s.heap.get? a=some ob/\ob.dict=none)/\∀z:Str,match gLk kvs z with
   |some v=>∃x,valueAt vs (Qx z:Key)=some x/\R v x
   |none=>valueAt vs (Qx z:Key)=none:=by
 obtain⟨g1,g2,es,ep,g3,g4⟩:=g;rw[<-c.w]at g4;rw[<-c.K]at g3;obtain⟨vs,p1,p2,p3,p4⟩:=wW (P:=X.prog) g4;exact⟨vs,λI'=>⟨⟨_,es,ep,I'.bk _ _ (I'.mod.kin _ _ g3),⟨rfl,rfl,rfl⟩,rfl,λx hx=>p3 x (by simpa using hx),p1,by rw[p2];exact g2⟩,_,I'.bk _ _ (I'.mod.kin _ _ g3),rfl⟩,p4⟩
theorem gt_mk{its:Array Value}{ps:List PV}(l:K.lookup a=some ⟨.type "tuple",none,.seq its nn,sl⟩)(v:aI vs its.toList)(z:its.size<=OR)(f:tM ps=some vs):Gc K a ps:=⟨_,its,nn,vs,l,rfl,rfl,z,v,rfl,f⟩
def gtR(K:z9)(xs:List PV)(v:Value):Prop:=∃t,v=.ref t/\Gc K t xs
theorem gtR.rv{v:Value}(g:gtR C.K xs v):∃t,v=.ref t/\RV C φ H (.tup xs) (.ref t):=by
 obtain⟨t,rfl,o,its,n,vs,g1,g2,g3,g4,g5,g6,g7⟩:=g;exact⟨t,rfl,t,vs,rfl,.inr ⟨o,its,n,g1,g2,g3,g4,g5,g6⟩,tN g7⟩
def Gm(kvs:List (Str×List PV)):PV->PH->Rs PV:=λp h=>match p with
 |.str z=>.ok (match gLk kvs z with
  |some xs=>.tup xs
  |none=>.non) h
 |_=>.bad
def Gn(kvs:List (Str×List PV)):PV->PH->Rs PV:=λp h=>match p with
 |.str z=>match gLk kvs z with
  |some xs=>.ok (.tup xs) h
  |none=>.bad
 |_=>.bad
theorem IH{kvs:List (Str×List PV)}{p:Pos}(hm:X.mg x=some (.ref a))(g:GDg C (gtR C.K) a kvs)(he:SE C k X e m)(hg:Gl X x:=by rfl)(hd:(x == ("__debug__" : Str))=false:=by decide)(ah:R5 (.Name x p) "get" X.env (eval (.Name x p) X.env)=eval (.Name x p) X.env:=by rfl)(bq:((backTo ab (Pe [e] X.env)).all (λx=>!x.1)&&(backToKw ab (keywordEach [] X.env)).all (λx=>x.1.isSome)
   && decide (([e]:List Expr).length+([]:List Keyword).length+(if([]:List Keyword).isEmpty then 0 else 1)<30))=true:=by rfl)(ai:(apos.endLine == ab.line)=true:=by rfl)(hs:backTo ab (Pe [e] X.env)=[(false,eval e X.env)]:=by rfl):SE C k X (.Call (.Attribute (.Name x p) "get" apos) [e] [] ab) (mUn (Gm kvs) m):=λc pins s σ H Q I q=>by
 obtain⟨φ,δ,h,rh,re,po⟩:=q;obtain⟨vs,dd,p4⟩:=Gk c g;refine wpAny_Call_method ah bq ai RA P5 PySem.F.type_dict_get (thn (nP (v:=.ref a) hg hm rfl hd pins s σ H (λv H'=>v=.ref a/\H'=H) I ⟨rfl,rfl⟩) λu s1 hz=>?_);obtain⟨x,H1,I1,rx,ex,eH⟩:=hz;subst ex eH;obtain rfl:u=Py a:=rx;refine⟨(dd I1).1.typeIs,λb eb=>?_,?_⟩
 ·cases eb
  exact(dd I1).2
 rw[hs];refine Qm rfl (QW (Q8 (thn (he c pins s1 σ H1 _ I1 ⟨φ,δ,h,rh,re,post.bind po⟩) ?_)));rintro iv s2 ⟨y,H2,I2,ry,φ2,py,h2,p22,t2,aj,ax,q2⟩;refine R4 ?_;cases py with
 |str z=>
  obtain rfl:y=.str z:=ax;have q2:post C φ2 H2 (.ok (match gLk kvs z with
  |some xs=>.tup xs
  |none=>.non) h2) Q:=q2
  have si:RelV (kV (Qx z:Key)) iv:=ry;refine Ru P5 (dd I2).1.typeIs Qo (Ry _ _) (meets_dict_get (aQ X.prog X.w) a (kE si) g.1) ⟨_,(dd I2).1.mapOf,?_⟩;have hz:=p4 z;cases e1:gLk kvs z with
  |none=>
   rw[e1]at hz q2;rw[hz];exact⟨.non,H2,I2.tok _,rfl,q2.val aj rfl⟩
  |some v=>
   rw[e1]at hz q2;obtain⟨v',hz,gt⟩:=hz;obtain⟨t,rfl,rt⟩:=gt.rv (φ:=φ2) (H:=H2);rw[hz];exact⟨.ref t,H2,I2.tok _,rfl,q2.val aj rt⟩
 |_=>exact q2.elim
theorem Gp{β:Type}{R:β->Value->Prop}{kvs:List (Str×β)}{p:Pos}(c:Cxt C k X)(hm:X.mg x=some (.ref a))(g:GDg C R a kvs)(he:SE C k X e m)(hg:Gl X x)(hd:(x == ("__debug__" : Str))=false)(hs:Hz e){σ:St}(I:Inv X pins σ H s)(rh:RH C φ H h)(re:RE C φ H δ σ)(hq:post C φ H (m δ h) λy H2=>∃z,y=.str z/\∃v,gLk kvs z=some v/\∀u s2,R v u->Inv X pins σ H2 s2->Q u s2):wpAny (model X.prog X.w) X.A (eval (.Subscript (.Name x p) e pos) X.env) Q X.xe s:=by
 obtain⟨vs,dd,p4⟩:=Gk c g;refine HA Sg.lookup hs (thn (nP (v:=.ref a) hg hm rfl hd pins s σ H (λv H'=>v=.ref a/\H'=H) I ⟨rfl,rfl⟩) λu s1 hz=>?_);obtain⟨x,H1,I1,rx,ex,eH⟩:=hz;subst ex eH;obtain rfl:u=Py a:=rx;refine thn (he c pins s1 σ H1 _ I1 ⟨φ,δ,h,rh,re,hq⟩) ?_;rintro iv s2 ⟨y,H2,I2,ry,z,rfl,v,ev,q⟩;have si:RelV (kV (Qx z:Key)) iv:=ry;have hz:=p4 z;rw[ev]at hz;obtain⟨u,hz,gt⟩:=hz;exact⟨(dd I2).1.typeIs,wpAny_getItem_of (kE si) (dd I2).1.mapOf hz (q u _ gt (I2.tok _))⟩
theorem L'{kvs:List (Str×List PV)}{p:Pos}(hm:X.mg x=some (.ref a))(g:GDg C (gtR C.K) a kvs)(he:SE C k X e m)(hg:Gl X x:=by rfl)(hd:(x == ("__debug__" : Str))=false:=by decide)(hs:Hz e:=by intro _ _;rfl):SE C k X (.Subscript (.Name x p) e pos) (mUn (Gn kvs) m):=λc pins s σ H Q I q=>by
 obtain⟨φ,δ,h,rh,re,po⟩:=q;refine Gp c hm g he hg hd hs I rh re ((post.bind po).imp ?_);rintro y H2 ⟨φ2,py,h2,p22,t2,aj,ax,q2⟩;cases py with
 |str z=>
  refine⟨z,ax,?_⟩;have q2:post C φ2 H2 (match gLk kvs z with
  |some xs=>.ok (.tup xs) h2
  |none=>.bad) Q:=q2
  cases e1:gLk kvs z with
  |none=>rw[e1]at q2;exact q2.elim
  |some v=>
   rw[e1]at q2;refine⟨v,rfl,λu s2 gt I2=>?_⟩;obtain⟨t,rfl,rt⟩:=gt.rv (φ:=φ2) (H:=H2);exact⟨.ref t,H2,I2,rfl,q2.val aj rt⟩
 |_=>exact q2.elim
def gfR(mg:Str->Option Value)(x:Str)(v:Value):Prop:=mg x=some v
inductive uW(C:MC)(k:Nat)(X:Cx):List (Str×Str)->List (Str×Fn)->Prop
 |nil:uW C k X [] []
 |cons {key x:Str} {f:Fn} {t:List (Str×Str)} {fs:List (Str×Fn)} (h:∃st a fd ps j,j<=k/\Def C.K X.mg x st a fd ps/\iC X.prog X.w C.K X.mg X.base CX0 j a fd ps (spM C 1 f)) (r:uW C k X t fs):uW C k X ((key,x)::t) ((key,f)::fs)
theorem Jj{key:Str}{f:Fn}{t:List (Str×Str)}{fs:List (Str×Fn)}(h:Def C.K X.mg x st a fd ps/\iC X.prog X.w C.K X.mg X.base CX0 j a fd ps (spM C 1 f))(hj:j<=k)(r:uW C k X t fs):uW C k X ((key,x)::t) ((key,f)::fs):=.cons ⟨st,a,fd,ps,j,hj,h.1,h.2⟩ r
theorem Gq:uW C k X [] []:=.nil
set_option tactic.hygienic true in
theorem uW.at{z:Str}{f:Fn}:∀{t:List (Str×Str)}{fs:List (Str×Fn)},uW C k X t fs->gLk fs z=some f->∃x st a fd ps j,gLk t z=some x/\j<=k/\Def C.K X.mg x st a fd ps/\iC X.prog X.w C.K X.mg X.base CX0 j a fd ps (spM C 1 f)
 |_,_,.nil,e=>nomatch e
 |_,_,.cons (key:=key) (x:=x) h r,e=>by
  unfold gLk at e⊢;split at e
  ·rename_i q;cases e
   obtain⟨st,a,fd,ps,j,h⟩:=h;exact⟨x,st,a,fd,ps,j,if_pos q,h⟩
  ·rename_i q;obtain⟨y,st,a,fd,ps,j,h1,h⟩:=uW.at r e;exact⟨y,st,a,fd,ps,j,(if_neg q).trans h1,h⟩
def C9(fs:List (Str×Fn))(m1 m2:Me):Me:=λδ h=>(m1 δ h).bind λx h1=>match x with
 |.str z=>match gLk fs z with
  |some f=>(m2 δ h1).bind λy h2=>f [y] h2
  |none=>.bad
 |_=>.bad
theorem Jk{t:List (Str×Str)}{fs:List (Str×Fn)}{m2:Me}{p:Pos}(hm:X.mg x=some (.ref a))(g:GDg C (gfR X.mg) a t)(ds:uW C k X t fs)(he:SE C k X e m)(y':SE C k X e2 m2)(hg:Gl X x:=by rfl)(hd:(x == ("__debug__" : Str))=false:=by decide)(hs:Hz e:=by intro _ _;rfl)(h1:Pe [e2] X.env=(false,eval e2 X.env)::Pe [] X.env:=by rfl)(h2:(backTo ab (Pe [] X.env)).any (·.1)=false:=by rfl):SE C k X (.Call (.Subscript (.Name x p) e pos) [e2] [] ab) (C9 fs m m2):=λc pins s σ H Q I q=>by
 obtain⟨φ,δ,h,rh,re,po⟩:=q;refine Call_ (Gp c hm g he hg hd hs I rh re ((post.bind po).imp ?_));rintro y H2 ⟨φ2,py,hh2,p22,t2,aj,ax,q2⟩;cases py with
 |str z=>
  refine⟨z,ax,?_⟩;have q2:post C φ2 H2 (match gLk fs z with
  |some f=>(m2 δ hh2).bind λy h2=>f [y] h2
  |none=>.bad) Q:=q2
  cases e1:gLk fs z with
  |none=>rw[e1]at q2;exact q2.elim
  |some f=>
   rw[e1]at q2;obtain⟨y,st,b,fd,ps,j,e3,hj,D,G⟩:=ds.at e1;refine⟨y,e3,λu s2 gt I2=>?_⟩;have gt:X.mg y=some u:=gt;rw[D.mg]at gt;cases gt
   have K1:=c.K;have D':Def X.K X.mg y st b fd ps:=by rw[K1];exact D
   have G':iC X.prog X.w X.K X.mg X.base CX0 j b fd ps (spM C 1 f):=by rw[K1];exact G
   refine PySem.W.callWith_K (h₀:=X.base) I2.ok.mod.kin D'.fn.kp (args_cons (thn (y' c pins s2 σ H2 _ I2 ⟨φ2,δ,hh2,aj,re.mono p22 t2,post.bind q2⟩) ?_) h1) h1 h2;rintro v s3 ⟨w,H3,I3,rw3,φ3,pw,h3,p33,t3,c5,i7,q3⟩;refine args_nil ⟨I3.kIn,?_⟩;exact F2 (us:=[v]) (vs:=[w]) G' (c.room.mono hj) D'.bd .nil Ja I3 (.cons rw3 .nil) ⟨φ3,h3,[pw],c5,⟨i7,trivial⟩,rfl,q3⟩
 |_=>exact q2.elim
end
section
variable{k:Nat}{σ:St}{o:Expr}{p3:Pos}{j2 j3:Nat}{y:Str}
theorem Ca(ho:wpAny (model X.prog X.w) X.A (eval o X.env) (λu s1=>(∃t,u=.str x t)/\Inv X pins σ H s1) X.xe s)
  (ah:R5 o "startswith" X.env (eval o X.env)=eval o X.env)
  (bq:((backTo ab (Pe [.Constant (.str y) j2 p2] X.env)).all (λx=>!x.1)&&(backToKw ab (keywordEach [] X.env)).all (λx=>x.1.isSome)
   && decide (([.Constant (.str y) j2 p2]:List Expr).length+([]:List Keyword).length+(if([]:List Keyword).isEmpty then 0 else 1)<30))=true)
  (ai:(apos.endLine == ab.line)=true) (hs:backTo ab (Pe [.Constant (.str y) j2 p2] X.env)=[(false,eval (.Constant (.str y) j2 p2) X.env)]):
  wpAny (model X.prog X.w) X.A (eval (.Call (.Attribute o "startswith" apos) [.Constant (.str y) j2 p2] [] ab) X.env) (λu s1=>u=.bool (QP x y)/\Inv X pins σ H s1/\0<s1.toks) X.xe s:=by
 refine wpAny_Call_method ah bq ai Qa Q5 PySem.F.type_str_startswith (thn ho ?_);rintro u s1 ⟨⟨t,rfl⟩,I⟩;refine⟨P8 _ _ _,λa e=>(nomatch e),?_⟩;rw[hs];refine Qm rfl (QW (Q8 (RG (R4 ?_))));refine call_gives Q5 (P8 _ x t) PySem.F.entry_str_startswith (PySem.F.args_str_startswith_2 _ _) (gives_str_startswith x y t _) ?_;have e3:(decide (0+y.length<=x.length)&&Builtin.Str.subAt x y 0)=QP x y:=by simp only[QP,Nat.zero_add]
 rw[e3];exact⟨rfl,I.tok _,Nat.succ_pos _⟩
theorem qV(ho:wpAny (model X.prog X.w) X.A (eval o X.env) (λu s1=>(∃t,u=.str x t)/\Inv X pins σ H s1/\0<s1.toks) X.xe s)
  (yc:(y == z)=false) (hb:x.length+(x.length+1)*z.length<=16777216)
  (ah:R5 o "replace" X.env (eval o X.env)=eval o X.env)
  (bq:((backTo ab (Pe [.Constant (.str y) j2 p2,.Constant (.str z) j3 p3] X.env)).all (λx=>!x.1)&&(backToKw ab (keywordEach [] X.env)).all (λx=>x.1.isSome)
   && decide (([.Constant (.str y) j2 p2,.Constant (.str z) j3 p3]:List Expr).length+([]:List Keyword).length+(if([]:List Keyword).isEmpty then 0 else 1)<30))=true)
  (ai:(apos.endLine == ab.line)=true) (hs:backTo ab (Pe [.Constant (.str y) j2 p2,.Constant (.str z) j3 p3] X.env)=[(false,eval (.Constant (.str y) j2 p2) X.env),(false,eval (.Constant (.str z) j3 p3) X.env)]):
  wpAny (model X.prog X.w) X.A (eval (.Call (.Attribute o "replace" apos) [.Constant (.str y) j2 p2,.Constant (.str z) j3 p3] [] ab) X.env) (λu s1=>(∃t,u=.str (Sq x y z) t)/\Inv X pins σ H s1/\0<s1.toks) X.xe s:=by
 refine wpAny_Call_method ah bq ai Qa PySem.F.slot_str_replace PySem.F.type_str_replace (thn ho ?_);rintro u s1 ⟨⟨t,rfl⟩,I,ht⟩;refine⟨P8 _ _ _,λa e=>(nomatch e),?_⟩;rw[hs];refine Qm rfl (QW (Q8 (RG (Q8 (RG (R4 ?_))))));have hl:Builtin.Str.tooLong (x.length+(Pi x y 0 x.length (x.length+1)).length*z.length)=false:=by
  have h1:=StrLaws.occ_length_le x y 0 x.length (x.length+1);have h2:(Pi x y 0 x.length (x.length+1)).length*z.length<=(x.length+1)*z.length:=Nat.mul_le_mul_right _ h1;unfold Builtin.Str.tooLong OR;exact decide_eq_false (by omega)
 refine call_gives PySem.F.slot_str_replace (P8 _ _ _) PySem.F.entry_str_replace (PySem.F.args_str_replace_3 _ _ _)
  (gives_str_replace x y z t s1.toks (s1.toks+1) λ_=>⟨by simp[QY ht],by simp,yc,hl⟩) ?_
 have e:Sq x y z=if((Pi x y 0 x.length (x.length+1)).isEmpty || (y.length == 0&&z.length == 0))=true then x else Builtin.Str.glued z (Sv x (Pi x y 0 x.length (x.length+1)) y.length):=rfl;rw[e];cases hc:((Pi x y 0 x.length (x.length+1)).isEmpty || (y.length == 0&&z.length == 0))
 ·simp only[Qb,if_false];exact⟨fits_replaced y hb,⟨_,rfl⟩,I.tok _,Nat.succ_pos _⟩
 ·simp only[if_true];exact⟨⟨_,rfl⟩,I.tok _,Nat.succ_pos _⟩
theorem Gr{v:V}(I:Inv X pins σ H s)(sj:σ[i]?=some (some v))(hN:X.N[i]?=some x)(hv:Vis X.env.scope x)(hd:(x == ("__debug__" : Str))=false)(cj:(x == ("__classdict__" : Str))=false):wpAny (model X.prog X.w) X.A (eval (.Name x pos) X.env) (λu s'=>RelV v u/\s'=s) X.xe s:=by
 obtain⟨m,hn,hl⟩:=I.loc;obtain⟨u,r,l⟩:=hl i x v hN sj hv;have fin:RelV v u/\s=s:=⟨r,rfl⟩;rcases l with⟨hk,hm⟩|⟨hk,c,hc,bo⟩
 ·exact wpAny_Name (wpAny_loadName_local I.ok.kind hk hn hm fin) hd
 ·rcases hk with hk|hk
  ·exact wpAny_Name (wpAny_loadName_cell I.ok.kind hk hc bo fin) hd
  ·exact wpAny_Name (wpAny_loadName_free I.ok.kind hk hc bo fin cj) hd
def AS(pf y1 z1 y2 z2 sp:Str):PV->PH->Rs PV:=λp h=>match p with
 |.str x=>if QP x pf=true/\x.length+(x.length+1)*z1.length<=16777216/\(Sq x y1 z1).length+((Sq x y1 z1).length+1)*z2.length<=16777216 then eG (.str (Sq (Sq x y1 z1) y2 z2)) [.str sp] h else .bad
 |_=>.bad
def II(i j:Nat)(pf y1 z1 y2 z2 sp:Str):Ms:=bI j (mUn (AS pf y1 z1 y2 z2 sp) (mV i))
theorem La{tx pt:Str}{pf y1 z1 y2 z2 sp:Str}{q0 q1 q2 q3 q4 q5 q6 q7 q8 q9 qa qb qc qd qe qf qg qh qi qj:Pos}{n0 n3 n4 n5:Nat}{rest:List Stmt}{b:Ms}(hN:X.N.Nodup)(hr:SSs C k X rest b)(yg:(y1 == z1)=false:=by decide)(y6:(y2 == z2)=false:=by decide)(hi:X.N[i]?=some tx:=by rfl)(hv:Vis X.env.scope tx:=by first|exact Or.inl rfl|exact Or.inr (Or.inl rfl)|exact Or.inr (Or.inr rfl))(hd:(tx == ("__debug__" : Str))=false:=by decide)(cj:(tx == ("__classdict__" : Str))=false:=by decide)(hj:X.N[j]?=some pt:=by rfl)(hx:Loc X.env.scope pt:=by first|exact Or.inl rfl|exact Or.inr rfl)(hf:X.fn pt=true\/X.env.scope.names.lookup pt=some .local:=by first|exact .inl rfl|exact .inr rfl)(l1:(q1.endLine == q3.line)=true:=by rfl)(l2:(q8.endLine == qb.line)=true:=by rfl)(l3:(qc.endLine == qf.line)=true:=by rfl)(l4:(qg.endLine == qi.line)=true:=by rfl):
  SSs C k X (.If (.UnaryOp .Not (.Call (.Attribute (.Name tx q0) "startswith" q1) [.Constant (.str pf) n0 q2] [] q3) q4) as [] q5::.Assign [.Name pt q6] (.Call (.Attribute (.Call (.Attribute (.Call (.Attribute (.Name tx q7) "replace" q8) [.Constant (.str y1) n1 q9,.Constant (.str z1) n2 qa] [] qb) "replace" qc) [.Constant (.str y2) n3 qd,.Constant (.str z2) n4 qe] [] qf) "split" qg) [.Constant (.str sp) n5 qh] [] qi) qj::rest) (aG (II i j pf y1 z1 y2 z2 sp) b):=λc pins s σ H D I w=>by
 obtain⟨φ,δ,h,rh,re,p⟩:=w;have p:=post.fl (FK p);cases e:sP δ i with
 |none=>
  have:(mUn (AS pf y1 z1 y2 z2 sp) (mV i)) δ h=.bad:=by show(mV i δ h).bind _=_;unfold mV;rw[e];rfl
  rw[this]at p;exact p.elim
 |some v=>
  have e2:(mUn (AS pf y1 z1 y2 z2 sp) (mV i)) δ h=AS pf y1 z1 y2 z2 sp v h:=by show(mV i δ h).bind _=_;unfold mV;rw[e];rfl
  rw[e2]at p;cases v with
  |str x=>
   unfold AS at p;obtain⟨⟨k1,k2,k3⟩,p⟩:=p.ite;obtain⟨v,sj,rv⟩:=re.2 i _ (oG e);have rv:v=.str x:=rv;subst rv;have nm:∀{q:Pos}{s:Shared},Inv X pins σ H s->wpAny (model X.prog X.w) X.A (eval (.Name tx q) X.env) (λu s1=>(∃t,u=.str x t)/\s1=s) X.xe s:=λI=>thn (Gr I sj hi hv hd cj) λu s1 ⟨⟨t,r⟩,e⟩=>⟨⟨t,r⟩,e⟩;have yf:=λ{q:Pos}=>thn (nm (q:=q) I) (Q':=λu s1=>(∃t,u=.str x t)/\Inv X pins σ H s1) λu s1 ⟨a,e⟩=>⟨a,e▸I⟩;refine wpAny_execs_cons (wpAny_If (isTrue_not (isTrue_plain (thn (Ca yf rfl rfl l1 rfl) ?_) rfl)));rintro u s1 ⟨rfl,I1,t1⟩;rw[k1];refine QJ (wpAny_execs_nil ?_);have xj:=λ{q:Pos}=>thn (nm (q:=q) I1) (Q':=λu s2=>(∃t,u=.str x t)/\Inv X pins σ H s2/\0<s2.toks) λu s1 ⟨a,e⟩=>⟨a,e▸I1,e▸t1⟩;refine wpAny_execs_cons (wpAny_Assign_Name (wpAny_Call_method rfl rfl l4 Qa PY PySem.F.type_str_split (thn (qV (qV xj yg k2 rfl rfl l2 rfl) y6 k3 rfl rfl l3 rfl) ?_)) rfl);rintro u s2 ⟨⟨t,rfl⟩,I2,t2⟩;refine⟨P8 _ _ _,λa e=>(nomatch e),?_⟩;have hs:backTo qi (Pe [.Constant (.str sp) n5 qh] X.env)=[(false,eval (.Constant (.str sp) n5 qh) X.env)]:=rfl;rw[hs];refine Qm rfl (QW (Q8 (RG (R4 ?_))));refine thn (AH c pins _ σ H (.str _) [.str sp] _ _ _ (I2.tok _) ⟨_,rfl⟩ (.cons ⟨_,rfl⟩ .nil) ⟨φ,h,.str _,[.str sp],rh,rfl,⟨rfl,trivial⟩,p⟩) ?_;rintro u s3 ⟨y,H3,I3,r3,φ3,py,h3,p3,t3,c5,i7,q3⟩;refine kA I3 hN hj hx r3 (λs4 I4=>?_) hf;have q4:=q3 φ3 _ H3 OT (Kp.refl _) c5 ((re.mono p3 t3).set i7 j);exact hr c pins s4 _ H3 D I4 q4
  |_=>exact p.elim
end
mutual
def pdP:PV->Option PyData
 |.non=>some .none
 |.bl b=>some (.bool b)
 |.int i=>some (.int i)
 |.str x=>some (.str x)
 |.tup ps=>match tR ps with
  |some ds=>some (.tuple ds)
  |none=>none
 |_=>none
def tR:List PV->Option (List PyData)
 |[]=>some []
 |p::ps=>match pdP p,tR ps with
  |some d,some ds=>some (d::ds)
  |_,_=>none
end
set_option tactic.hygienic true
mutual
theorem Gs:∀{p:PV}{d:PyData},pdP p=some d->d.hasDict=false
 |.non,_,e=>by cases e;rfl
 |.bl _,_,e=>by cases e;rfl
 |.int _,_,e=>by cases e;rfl
 |.str _,_,e=>by cases e;rfl
 |.tup ps,d,e=>by
  unfold pdP at e;split at e
  ·rename_i ds h;cases e
   exact Dj h
  ·cases e
 |.ref _,_,e=>by cases e
 |.ty _,_,e=>by cases e
 |.fl _,_,e=>by cases e
theorem Dj:∀{ps:List PV}{ds:List PyData},tR ps=some ds->PyData.hasDictAll ds=false
 |[],_,e=>by cases e;rfl
 |p::ps,_,e=>by
  unfold tR at e;split at e
  ·rename_i d ds h1 h2;cases e
   show(PyData.hasDict d || PyData.hasDictAll ds)=false
   rw[Gs h1,Dj h2];rfl
  ·cases e
end
set_option tactic.hygienic false
section
variable{k:Nat}{σ:St}
set_option tactic.hygienic true
mutual
theorem AU(I:Inv X pins σ H s)(K1:X.K=C.K):∀{p:PV}{d:PyData}{v:V}{u:Value},pdP p=some d->RV C φ H p v->RelV v u->∃as,Reads s.heap u d as
 |.non,_,_,_,e,r,q=>by
  cases e;cases(show _=V.non from r);cases(show _=PC from q);exact⟨_,.none⟩
 |.bl b,_,_,_,e,r,q=>by
  cases e;cases(show _=V.bl b from r);cases(show _=Value.bool b from q);exact⟨_,.bool b⟩
 |.int i,_,_,_,e,r,q=>by
  cases e;cases(show _=V.int i from r);obtain⟨t,rfl⟩:=q;exact⟨_,.int i t⟩
 |.str i,_,_,_,e,r,q=>by
  cases e;cases(show _=V.str i from r);obtain⟨t,rfl⟩:=q;exact⟨_,.str i t⟩
 |.tup ps,d,v,u,e,r,q=>by
  unfold pdP at e;split at e
  ·rename_i ds h;cases e
   obtain⟨a,vs,rfl,sq,rs⟩:=r;cases(show u=Py a from q)
   rw[<-K1]at sq;obtain⟨its,rv,⟨o,h1,h2,n,h3⟩,hz⟩:=I.tuple sq;obtain⟨as,ra⟩:=wX I K1 h rs rv;exact⟨as,.tuple h1 h2 h3 (by simpa using ra)⟩
  ·cases e
 |.ref _,_,_,_,e,_,_=>by cases e
 |.ty _,_,_,_,e,_,_=>by cases e
 |.fl _,_,_,_,e,_,_=>by cases e
theorem wX(I:Inv X pins σ H s)(K1:X.K=C.K):∀{ps:List PV}{ds:List PyData}{vs:List V}{us:List Value},tR ps=some ds->RVs C φ H ps vs->aI vs us->∃as,ReadsAll s.heap us ds as
 |[],_,[],_,e,_,.nil=>by cases e;exact⟨_,.nil⟩
 |p::ps,_,v::vs,_,e,⟨r,rs⟩,.cons q qs=>by
  unfold tR at e;split at e
  ·rename_i d ds h1 h2;cases e
   obtain⟨a,ra⟩:=AU I K1 h1 r q;obtain⟨b,rb⟩:=wX I K1 h2 rs qs;exact⟨_,.cons ra rb⟩
  ·cases e
 |[],_,_::_,_,_,h,_=>h.elim
 |_::_,_,[],_,_,h,_=>h.elim
end
set_option tactic.hygienic false
def mJ:List PV->PH->Rs PV:=λxs h=>match xs with
 |[.tup ps]=>match tR ps with
  |some ds=>if(RZ ds).showable=true/\(RZ ds).depth<=60/\(RZ ds).shown.length<=OR then .ok (.str (RZ ds).shown) h else .bad
  |none=>.bad
 |_=>.bad
set_option tactic.hygienic true in
theorem Lb:jU C k X (.builtin "repr") mJ:=λc pins s σ H xs us Q I r h=>by
 obtain⟨φ,h,ps,rh,rv,po⟩:=h;unfold mJ at po;split at po
 ·rename_i ps;split at po
  ·rename_i ds hd;obtain⟨⟨h1,h2,h3⟩,po⟩:=po.ite;obtain⟨v,rfl,rx⟩:=rv.one;obtain⟨u,rfl,ru⟩:=vals1 r;have e:pdP (.tup ps)=some (.tuple ds):=by unfold pdP;rw[hd]
   obtain⟨as,ra⟩:=AU I c.K e rx ru;obtain⟨a,vs,rfl,sq,rs⟩:=rx;cases(show u=Py a from ru)
   have hu:=c.hu64;exact repr_of_reads' ra h1 (PyData.noDict_hsm (Gs e)) c.room.gd (by omega) (λ_ _ q=>q) (λh' u tk hk=>⟨.str _,H,I.kept hk,⟨_,rfl⟩,po.val rh rfl⟩) h3
  ·exact po.elim
 ·exact po.elim
@[simp]theorem Gu{ps:List PV}{ds:List PyData}(hd:tR ps=some ds)(h1:(RZ ds).showable=true)(h2:(RZ ds).depth<=60)(h3:(RZ ds).shown.length<=OR):mJ [.tup ps] h=.ok (.str (RZ ds).shown) h:=by
 unfold mJ;simp only[hd];rw[if_pos ⟨h1,h2,h3⟩]
end
open PySem PySem.Spec PyProof.Rows
def tS:PV->List PV->PH->Rs PV:=λx ps h=>match x,ps with
 |.ref n,[y]=>match oH y with
  |some key=>match h[n]? with
   |some (.dK kvs)=>match cA kvs key with
    |some p=>.ok p (h.set n (.dK (AA kvs key)))
    |none=>.bad
   |_=>.bad
  |none=>.bad
 |_,_=>.bad
set_option tactic.hygienic true in
theorem IJ{k:Nat}(c:Cxt C k X):MtR X "dict.pop" (rM C tS):=λpins s σ H x xs v us Q I rx rs h=>by
 obtain⟨φ,h,p,ps,rh,rp,c0,po⟩:=h;unfold tS at po;split at po
 ·rename_i n y;obtain⟨a,rfl,ha⟩:=rp;cases rx
  obtain⟨yv,rfl,ry⟩:=c0.one;obtain⟨yu,rfl,bw⟩:=vals1 rs;split at po
  ·rename_i key c6;split at po
   ·rename_i kvs hk;obtain⟨ks,hH,rk⟩:=rh.at' n a _ ha hk;have ey:=sW ry c6;subst ey;have lv:=pO rk key;cases e2:cA kvs key with
    |none=>rw[e2]at po;exact po.elim
    |some p1=>
     cases e1:iD ks key with
     |none=>rw[e1,e2]at lv;exact lv.elim
     |some v1=>
      rw[e1,e2]at lv;rw[e2]at po;have kp:Kp H (upd H a (.dK (rZ ks key))):=Kp.dK hH;exact M0 I hH bw e1 (.inl rfl) λw' s' I' ay=>⟨v1,_,I',ay,po φ v1 _ OT kp (rh.write ha (by rw[hH];exact QK) ⟨_,bC,(Ei rk key).mono OT kp⟩) (lv.mono OT kp)⟩
   ·exact po.elim
  ·exact po.elim
 ·exact po.elim
theorem Lc{k:Nat}:MtG C k X "dict" eB "dict.pop" tS:=λc=>⟨IJ c,tI c⟩
def Er(i j:Nat)(ms:Ma):Ms:=λδ h=>match ms δ h with
 |.ok [x,y] h1=>.nx ((δ.set i (some x)).set j (some y)) h1
 |.ok _ _=>.bad
 |.exc x h1=>.exc x h1
 |.bad=>.bad
variable{px py:Pos}
theorem Nl{k:Nat}{y:Str}{a:Expr}{pt jh:Pos}{kt k2:Nat}(hN:X.N.Nodup)(ha:SA C k X [a,b] ms)(hi:X.N[i]?=some x:=by rfl)(hj:X.N[j]?=some y:=by rfl)(az:i≠j:=by decide)(hx:X.env.scope.names.lookup x=some .local:=by rfl)(hy:X.env.scope.names.lookup y=some .local:=by rfl)(hw:swappedStores [.Tuple [.Name x px,.Name y py] kt pt] (.Tuple [a,b] k2 jh) X.env=pure (some [x,y]):=by rfl)(hs:swapsWithSole [.Tuple [.Name x px,.Name y py] kt pt] (.Tuple [a,b] k2 jh) pos.line X.env=pure false:=by rfl):
  SSt C k X (.Assign [.Tuple [.Name x px,.Name y py] kt pt] (.Tuple [a,b] k2 jh) pos) (Er i j ms):=λc=>(JG c.calm hN hi hj az hx hy (ha c) hw hs).imp λD σ H h=>by
 obtain⟨φ,δ,h,rh,re,p⟩:=h;refine⟨φ,δ,h,rh,re,?_⟩;unfold Er at p;cases e:ms δ h with
 |bad=>rw[e]at p;exact p
 |exc z h1=>rw[e]at p;exact p
 |ok ps h1=>
  rw[e]at p
  match ps,p with
  |[v,w],p=>
   refine λφ1 vs H1 p1 t1 aa af=>?_;obtain⟨v',w',rfl,r1,r2⟩:=af.two;exact⟨v',w',rfl,p φ1 _ H1 p1 t1 aa (((re.mono p1 t1).set r1 i).set r2 j)⟩
  |[],p=>exact p.elim
  |[_],p=>exact p.elim
  |_::_::_::_,p=>exact p.elim
def CV:PV->Value->Prop
 |.int i,u=>∃t,u=.int i t
 |.str x,u=>∃t,u=.str x t
 |_,_=>False
theorem jC{k:Nat}(hm:∃u,X.mg x=some u/\CV p u)(hg:Gl X x:=by rfl)(hd:(x == ("__debug__" : Str))=false:=by decide):SE C k X (.Name x pos) (mC p):=λc=>by
 obtain⟨u,hm,r⟩:=hm;cases p with
 |int i=>exact(nP (v:=.int i) hg hm r hd).imp λσ H Q ⟨φ,δ,h,rh,re,p⟩=>p.val rh rfl
 |str i=>exact(nP (v:=.str i) hg hm r hd).imp λσ H Q ⟨φ,δ,h,rh,re,p⟩=>p.val rh rfl
 |_=>exact r.elim
open PySem PySem.Spec PyProof.Rows PySem.W
theorem tT{x:Int}:∀{ns:List Int},x∈ns->OY x<=WData.weightAll (ns.map WData.int)
 |y::r,h=>by
  rw[Pa];unfold WData.weightAll;rcases KP.mp h with rfl|h
  ·have:WData.weight (.int x)=OY x:=by unfold WData.weight OY;rfl
   omega
  ·have:=tT h;omega
theorem IK(h:WData.layableAll [WData.list (ns.map WData.int)]=true):∀x∈ns,OY x<=1048576:=λx hx=>by
 unfold WData.layableAll WData.layable at h;simp only[Ra,List.all_nil,Bool.and_true,Pj,decide_eq_true_eq]at h;have h1:=h.2;have h2:=tT hx;have:WData.weight (.list (ns.map WData.int))=WData.weightAll (ns.map WData.int):=by conv=>lhs;unfold WData.weight
 rw[this]at h1;exact PD h2 (PD h1 (by decide))
variable{XP:(Str->Option Value)->Heap->Prop}{YP:World->Heap->Prop}{loose:List Str}
theorem yT{l:OpenLaw}{q:Program}{d:DefRec}(hn:l.most=some n)(mw:d.params.defaults=[])(call:∀(w:World)(s₀ s₁:Shared)(mg mb:Str->Option Value)(fa:Addr)(o:Obj)(pm cd doc:Value)(a:Addr)(vs:List Value)(ns:List Int),
   Ground q loose [] XP w s₀ mg mb s₁.heap->YP w s₁.heap->
   s₁.heap.get? fa=some o->o.data=.func (Calls.docDef d.name d.params d.body d.scope pm cd doc)->s₁.heap.CodeRec cd d.name->mg d.name=some (.ref fa)->
   s₁.heap.get? a=some { cls:=.type "list",data:=.seq vs.toArray }->IntsAre vs ns->ns.length<=n->(∀x∈ns,OY x<=1048576)->s₁.gens=#[]->
   codeAny (model l.prog w) callerA (.call (.ref fa) ⟨[.ref a],[]⟩) (λr s'=>r=.ok (.ret (.bool true))/\OldK s₁.heap s'.heap/\s'.os=s₁.os/\AllBare s'.gens) s₁):
  WalkO q loose XP YP l.row.toRowW d [] (λf vs=>PySem.call f vs):=by
 intro w s₀ s₁ mg mb G Y fa o pm cd doc dV kV ho hd cj hD hmg hg args vals as gw hlay hrd ui hlo;obtain rfl:dV=.none:=Dflts.none hD mw;obtain rfl:kV=.none:=Dflts.noKw hD;obtain⟨a,vs,ns,rfl,rfl,jf,hints,hlen⟩:=Att.script_of hn gw ui;refine enter_call (codeAny_mono (call w s₀ s₁ mg mb fa o pm cd doc a vs ns G Y ho (fd_plain hd) cj hmg jf hints hlen (IK hlay) hg) λr s' hq=>?_);obtain⟨rfl,h2,h3,h4⟩:=hq;exact⟨.inl ⟨.bool true,.bool true,[],rfl,λ_=>rfl,.bool true,Att.post_true l _,λ_=>⟨R7,λ_ hm=>(nomatch hm)⟩⟩,h2,h3,h4⟩
theorem walk_ofB{l:PySem.W.OpenLaw}{k:Nat}{q:Program}{d:DefRec}{K:Params->z9}{CX:World->CXT}{sp:World->Sp}(hn:l.most=some n)(yp:n<=OR)(mw:d.params.defaults=[])(hr:iB k callerA)(hY:∀(w:World)(h:Heap),YP w h->(K w.params).In h)(F:∀(w:World)(mg:Str->Option Value)(fa:Addr)(h:Heap),(K w.params).In h->h.Ns Pq mg->mg d.name=some (.ref fa)->
   ∃fd:Q9,(∀(s:Shared)(u:Value),BindsTo s fd ⟨[u],[]⟩ [(x,u)])/\
    ∀base:Heap,(K w.params).In base->base.Ns Pq mg->iC l.prog w (K w.params) mg base (CX w) k fa fd [x] (sp w))(iy:∀(w:World)(H:Hp)(a:Addr)(ns:List Int),ns.length<=n->(∀x∈ns,OY x<=1048576)->F6 H->SqL (K w.params) H a (ns.map V.int)->sp w [.ref a] H (λv _=>v=.bl true) λ_ _ _=>False)(qu:∀(w:World)(H:Hp)(s:Shared)(e:Value)(s':Shared),CX w [] H s (λ_ _ _=>False) e s'->False):
  PySem.W.WalkO q loose XP YP l.row.toRowW d [] (λf vs=>PySem.call f vs):=by
 refine yT hn mw λw s₀ s₁ mg mb fa o pm cd doc a vs ns G Y ho hd cj hmg jf hints hlen lx hg=>?_;have KX:=hY w _ Y;obtain⟨fd,hb,hF⟩:=F w mg fa _ KX G.T.g hmg;exact F7 KX G.T.g G.T.b G.T.builtins G.T.nolimit hg jf hints (PD hlen yp) hr hF hb (λH hO hS=>iy w H a ns hlen lx hO hS) λH e s'=>qu w H s₁ e s'
def Gw(i j:Int):Prop:=OY i<=2097152/\OY j<=1000
noncomputable instance(i j:Int):Decidable (Gw i j):=Qg _
theorem IL:OpR X (Qe .Mult) (rI Gw λi j=>.int (i*j)):=opI λ_ _ _ _ _ _ _ hc q=>mul_int q (IntMulOk.of_le hc.1 hc.2 (by decide))
noncomputable abbrev AV:=vInt Gw λi j=>i*j
theorem Ld{k:Nat}:OpS C k X (Qe .Mult) AV:=Aq (nY IL)
theorem Gx{i j:Int}(h1:OY i<=2097152)(h2:OY j<=1000):AV (.int i) (.int j) h=.ok (.int (i*j)) h:=if_pos ⟨h1,h2⟩
end L2
namespace K91
open PySem L2
noncomputable section
def yU:Ms:=
 (aG (bI 2 (aB bT (aB fU (aB aE (aB aE (mV 0) (aB fU (mC (.int 7919)) (mV 1))) (mC (.int 1))) (mC (.int 48271))) (mC (.int 2147483647))))
 (aL (aB bT (aB fU (mV 2) (aB aE (aB Kr (mV 2) (mC (.int 1009))) (mC (.int 69621)))) (mC (.int 2147483647)))))
def aJ:Fn:=mFn 3 yU
def tU:Ms:=
 (bI 2 (aB aE (mV 2) (aB vAt (mC (.str "abcdefghijklmnopqrstuvwxyz")) (aB bT (aD 2 aJ (aA (mV 0) (aA (aB aE (aB aE (mV 1) (mC (.int 1))) (mV 3)) aC))) (mC (.int 26))))))
def Cb:Ms:=
 (aG (bI 2 (mC (.str "")))
 (aG (mX (iI (aA (aB aE (mC (.int 1)) (aB bT (aD 2 aJ (aA (mV 0) (aA (mV 1) aC))) (mC (.int 8)))) aC)) (gN 3) tU)
 (aL (mV 2))))
def jD:Fn:=mFn 4 Cb
def tV:Ms:=
 (aG (bE (aP (aB vEq (aB bT (aD 2 aJ (aA (mV 0) (aA (mV 1) aC))) (mC (.int 2))) (mC (.int 0))))
  (aL (aB aE (mC (.int 1)) (aB bT (aD 2 aJ (aA (mV 0) (aA (aB aE (mV 1) (mC (.int 1))) aC))) (mC (.int 9)))))
  bF)
 (aG (bE (aP (aB vEq (aB bT (aD 2 aJ (aA (mV 0) (aA (mV 1) aC))) (mC (.int 8))) (mC (.int 1))))
  (aL (aB aE (mC (.int 1)) (aB bT (aB AV (aB aE (aB aE (mV 0) (mV 1)) (mC (.int 1))) (aB sR (mC (.int 7)) (mC (.int 46)))) (aB iX (aB sR (mC (.int 10)) (mC (.int 40))) (mC (.int 1))))))
  bF)
 (aL (aB aE (mC (.int 1)) (aB bT (aB fU (aD 2 aJ (aA (mV 0) (aA (aB aE (mV 1) (mC (.int 1))) aC))) (aB aE (mC (.int 1)) (aB bT (mV 0) (mC (.int 400))))) (aB iX (aB sR (mC (.int 10)) (mC (.int 12))) (mC (.int 1))))))))
def dB:Fn:=mFn 2 tV
def yV:Ms:=
 (aG (bE (aP (aB vEq (aB bT (aD 2 aJ (aA (mV 0) (aA (mV 1) aC))) (mC (.int 5))) (mC (.int 0))))
  (aL (cD (aA (mC (.str "")) (aA (mC (.int 0)) aC))))
  bF)
 (aL (cD (aA (aD 2 jD (aA (mV 0) (aA (aB aE (mV 1) (mC (.int 1))) aC))) (aA (aD 2 dB (aA (mV 0) (aA (aB aE (mV 1) (mC (.int 10))) aC))) aC)))))
def rP:Fn:=mFn 2 yV
def pW:Ms:=
 (aG (bI 6 (mC (.int 1)))
  (aG (bE (qP (aP (aB vGt (mV 5) (mC (.int 0)))) (aP (aB vEq (aB bT (aD 2 aJ (aA (mV 0) (aA (aB aE (aB aE (mV 1) (mC (.int 20))) (mV 5)) aC))) (mC (.int 2))) (mC (.int 1)))))
   (bI 6 (mUn Ar (mC (.int 1))))
   bF)
  (aG (bE (aP (aB vEq (aB bT (aD 2 aJ (aA (mV 0) (aA (aB aE (aB aE (mV 1) (mC (.int 5))) (mV 5)) aC))) (mC (.int 3))) (mC (.int 0))))
   (bI 4 (aD 2 jD (aA (mV 0) (aA (aB aE (aB aE (mV 1) (mC (.int 30))) (mV 5)) aC))))
   bF)
  (mW (mMt isL (onL fD) (mV 2) (aA (cD (aA (mV 6) (aA (mV 4) (aA (aD 2 dB (aA (mV 0) (aA (aB aE (aB aE (mV 1) (mC (.int 40))) (mV 5)) aC))) (aA (aB bT (aD 2 aJ (aA (mV 0) (aA (aB aE (mV 1) (aB fU (mC (.int 7)) (mV 5))) aC))) (mC (.int 12))) aC))))) aC))))))
def yW:Ms:=
 (aG (bI 2 (pP aC))
 (aG (bI 3 (aB aE (aB aE (mC (.int 1)) (aB bT (aD 2 aJ (aA (mV 0) (aA (mV 1) aC))) (mC (.int 5)))) (aB fU (mC (.int 59)) (mCB tK (aA (aB vEq (aB bT (aD 2 aJ (aA (mV 0) (aA (aB aE (mV 1) (mC (.int 1))) aC))) (mC (.int 16))) (mC (.int 0))) aC)))))
 (aG (bI 4 (aD 2 jD (aA (mV 0) (aA (aB aE (mV 1) (mC (.int 2))) aC))))
 (aG (mX (iI (aA (mV 3) aC)) (gN 5) pW)
 (aL (mCB bY (aA (mV 2) aC)))))))
def jE:Fn:=mFn 7 yW
def Cc:Ms:=
 (aG (bE (aP (aB vEq (aB bT (aD 2 aJ (aA (mV 0) (aA (mV 1) aC))) (mC (.int 4))) (mC (.int 0))))
  (aL (cD (aA (cD aC) (aA (mC (.int 1)) aC))))
  bF)
 (aL (cD (aA (aD 2 jE (aA (mV 0) (aA (aB aE (mV 1) (mC (.int 1))) aC))) (aA (aB iX (mC (.int 1)) (aB fU (aB bT (aD 2 aJ (aA (mV 0) (aA (aB aE (mV 1) (mC (.int 2))) aC))) (mC (.int 2))) (mC (.int 2)))) aC)))))
def yX:Fn:=mFn 2 Cc
def tW:Ms:=
 (bI 1 (aB aE (mV 1) (aB vAt (mC (.str "zyxwvutsrqponmlkjihgfedcba")) (aB bT (aD 2 aJ (aA (mV 0) (aA (aB aE (mC (.int 103)) (mV 2)) aC))) (mC (.int 26))))))
def Cd:Ms:=
 (aG (bE (aP (aB vEq (aB bT (aD 2 aJ (aA (mV 0) (aA (mC (.int 100)) aC))) (mC (.int 2))) (mC (.int 0))))
  (aL (aD 2 yX (aA (mV 0) (aA (mC (.int 101)) aC))))
  bF)
 (aG (bI 1 (mC (.str "")))
 (aG (mX (iI (aA (aB aE (mC (.int 1)) (aB bT (aD 2 aJ (aA (mV 0) (aA (mC (.int 102)) aC))) (mC (.int 12)))) aC)) (gN 2) tW)
 (aL (mV 1)))))
def yY:Fn:=mFn 3 Cd
def tX:Ms:=
 (aG (bE (aP (aB vEq (aB bT (aD 2 aJ (aA (mV 0) (aA (mC (.int 120)) aC))) (mC (.int 2))) (mC (.int 0))))
  (aL (aB iX (aB bT (aD 2 aJ (aA (mV 0) (aA (mC (.int 121)) aC))) (mC (.int 21))) (mC (.int 10))))
  bF)
 (aL (aB iX (aB bT (aB fU (mV 0) (mC (.int 7919))) (aB iX (aB fU (mC (.int 2)) (aB sR (mC (.int 10)) (mC (.int 40)))) (mC (.int 1)))) (aB iX (aB sR (mC (.int 10)) (mC (.int 40))) (mC (.int 1))))))
def tY:Fn:=mFn 1 tX
def pX:Ms:=
 (bI 2 (aB aE (mV 2) (aB vAt (mV 1) (aB fU (aB bT (aD 2 aJ (aA (mV 0) (aA (aB aE (mC (.int 131)) (mV 3)) aC))) (mCB iH (aA (mV 1) aC))) (mCB tK (aA (aB vGt (aB bT (aD 2 aJ (aA (mV 0) (aA (aB aE (mC (.int 150)) (mV 3)) aC))) (mC (.int 4))) (mC (.int 0))) aC))))))
def yZ:Ms:=
 (aG (bI 1 (mC (.str " !\"#$&'()*+,-./0123456789:;<=>?@ABCDEFGHIJKLMNOPQRSTUVWXYZ[\\]^_`")))
 (aG (bI 1 (aB aE (mV 1) (mC (.str "abcdefghijklmnopqrstuvwxyz{|}~"))))
 (aG (bI 2 (mC (.str "")))
 (aG (mX (iI (aA (aB aE (mC (.int 1)) (aB bT (aD 2 aJ (aA (mV 0) (aA (mC (.int 130)) aC))) (mC (.int 12)))) aC)) (gN 3) pX)
 (aL (mV 2))))))
def zA:Fn:=mFn 4 yZ
def Gy:Ms:=
 (aG (bI 1 (aB bT (aD 2 aJ (aA (mV 0) (aA (mC (.int 1)) aC))) (mC (.int 13))))
 (aG (bI 2 (aD 2 rP (aA (mV 0) (aA (mC (.int 170)) aC))))
 (aG (bE (aP (aB vEq (mV 1) (mC (.int 0))))
  (aG (bI 3 (pP (aA (mC (.str "map")) (aA (mC (.str "row")) (aA (mC (.str "count")) (aA (mC (.str "choice")) (aA (mC (.str "bag")) (aA (mC (.str "text")) aC))))))))
  (aL (cD (aA (mC (.str "make")) (aA (aB vAt (mV 3) (aB bT (aD 2 aJ (aA (mV 0) (aA (mC (.int 2)) aC))) (mC (.int 6)))) (aA (mV 2) (aA (aD 1 yY (aA (mV 0) aC)) aC)))))))
  bF)
 (aG (bE (aP (aB vEq (mV 1) (mC (.int 1))))
  (aL (cD (aA (mC (.str "move")) (aA (mV 2) (aA (aD 2 rP (aA (mV 0) (aA (mC (.int 200)) aC))) (aA (aD 1 yY (aA (mV 0) aC)) aC))))))
  bF)
 (aG (bE (aP (aB vLt (mV 1) (mC (.int 6))))
  (aL (cD (aA (aB vAt (pP (aA (mC (.str "add")) (aA (mC (.str "choose")) (aA (mC (.str "put")) (aA (mC (.str "take")) aC))))) (aB iX (mV 1) (mC (.int 2)))) (aA (mV 2) (aA (aD 1 tY (aA (mV 0) aC)) aC)))))
  bF)
 (aG (bE (aP (aB vEq (mV 1) (mC (.int 6))))
  (aG (rB (aD 2 yX (aA (mV 0) (aA (mC (.int 230)) aC))) (gTp 2 (gCn (gN 4) (gCn (gN 5) gNl))))
  (aL (cD (aA (mC (.str "write")) (aA (mV 2) (aA (mV 4) (aA (mV 5) (aA (aD 1 zA (aA (mV 0) aC)) aC))))))))
  bF)
 (aG (bE (aP (aB vEq (mV 1) (mC (.int 7))))
  (aG (bI 6 (aB aE (aB aE (mC (.int 1)) (aB bT (aD 2 aJ (aA (mV 0) (aA (mC (.int 3)) aC))) (mC (.int 3)))) (aB fU (mC (.int 37)) (mCB tK (aA (aB vEq (aB bT (aD 2 aJ (aA (mV 0) (aA (mC (.int 4)) aC))) (mC (.int 8))) (mC (.int 0))) aC)))))
  (aL (cD (aA (mC (.str "cut")) (aA (mV 2) (aA (mCB bY (aA (bX [none,some 0] (iI (aA (mV 6) aC)) (gN 0) gP (aD 2 jE (aA (mV 1) (aA (aB aE (mC (.int 250)) (aB fU (mC (.int 11)) (mV 0))) aC)))) aC)) aC))))))
  bF)
 (aG (bE (aP (aB vLt (mV 1) (mC (.int 10))))
  (aG (bI 7 (cD (aA (aD 2 jE (aA (mV 0) (aA (mC (.int 300)) aC))) (aA (aD 2 jE (aA (mV 0) (aA (mC (.int 400)) aC))) aC))))
  (aL (cD (aA (aB vAt (pP (aA (mC (.str "mark")) (aA (mC (.str "clear")) aC))) (aB iX (mV 1) (mC (.int 8)))) (aA (mV 2) (aA (aB vAt (mV 7) (mC (.int 0))) (aA (aB vAt (mV 7) (mC (.int 1))) (aA (aD 2 jD (aA (mV 0) (aA (mC (.int 500)) aC))) aC))))))))
  bF)
 (aG (bE (aP (aB vEq (mV 1) (mC (.int 10))))
  (aL (cD (aA (mC (.str "back")) (aA (aD 2 dB (aA (mV 0) (aA (mC (.int 510)) aC))) (aA (aD 2 dB (aA (mV 0) (aA (mC (.int 520)) aC))) aC)))))
  bF)
 (aG (bE (aP (aB vEq (mV 1) (mC (.int 11))))
  (aL (cD (aA (mC (.str "settle")) aC)))
  bF)
 (aL (cD (aA (mC (.str "drop")) (aA (mV 2) aC))))))))))))))
def Dk:Fn:=mFn 8 Gy
def tZ:Ms:=
 (qT (aD 2 dB (aA (mV 0) (aA (aB aE (mC (.int 660)) (aB fU (mC (.int 2)) (mV 3))) aC))) (mV 2) (aD 2 jD (aA (mV 0) (aA (aB aE (mC (.int 620)) (aB fU (mC (.int 10)) (mV 3))) aC))))
def Ce:Ms:=
 (aG (bI 1 (cD (aA (aD 2 jD (aA (mV 0) (aA (mC (.int 600)) aC))) (aA (aD 2 dB (aA (mV 0) (aA (mC (.int 610)) aC))) aC))))
 (aG (bI 2 yJ)
 (aG (mX (iI (aA (aB bT (aD 2 aJ (aA (mV 0) (aA (mC (.int 5)) aC))) (mC (.int 4))) aC)) (gN 3) tZ)
 (aG (bE (aP (aB vGt (aB vAt (mV 1) (mC (.int 1))) (mC (.int 1))))
  (qT (aB iX (aB vAt (mV 1) (mC (.int 1))) (mC (.int 1))) (mV 2) (aB vAt (mV 1) (mC (.int 0))))
  (bE (aP (aB Ef (aB vAt (mV 1) (mC (.int 0))) (mV 2)))
   (mW (mMt eB tS (mV 2) (aA (aB vAt (mV 1) (mC (.int 0))) aC)))
   bF))
 (aL (cD (aA (mV 1) (aA (mCB bY (aA (mCB gA (aA (FN eB nC (mV 2)) aC)) aC)) (aA (aD 1 Dk (aA (mV 0) aC)) aC)))))))))
def Cf:Fn:=mFn 4 Ce
def eI:Ms:=
 (bI 1 (aB aE (aB aE (mV 1) (aB vAt (pP (aA (mC (.str "")) (aA (mC (.str ">")) (aA (mC (.str "<")) aC)))) (mV 2))) (mMt bG eC (mC (.str ".")) (aA (pP (aA (mV 3) (aA (mCB jY (aA (mV 4) aC)) (aA (mCB jY (aA (mV 5) aC)) aC)))) aC))))
def dQ:Ms:=
 (aG (bE (aP (aB vEq (mV 0) (cD aC)))
  (aL (mC (.str "-")))
  bF)
 (aG (bI 1 (mC (.str "")))
 (aG (mX (bH (mV 0)) (gTp 4 (gCn (gN 2) (gCn (gN 3) (gCn (gN 4) (gCn (gN 5) gNl))))) eI)
 (aL (mV 1)))))
def cL:Fn:=mFn 6 dQ
def kO:Ms:=
 (aG (bE (aP (mCB mY (aA (mV 0) (aA (mC (.ty "str")) aC))))
  (aL (mV 0))
  bF)
 (aG (bE (aP (mCB mY (aA (mV 0) (aA (mC (.ty "int")) aC))))
  (aL (mCB jY (aA (mV 0) aC)))
  bF)
 (aG (bE (qP (aP (aB vEq (mCB iH (aA (mV 0) aC)) (mC (.int 2)))) (aP (mCB mY (aA (aB vAt (mV 0) (mC (.int 0))) (aA (mC (.ty "str")) aC)))))
  (aL (aB aE (aB aE (aB vAt (mV 0) (mC (.int 0))) (mC (.str "."))) (mCB jY (aA (aB vAt (mV 0) (mC (.int 1))) aC))))
  bF)
 (aG (bE (qP (aP (aB vEq (mCB iH (aA (mV 0) aC)) (mC (.int 2)))) (aP (mCB mY (aA (aB vAt (mV 0) (mC (.int 1))) (aA (mC (.ty "int")) aC)))))
  (aL (aB aE (aB aE (aD 1 cL (aA (aB vAt (mV 0) (mC (.int 0))) aC)) (mC (.str " "))) (aB vAt (pP (aA (mC (.str "")) (aA (mC (.str ">")) (aA (mC (.str "<")) aC)))) (aB vAt (mV 0) (mC (.int 1))))))
  bF)
 (aL (aD 1 cL (aA (mV 0) aC)))))))
def dR:Fn:=mFn 1 kO
def Cg:Ms:=
 (aG (rB (mV 0) (gTp 3 (gCn (gN 1) (gCn (gN 2) (gCn (gN 3) gNl)))))
 (aG (bI 4 (pP (aA (aD 1 dR (aA (mV 1) aC)) (aA (mMt bG eC (mC (.str ",")) (aA (bX [none] (bH (mV 2)) (gN 0) gP (aD 1 dR (aA (mV 0) aC))) aC)) aC))))
 (aG (bE (aP (aB vEq (mV 2) (cD aC)))
  (qT (mC (.str "-")) (mV 4) (mC (.int 1)))
  bF)
 (aG (bE (aP (aB vEq (aB vAt (mV 3) (mC (.int 0))) (mC (.str "write"))))
  (aL (mMt bG eC (mC (.str " ")) (aA (aB aE (mV 4) (pP (aA (mC (.str "write")) (aA (aD 1 dR (aA (aB vAt (mV 3) (mC (.int 1))) aC)) (aA (aD 1 dR (aA (mSl (mV 3) (mP (mC (.int 2))) (mP (mC (.int 4)))) aC)) (aA (aB vAt (mV 3) (mC (.int 4))) aC)))))) aC)))
  bF)
 (aG (bE (aP (aB vEq (aB vAt (mV 3) (mC (.int 0))) (mC (.str "cut"))))
  (aL (mMt bG eC (mC (.str " ")) (aA (aB aE (mV 4) (pP (aA (mC (.str "cut")) (aA (aD 1 dR (aA (aB vAt (mV 3) (mC (.int 1))) aC)) (aA (mMt bG eC (mC (.str ",")) (aA (bX [none] (bH (aB vAt (mV 3) (mC (.int 2)))) (gN 0) gP (aD 1 cL (aA (mV 0) aC))) aC)) aC))))) aC)))
  bF)
 (aL (mMt bG eC (mC (.str " ")) (aA (aB aE (mV 4) (bX [none] (bH (mV 3)) (gN 0) gP (aD 1 dR (aA (mV 0) aC)))) aC))))))))
def Ci:Fn:=mFn 5 Cg
def kQ:Ms:=
 (aG (rB (mV 0) (gTp 2 (gCn (gN 1) (gCn (gN 2) gNl))))
 (aL (mJn Str.empty ((AL (mV 1))::((mC (.str "."))::((AL (mV 2))::[]))))))
def cM:Fn:=mFn 3 kQ
def gB:Ms:=
 (aL (mIf (aP (mV 0)) (mMt bG eC (mC (.str ",")) (aA (bX [none] (bH (mV 0)) (gN 0) gP (aD 1 cM (aA (mV 0) aC))) aC)) (mC (.str "-"))))
def kR:Fn:=mFn 1 gB
def jF:Ms:=
 (aL (mV 0))
def dS:Fn:=mFn 1 jF
def gR:Ms:=
 (aL (mCB jY (aA (mV 0) aC)))
def dC:Fn:=mFn 1 gR
def kT:Ms:=
 (aL (mIf (aP (aB vEq (mV 0) (mUn Ar (mC (.int 1))))) (mC (.str "<")) (mC (.str ">"))))
def eS:Fn:=mFn 1 kT
def kU:Ms:=
 (aG (rB (mV 0) (gTp 4 (gCn (gN 1) (gCn (gN 2) (gCn (gN 3) (gCn (gN 4) gNl))))))
 (aL (aB aE (aD 1 eS (aA (mV 1) aC)) (mJn Str.empty ((AL (mV 2))::((mC (.str "."))::((AL (mV 3))::((mC (.str "."))::((AL (mV 4))::[])))))))))
def kW:Fn:=mFn 5 kU
def fF:Ms:=
 (aL (mIf (aP (mV 0)) (mMt bG eC (mC (.str "")) (aA (bX [none] (bH (mV 0)) (gN 0) gP (aD 1 kW (aA (mV 0) aC))) aC)) (mC (.str "-"))))
def cR:Fn:=mFn 1 fF
def gU:Ms:=
 (aL (mMt bG eC (mC (.str ",")) (aA (bX [none] (bH (mV 0)) (gN 0) gP (aD 1 cR (aA (mV 0) aC))) aC)))
def gW:Fn:=mFn 1 gU
def gC:Ms:=
 (aG (bE (aP (mCB mY (aA (mV 0) (aA (mC (.ty "str")) aC))))
  (aL (mV 0))
  bF)
 (aL (aB aE (aB aE (aD 1 cR (aA (aB vAt (mV 0) (mC (.int 0))) aC)) (mC (.str " "))) (aD 1 eS (aA (aB vAt (mV 0) (mC (.int 1))) aC)))))
def gD:Fn:=mFn 1 gC
def nE:List (Str×Str):=[("kind","plain_text"),("nth","number_text"),("number","number_text"),("place","place_text"),("places","places_text"),("side","side_text"),("signs","plain_text"),("spot","spot_text"),("thing","name_text"),("under","place_text"),("word","plain_text")]
def nF:List (Str×Fn):=[("kind",dS),("nth",dC),("number",dC),("place",cR),("places",gW),("side",eS),("signs",dS),("spot",gD),("thing",cM),("under",cR),("word",dS)]
def jG:Ms:=
 (aL (mMt bG eC (mC (.str "")) (aA (bX [none,none] (mZq (aA (mV 1) (aA (mV 0) aC))) (gTp 2 (gCn (gN 0) (gCn (gN 1) gNl))) gP (aB aE (mC (.str " ")) (C9 nF (mV 0) (mV 1)))) aC)))
def jH:Fn:=mFn 2 jG
def dE:List (Str×List PV):=[("make",[.str "kind",.str "thing",.str "spot"]),("move",[.str "thing",.str "thing",.str "spot"]),("drop",[.str "thing"]),("add",[.str "thing",.str "number"]),("choose",[.str "thing",.str "number"]),("put",[.str "thing",.str "number"]),("take",[.str "thing",.str "number"]),("write",[.str "thing",.str "under",.str "side",.str "signs"]),("cut",[.str "thing",.str "places"]),("mark",[.str "thing",.str "place",.str "place",.str "word"]),("clear",[.str "thing",.str "place",.str "place",.str "word"]),("back",[.str "nth",.str "nth"]),("settle",[])]
def zB:Ms:=
 (aG (rB (mV 0) (gTp 3 (gCn (gN 1) (gCn (gN 2) (gCn (gN 3) gNl)))))
 (aL (aB aE (aB aE (aB aE (aB aE (aB aE (aD 1 cM (aA (mV 1) aC)) (mC (.str " "))) (aD 1 kR (aA (mV 2) aC))) (mC (.str " "))) (aB vAt (mV 3) (mC (.int 0)))) (aD 2 jH (aA (mSl (mV 3) (mP (mC (.int 1))) mU) (aA (mUn (Gn dE) (aB vAt (mV 3) (mC (.int 0)))) aC))))))
def zC:Fn:=mFn 4 zB
def gX:Ms:=
 (bE (qO (aP (mCB Au (aA (bX [none] (tO (mV 0)) (gN 0) gP (uT vLe vLe (mC (.str " ")) (mV 0) (mC (.str "~")))) aC))))
  eD
  bF)
def gY:Fn:=mFn 1 gX
def gZ:Ms:=
 (bE (As (qO (aP (uT vLe vLe (mC (.int 1)) (mCB iH (aA (mV 0) aC)) (mV 2)))) (qO (aP (mCB Au (aA (bX [none,some 1] (tO (mV 0)) (gN 0) gP (aB C8 (mV 0) (mV 1))) aC)))))
  eD
  bF)
def bQ:Fn:=mFn 3 gZ
def kX:Ms:=
 (aG (mW (aD 3 bQ (aA (mV 0) (aA (mC (.str "abcdefghijklmnopqrstuvwxyz")) (aA (mC (.int 8)) aC)))))
 (aL (mV 0)))
def eU:Fn:=mFn 1 kX
def hJ:Ms:=
 (aG (mW (aD 3 bQ (aA (mIf (aP (mMt bG lU (mV 0) (aA (mC (.str "-")) aC))) (mSl (mV 0) (mP (mC (.int 1))) mU) (mV 0)) (aA (mC (.str "0123456789")) (aA (mC (.int 40)) aC)))))
 (aG (bI 1 (mCB AJ (aA (mV 0) aC)))
 (aG (bE (aP (aB vNe (aD 1 dC (aA (mV 1) aC)) (mV 0)))
  eD
  bF)
 (aL (mV 1)))))
def eQ:Fn:=mFn 2 hJ
def kY:Ms:=
 (aG (bI 2 (aD 1 eQ (aA (mV 1) aC)))
 (aG (bE (aP (aB vLt (mV 2) (mV 0)))
  eD
  bF)
 (aL (mV 2))))
def gE:Fn:=mFn 3 kY
def nG:Ms:=
 (aL (aD 2 gE (aA (mC (.int 1)) (aA (mV 0) aC))))
def fX:Fn:=mFn 1 nG
def kZ:Ms:=
 (aG (rB (mMt bG fW (mV 0) (aA (mC (.str ".")) aC)) (gTp 3 (gCn (gN 1) (gCn (gN 2) (gCn (gN 3) gNl)))))
 (aL (cD (aA (aD 1 eU (aA (mV 1) aC)) (aA (aD 1 fX (aA (mV 3) aC)) aC)))))
def cN:Fn:=mFn 4 kZ
def gF:Ms:=
 (aG (bE (aP (aB vEq (mV 0) (mC (.str "-"))))
  (aL (cD aC))
  bF)
 (aG (bI 1 (bX [none] (bH (mMt bG eG (mV 0) (aA (mC (.str ",")) aC))) (gN 0) gP (aD 1 cN (aA (mV 0) aC))))
 (aG (bI 2 (bX [none,none] (bH (mV 1)) (gTp 2 (gCn (gN 0) (gCn (gN 1) gNl))) gP (mV 0)))
 (aG (bE (aP (aB vNe (mV 2) (mUn fO (mV 2))))
  eD
  bF)
 (aL (mCB bY (aA (mV 1) aC)))))))
def lA:Fn:=mFn 3 gF
def pY:Ms:=
 (aL (aD 2 gE (aA (mC (.int 0)) (aA (mV 0) aC))))
def iL:Fn:=mFn 1 pY
def nH:Ms:=
 (aG (mW (aD 3 bQ (aA (mV 0) (aA (mC (.str "abcdefghijklmnopqrstuvwxyz")) (aA (mC (.int 12)) aC)))))
 (aL (mV 0)))
def jI:Fn:=mFn 1 nH
def iM:Ms:=
 (aL (mIf (aP (aB C8 (mSl (mV 0) mU (mP (mC (.int 1)))) (mC (.str "0123456789")))) (aD 1 iL (aA (mV 0) aC)) (aD 1 jI (aA (mV 0) aC))))
def iN:Fn:=mFn 1 iM
def lB:Ms:=
 (aG (bE (aP (aB jA (mV 0) (mC (.tup [.str "map",.str "row",.str "count",.str "choice",.str "bag",.str "text"]))))
  eD
  bF)
 (aL (mV 0)))
def lC:Fn:=mFn 1 lB
def gG:Ms:=
 (aG (bE (aP (aB jA (mV 0) (cD (aA (mC (.str "<")) (aA (mC (.str ">")) aC)))))
  eD
  bF)
 (aL (mIf (aP (aB vEq (mV 0) (mC (.str "<")))) (mUn Ar (mC (.int 1))) (mC (.int 1)))))
def eV:Fn:=mFn 1 gG
def lD:Ms:=
 (aG (bI 1 (mMt bG eG (mSl (mV 0) (mP (mC (.int 1))) mU) (aA (mC (.str ".")) aC)))
 (aG (bE (aP (aB vNe (mCB iH (aA (mV 1) aC)) (mC (.int 3))))
  eD
  bF)
 (aG (rB (cD (aA (aD 1 eV (aA (mSl (mV 0) mU (mP (mC (.int 1)))) aC)) (aA (aD 1 eU (aA (aB vAt (mV 1) (mC (.int 0))) aC)) (aA (aD 1 fX (aA (aB vAt (mV 1) (mC (.int 1))) aC)) (aA (aD 1 iL (aA (aB vAt (mV 1) (mC (.int 2))) aC)) aC))))) (gTp 4 (gCn (gN 2) (gCn (gN 3) (gCn (gN 4) (gCn (gN 5) gNl))))))
 (aG (bE (aP (aB vGt (mV 5) (mC (.int 11))))
  eD
  bF)
 (aL (cD (aA (mV 2) (aA (mV 3) (aA (mV 4) (aA (mV 5) aC))))))))))
def lE:Fn:=mFn 6 lD
def jJ:Ms:=
 (aG (II 0 1 ">" "<" "\n<" ">" "\n>" "\n")
 (aL (mCB bY (aA (bX [none] (bH (mSl (mV 1) (mP (mC (.int 1))) mU)) (gN 0) gP (aD 1 lE (aA (mV 0) aC))) aC))))
def dU:Fn:=mFn 2 jJ
def hU:Ms:=
 (aG (bI 1 (mMt bG eG (mV 0) (aA (mC (.str ",")) aC)))
 (aG (bE (aP (aB vGt (mCB iH (aA (mV 1) aC)) (mC (.int 40))))
  eD
  bF)
 (aL (mCB bY (aA (bX [none] (bH (mV 1)) (gN 0) gP (aD 1 dU (aA (mV 0) aC))) aC)))))
def hV:Fn:=mFn 2 hU
def jK:Ms:=
 (aG (bE (qO (aP (uT vLe vLe (mC (.int 1)) (mCB iH (aA (mV 0) aC)) (mC (.int 12)))))
  eD
  bF)
 (aL (mV 0)))
def jL:Fn:=mFn 1 jK
def fG:Ms:=
 (aL (mIf (aP (aB vEq (mV 0) (mC (.str "-")))) (cD aC) (aD 1 dU (aA (mV 0) aC))))
def fH:Fn:=mFn 1 fG
def jM:Ms:=
 (bE (qP (aP (aB vEq (mV 0) (cD aC))) (aP (aB vEq (mV 1) (mUn Ar (mC (.int 1))))))
  eD
  bF)
def fI:Fn:=mFn 2 jM
def gH:Ms:=
 (aG (rB (mMt bG fW (mV 0) (aA (mC (.str " ")) aC)) (gTp 3 (gCn (gN 1) (gCn (gN 2) (gCn (gN 3) gNl)))))
 (aG (bE (aP (aB vEq (mV 2) (mC (.str ""))))
  (aL (aD 1 jI (aA (mV 0) aC)))
  bF)
 (aG (Er 4 5 (aA (aD 1 fH (aA (mV 1) aC)) (aA (aD 1 eV (aA (mV 3) aC)) aC)))
 (aG (mW (aD 2 fI (aA (mV 4) (aA (mV 5) aC))))
 (aL (cD (aA (mV 4) (aA (mV 5) aC))))))))
def gI:Fn:=mFn 6 gH
def fJ:Ms:=
 (aL (mIf (aP (aB vEq (mV 0) (aD 1 cM (aA (mC (.tup [.str "",.int (0)])) aC)))) (mC (.tup [.str "",.int (0)])) (aD 1 cN (aA (mV 0) aC))))
def fK:Fn:=mFn 1 fJ
def lF:Ms:=
 (aG (mW (aD 3 bQ (aA (mV 0) (aA (mC (.str "abcdefghijklmnopqrstuvwxyz")) (aA (mC (.int 8)) aC)))))
 (aL (mV 0)))
def lG:Fn:=mFn 1 lF
def nI:List (Str×Str):=[("at","read_at"),("hand","read_hand"),("key or at","read_key_or_at"),("kind","read_kind"),("name","read_name"),("nth","read_nth"),("number","read_number"),("place","read_place"),("places","read_places"),("side","read_side"),("signs","read_signs"),("spot","read_spot"),("thing","read_thing"),("under","read_under"),("word","read_word")]
def nJ:List (Str×Fn):=[("at",iL),("hand",eU),("key or at",iN),("kind",lC),("name",cN),("nth",fX),("number",eQ),("place",dU),("places",hV),("side",eV),("signs",jL),("spot",gI),("thing",fK),("under",fH),("word",lG)]
def jN:Ms:=
 (aG (bE (aP (aB vIs (mV 1) (mC .non)))
  eD
  bF)
 (aG (bI 2 (mMt bG fE (mV 0) (aA (mC (.str " ")) (aA (mCB iH (aA (mV 1) aC)) aC))))
 (aG (bE (As (aP (aB vNe (mCB iH (aA (mV 2) aC)) (aB aE (mCB iH (aA (mV 1) aC)) (mC (.int 1))))) (aP (aB C8 (mC (.str " ")) (aB vAt (mV 2) (mC (.int 0))))))
  eD
  bF)
 (aL (bX [none,none] (mZq (aA (mV 1) (aA (mSl (mV 2) (mP (mC (.int 1))) mU) aC))) (gTp 2 (gCn (gN 0) (gCn (gN 1) gNl))) gP (C9 nJ (mV 0) (mV 1)))))))
def jO:Fn:=mFn 3 jN
def nK:Ms:=
 (aG (bI 1 (aB vAt (mMt bG fW (mV 0) (aA (mC (.str " ")) aC)) (mC (.int 0))))
 (aG (bI 2 (aB aE (cD (aA (mV 1) aC)) (mCB bY (aA (aD 2 jO (aA (mV 0) (aA (mUn (Gm dE) (mV 1)) aC))) aC))))
 (aG (bE (aP (aB vEq (mV 1) (mC (.str "write"))))
  (mW (aD 2 fI (aA (aB vAt (mV 2) (mC (.int 2))) (aA (aB vAt (mV 2) (mC (.int 3))) aC))))
  bF)
 (aL (mV 2)))))
def nL:Fn:=mFn 3 nK
def Cj:Ms:=
 (aG (mW (aD 1 gY (aA (mV 0) aC)))
 (aG (bI 1 (mMt bG fE (mV 0) (aA (mC (.str " ")) (aA (mC (.int 2)) aC))))
 (aG (bE (aP (aB vNe (mCB iH (aA (mV 1) aC)) (mC (.int 3))))
  eD
  bF)
 (aG (bI 2 (aD 1 cN (aA (aB vAt (mV 1) (mC (.int 0))) aC)))
 (aG (bI 3 (aD 1 lA (aA (aB vAt (mV 1) (mC (.int 1))) aC)))
 (aG (bE (aP (aB vNe (mMt eB Ax (mCB wO (aA (mV 3) aC)) (aA (aB vAt (mV 2) (mC (.int 0))) (aA (mC (.int 0)) aC))) (aB iX (aB vAt (mV 2) (mC (.int 1))) (mC (.int 1)))))
  eD
  bF)
 (aL (cD (aA (mV 2) (aA (mV 3) (aA (aD 1 nL (aA (aB vAt (mV 1) (mC (.int 2))) aC)) aC)))))))))))
def zD:Fn:=mFn 4 Cj
def rQ:Ms:=
 (aG (bI 2 (aD 1 Cf (aA (mV 1) aC)))
  (aG (bI 3 (aD 1 Ci (aA (mV 2) aC)))
  (aG (bI 4 (aD 1 zC (aA (mV 2) aC)))
  (aG (bE (As (qO (aP (mCB mY (aA (mV 4) (aA (mC (.ty "str")) aC))))) (aP (aB vNe (mV 4) (mV 3))))
   (aL (mC (.bl false)))
   bF)
  (bE (As (aP (aB vNe (mCB mJ (aA (aD 1 zD (aA (mV 3) aC)) aC)) (mCB mJ (aA (mV 2) aC)))) (aP (aB vNe (mCB mJ (aA (aD 1 zD (aA (mV 4) aC)) aC)) (mCB mJ (aA (mV 2) aC)))))
   (aL (mC (.bl false)))
   bF)))))
def Gz:Ms:=
 (aG (mX (bH (mSl (mV 0) mU (mP (mC (.int 16))))) (gN 1) rQ)
 (aL (mC (.bl true))))
def GA:Fn:=mFn 5 Gz
end
end K91
namespace K91
open PySem L2
abbrev Sx(l:List Nat):Str:=⟨l.toArray⟩
theorem cF(l:List Nat):(Sx l).cps.toList=l:=by simp
theorem rC(x:Str):Sx x.cps.toList=x:=by cases x;simp
theorem aF(l:List Nat):(Sx l).length=l.length:=by simp[Str.length]
theorem Np(x:Str):x.cps.toList.length=x.length:=by simp[Str.length]
theorem cO(a b:List Nat):Sx a++Sx b=Sx (a++b):=by
 apply Str.ext';rw[Str.cps_append];simp
variable{a b:List Nat}
theorem AW(h:Sx a=Sx b):a=b:=by
 have:=congrArg (λx:Str=>x.cps.toList) h;simpa using this
theorem Le:(Sx a=Sx b)=(a=b):=propext ⟨AW,λh=>by rw[h]⟩
def cI(c:Nat):List Nat->Nat->List Nat
 |[],_=>[]
 |d::l,i=>if d=c then i::cI c l (i+1) else cI c l (i+1)
theorem oY(s:Str)(c lim:Nat):∀(n cur:Nat)(acc:Array Nat)(free:Nat),free<=cur->cur+n=s.length+1->
  (forIn (List.range' cur n) (acc,free) (StrLaws.occBody s ⟨#[c]⟩ s.length lim)).run.fst.toList=acc.toList++(cI c (s.cps.toList.drop cur) cur).take (lim-acc.size)
 |0,cur,acc,free,hf,hn=>by
  have:s.cps.toList.drop cur=[]:=RF (by rw[Np];omega);rw[this];simp[cI]
 |n+1,cur,acc,free,hf,hn=>by
  rw[List.range'_succ,List.forIn_cons];have key:=StrLaws.subAt_one s c cur;unfold StrLaws.occBody;cases e:s.cps.toList[cur]? with
  |none=>
   have hl:s.cps.toList.length<=cur:=QN.mp e;have d:s.cps.toList.drop cur=[]:=RF hl;have d2:s.cps.toList.drop (cur+1)=[]:=RF (by omega);rw[if_neg (λq=>by have:=key.mp ⟨q.1.2,q.2⟩;rw[e]at this;cases this)];have ih:=oY s c lim n (cur+1) acc free (by omega) (by omega);rw[d2]at ih;rw[d];exact ih
  |some v=>
   have hl:cur<s.cps.toList.length:=(Io.mp e).1;have d:s.cps.toList.drop cur=v::s.cps.toList.drop (cur+1):=by
    rw[Ri hl]
    congr 1
    have:=(Io.mp e).2;exact this
   rw[d]
   by_cases hv:v=c
   ·subst hv;obtain⟨k1,k2⟩:=key.mpr e;rw[show cI v (v::s.cps.toList.drop (cur+1)) cur=cur::cI v (s.cps.toList.drop (cur+1)) (cur+1) by rw[cI,if_pos rfl]]
    by_cases hz:acc.size<lim
    ·rw[if_pos ⟨⟨⟨hz,hf⟩,k1⟩,k2⟩];have ih:=oY s v lim n (cur+1) (acc.push cur) (cur+1) (by omega) (by omega);have e3:lim-acc.size=(lim-(acc.push cur).size)+1:=by rw[Array.size_push];omega
     rw[e3,List.take_succ_cons];refine Eq.trans ih ?_;rw[Array.toList_push,List.append_assoc];rfl
    ·rw[if_neg (λq=>hz q.1.1.1)];have ih:=oY s v lim n (cur+1) acc free (by omega) (by omega);have e3:lim-acc.size=0:=by omega
     rw[e3]at ih⊢;exact ih
   ·rw[if_neg (λq=>by have:=key.mp ⟨q.1.2,q.2⟩;rw[e]at this;cases this;exact hv rfl)];rw[show cI c (v::s.cps.toList.drop (cur+1)) cur=cI c (s.cps.toList.drop (cur+1)) (cur+1) by rw[cI,if_neg hv]];exact oY s c lim n (cur+1) acc free (by omega) (by omega)
theorem oZ(l:List Nat)(c lim:Nat):Pi (Sx l) ⟨#[c]⟩ 0 (Sx l).length lim=(cI c l 0).take lim:=by
 rw[StrLaws.occ_eq];have:=oY (Sx l) c lim ((Sx l).length+1-0) 0 #[] 0 (OO _) (by omega);simpa using this
def aK(c:Nat):Nat->List Nat->List (List Nat)
 |_,[]=>[[]]
 |m,d::l=>if d=c/\m≠0 then[]::aK c (m-1) l else match aK c m l with
  |p::r=>(d::p)::r
  |[]=>[[d]]
theorem eJ(c:Nat):∀(l:List Nat)(m:Nat),∃p r,aK c m l=p::r
 |[],_=>⟨_,_,rfl⟩
 |d::l,m=>by
  unfold aK;split
  ·exact⟨_,_,rfl⟩
  ·obtain⟨p,r,e⟩:=eJ c l m;rw[e];exact⟨_,_,rfl⟩
def wY(a:List Nat):List (List Nat)->List (List Nat)
 |p::r=>(a++p)::r
 |[]=>[a]
theorem Dl(l:List Nat)(i j:Nat):SC (Sx l) i j=Sx ((l.drop i).take (j-i)):=by
 rw[<-rC (SC (Sx l) i j),StrLaws.strSub_toList]
theorem lV(l:List Nat)(c:Nat):∀(n a b m:Nat),a<=b->b+n=l.length->
  StrLaws.partsFrom (Sx l) 1 a ((cI c (l.drop b) b).take m)=(wY ((l.drop a).take (b-a)) (aK c m (l.drop b))).map Sx
 |0,a,b,m,qy,hn=>by
  have d:l.drop b=[]:=RF (by omega);rw[d];simp only[cI,List.take_nil,StrLaws.partsFrom,aK,wY,List.append_nil,Pa,List.map_nil];rw[Dl,aF];rw[show l.length=b by omega]
 |n+1,a,b,m,qy,hn=>by
  have hb:b<l.length:=by omega
  have d:l.drop b=l[b]::l.drop (b+1):=Ri hb;rw[d];have tk:(l.drop a).take (b+1-a)=(l.drop a).take (b-a)++[l[b]]:=by
   rw[show b+1-a=(b-a)+1 by omega,List.take_add_one]
   congr 1
   rw[List.getElem?_drop,show a+(b-a)=b by omega,Qc hb];rfl
  by_cases hv:l[b]=c
  ·rw[hv];rw[show cI c (c::l.drop (b+1)) b=b::cI c (l.drop (b+1)) (b+1) by rw[cI,if_pos rfl]];cases m with
   |zero=>
    rw[show aK c 0 (c::l.drop (b+1))=match aK c 0 (l.drop (b+1)) with|p::r=>(c::p)::r|[]=>[[c]] by rw[aK,if_neg (λq=>q.2 rfl)]]
    have ih:=lV l c n a (b+1) 0 (by omega) (by omega);rw[tk,hv]at ih;obtain⟨p,r,e⟩:=eJ c (l.drop (b+1)) 0;rw[e]at ih⊢;simp only[List.take_zero]at ih⊢;rw[ih];simp[wY]
   |succ m=>
    rw[List.take_succ_cons,show aK c (m+1) (c::l.drop (b+1))=[]::aK c m (l.drop (b+1)) by rw[aK,if_pos ⟨rfl,by omega⟩];rfl];have ih:=lV l c n (b+1) (b+1) m (by omega) (by omega);unfold StrLaws.partsFrom;rw[ih,Dl,Nat.sub_self,List.take_zero];obtain⟨p,r,e⟩:=eJ c (l.drop (b+1)) m;rw[e];simp[wY]
  ·rw[show cI c (l[b]::l.drop (b+1)) b=cI c (l.drop (b+1)) (b+1) by rw[cI,if_neg hv]];rw[show aK c m (l[b]::l.drop (b+1))=match aK c m (l.drop (b+1)) with|p::r=>(l[b]::p)::r|[]=>[[l[b]]] by rw[aK,if_neg (λq=>hv q.1)]]
   have ih:=lV l c n a (b+1) m (by omega) (by omega);rw[tk]at ih;rw[ih];obtain⟨p,r,e⟩:=eJ c (l.drop (b+1)) m;rw[e];simp[wY]
variable{c m:Nat}{l:List Nat}
theorem Es:wY [] (aK c m l)=aK c m l:=by
 obtain⟨p,r,e⟩:=eJ c l m;rw[e];rfl
theorem wZ(l:List Nat)(c m:Nat):Sv (Sx l) (Pi (Sx l) ⟨#[c]⟩ 0 (Sx l).length m) 1=(aK c m l).map Sx:=by
 rw[oZ,StrLaws.partsBetween_eq];have:=lV l c l.length 0 0 m (OO _) (by omega);simpa[Es] using this
set_option tactic.hygienic true in
theorem uA{c:Nat}:∀{l:List Nat}{i:Nat},cI c l i=[]->c∉l
 |[],_,_=>by simp
 |d::l,i,h=>by
  unfold cI at h;split at h
  ·cases h
  ·rename_i q;rw[KP];rintro(e|e)
   ·exact q e.symm
   ·exact uA h e
theorem lH{c:Nat}:∀{l:List Nat}(m:Nat),c∉l->aK c m l=[l]
 |[],_,_=>rfl
 |d::l,m,h=>by
  rw[KP,not_or]at h;unfold aK;rw[if_neg (λq=>h.1 q.1.symm),lH m h.2]
theorem gJ{c:Nat}:∀(l:List Nat),aK c 0 l=[l]
 |[]=>rfl
 |d::l=>by
  unfold aK;rw[if_neg (λq=>q.2 rfl),gJ l]
theorem IM(x:Str):1<=Px x:=by
 unfold Px;split
 ·exact OO _
 ·split <;> decide
theorem GB(hc:c<256):Px ⟨#[c]⟩=1:=by
 unfold Px;rw[if_pos (by simp[hc])]
set_option tactic.hygienic true in
theorem Dm(hc:c<256)(l:List Nat)(m:Nat):spl (Sx l) (Sx [c]) m=(aK c m l).map Sx:=by
 unfold spl;have e1:(decide ((Sx l).length<(Sx [c]).length) || decide (Px (Sx l)<Px (Sx [c])))=decide (l.length<1):=by
  have k1:Px (Sx [c])=1:=GB hc;have:=IM (Sx l);rw[aF,aF,k1];rw[decide_eq_false (show ¬ Px (Sx l)<1 by omega),Bool.or_false];rfl
 rw[e1]
 by_cases h:l.length<1
 ·have:l=[]:=QU (by omega);subst this;rfl
 ·rw[decide_eq_false h,if_neg (by simp)];have o:=oZ l c m;have o:Pi (Sx l) (Sx [c]) 0 (Sx l).length m=(cI c l 0).take m:=o;split
  ·rename_i q;rw[o,List.isEmpty_iff]at q;cases m with
   |zero=>rw[gJ];rfl
   |succ m=>
    have z:cI c l 0=[]:=by
     cases e:cI c l 0 with
     |nil=>rfl
     |cons a r=>rw[e]at q;cases q
    rw[lH _ (uA z)];rfl
  ·exact wZ l c m
theorem qW{c:Nat}:∀{a:List Nat}(b:List Nat)(m:Nat),c∉a->aK c (m+1) (a++c::b)=a::aK c m b
 |[],b,m,_=>by
  show aK c (m+1) (c::b)=_
  rw[aK,if_pos ⟨rfl,by omega⟩];rfl
 |d::a,b,m,h=>by
  rw[KP,not_or]at h
  show aK c (m+1) (d::(a++c::b))=_
  rw[aK,if_neg (λq=>h.1 q.1.symm),qW b m h.2]
def aH(z:List Nat):List (List Nat)->List Nat
 |[]=>[]
 |[x]=>x
 |x::y::r=>x++z++aH z (y::r)
theorem cP(z x y:List Nat)(r:List (List Nat)):aH z (x::y::r)=x++z++aH z (y::r):=rfl
theorem GC(z:List Nat):∀ps:List (List Nat),Str.join (Sx z) (ps.map Sx)=Sx (aH z ps)
 |[]=>rfl
 |[x]=>rfl
 |x::y::r=>by
  show Sx x++Sx z++Str.join (Sx z) ((y::r).map Sx)=_
  rw[GC z (y::r),cO,cO];rfl
theorem zE(z:List Nat)(ps:List (List Nat)):Builtin.Str.glued (Sx z) (ps.map Sx)=Sx (aH z ps):=by
 rw[StrLaws.glued_eq_join,GC]
theorem Jl(z:List Nat)(ps:List (List Nat)):jnd (Sx z) (ps.map Sx)=Sx (aH z ps):=by
 match ps with
 |[]=>exact zE z []
 |[x]=>rfl
 |x::y::r=>exact zE z (x::y::r)
theorem gK{c:Nat}:∀(ps:List (List Nat))(q:List Nat)(m:Nat),(∀p∈ps,c∉p)->m=ps.length\/(ps.length<=m/\c∉q)->aK c m (aH [c] (ps++[q]))=ps++[q]
 |[],q,m,_,h=>by
  show aK c m q=[q]
  rcases h with rfl|⟨_,h⟩
  ·exact gJ q
  ·exact lH m h
 |p::ps,q,m,hp,h=>by
  have hm:m=(m-1)+1:=by
   rcases h with rfl|⟨h,_⟩
   ·rfl
   ·simp at h;omega
  have e:aH [c] (p::ps++[q])=p++c::aH [c] (ps++[q]):=by
   cases ps with
   |nil=>simp[aH]
   |cons p2 r=>simp[aH]
  rw[e,hm,qW _ _ (hp p (by simp)),gK ps q (m-1) (λx hx=>hp x (by simp[hx])) ?_]
  ·rfl
  ·rcases h with rfl|⟨h,h'⟩
   ·left;simp
   ·right;simp at h;exact⟨by omega,h'⟩
def dF(c:Nat)(z:List Nat)(l:List Nat):List Nat:=l.flatMap λd=>if d=c then z else[d]
theorem join_split{c:Nat}{z:List Nat}:∀(l:List Nat)(m:Nat),l.length<=m->aH z (aK c m l)=dF c z l
 |[],m,_=>by rfl
 |d::l,m,h=>by
  simp at h;have v3:=join_split (c:=c) (z:=z) l m (by omega);have vn:=join_split (c:=c) (z:=z) l (m-1) (by omega);unfold aK
  by_cases hd:d=c
  ·rw[if_pos ⟨hd,by omega⟩];obtain⟨p,r,e⟩:=eJ c l (m-1);rw[e]at vn⊢;rw[cP,vn];simp[dF,hd]
  ·rw[if_neg (λq=>hd q.1)];obtain⟨p,r,e⟩:=eJ c l m;rw[e]at v3⊢
   show aH z ((d::p)::r)=_
   have:aH z ((d::p)::r)=d::aH z (p::r):=by cases r <;> rfl
   rw[this,v3];simp[dF,hd]
theorem jP{c:Nat}{z:List Nat}:∀{l:List Nat},c∉l->dF c z l=l
 |[],_=>rfl
 |d::l,h=>by
  rw[KP,not_or]at h;have:=jP (z:=z) h.2;unfold dF at this⊢;rw[List.flatMap_cons,this,if_neg (λq=>h.1 q.symm)];rfl
variable{z:List Nat}
set_option tactic.hygienic true in
theorem GD(l:List Nat):Sq (Sx l) (Sx [c]) (Sx z)=Sx (dF c z l):=by
 unfold Sq;have o:Pi (Sx l) (Sx [c]) 0 (Sx l).length ((Sx l).length+1)=(cI c l 0).take ((Sx l).length+1):=oZ l c _;have w:(Sx [c]).length=1:=rfl;split
 ·rename_i q;rw[o,w]at q;simp only[Nat.reduceBEq,Bool.false_and,Bool.or_false,List.isEmpty_iff]at q;have z:cI c l 0=[]:=by
   cases e:cI c l 0 with
   |nil=>rfl
   |cons a r=>rw[e]at q;cases q
  rw[jP (uA z)]
 ·have:=wZ l c ((Sx l).length+1);rw[w,show Sv (Sx l) (Pi (Sx l) (Sx [c]) 0 (Sx l).length ((Sx l).length+1)) 1=_ from this,zE,join_split l _ (by rw[aF];omega)]
theorem lW:dF c z (a++b)=dF c z a++dF c z b:=List.flatMap_append
theorem xA{c:Nat}:∀{a:List Nat}(b:List Nat)(i:Nat),c∉a->∃r,cI c (a++c::b) i=(i+a.length)::r
 |[],b,i,_=>⟨_,by show cI c (c::b) i=_;rw[cI,if_pos rfl];rfl⟩
 |d::a,b,i,h=>by
  rw[KP,not_or]at h;obtain⟨r,e⟩:=xA (a:=a) b (i+1) h.2;refine⟨r,?_⟩
  show cI c (d::(a++c::b)) i=_
  rw[cI,if_neg (λq=>h.1 q.symm),e]
  congr 1
  simp;omega
theorem xB{c:Nat}:∀{l:List Nat}{i:Nat},c∉l->cI c l i=[]
 |[],_,_=>rfl
 |d::l,i,h=>by
  rw[KP,not_or]at h;rw[cI,if_neg (λq=>h.1 q.symm),xB h.2]
theorem pZ(b:List Nat)(h:c∉a):nD (Sx (a++c::b)) (Sx [c])=[Sx a,Sx [c],Sx b]:=by
 unfold nD;have o:Pi (Sx (a++c::b)) (Sx [c]) 0 (Sx (a++c::b)).length 1=(cI c (a++c::b) 0).take 1:=oZ _ c 1;obtain⟨r,e⟩:=xA b 0 h;rw[o,e]
 show[SC _ 0 (0+a.length),Sx [c],SC _ (0+a.length+(Sx [c]).length) _]=_
 have w:(Sx [c]).length=1:=rfl;rw[Dl,Dl,w,aF]
 congr 3
 ·simp
 ·simp;rw[show a.length+(b.length+1)-(a.length+1)=b.length by omega,List.take_length]
theorem xC(h:c∉a):nD (Sx a) (Sx [c])=[Sx a,Sx [],Sx []]:=by
 unfold nD;have o:Pi (Sx a) (Sx [c]) 0 (Sx a).length 1=(cI c a 0).take 1:=oZ _ c 1;rw[o,xB h];rfl
variable{Q:PV->PH->Prop}{elt:Me}{g:PH->Bool}{h h1:PH}{js:List (Option Nat)}{mi:Mi}{tg:Mg}{xs:List PV}{δ:Ev}
theorem Dn(P:Nat->PV->Prop)(e:mi δ h=.ok ⟨xs,g⟩ h1)(hg:∀h,Ext h1 h->g h=true)(hz:xs.length<=16777216)(step:∀i x,xs[i]?=some x->∃δ1,tg x (eE js δ)=some δ1/\∀h,Ext h1 h->∀Q:PV->PH->Prop,(∀v h',Ext h h'->P i v->Q v h')->(elt δ1 h).W Q)(k:∀l h'(vs:List PV),Ext h1 h'->h1.length<=l->vs.length=xs.length->h'[l]?=some (.lst vs)->(∀i v,vs[i]?=some v->P i v)->Q (.ref l) h'):(bX js mi tg gP elt δ h).W Q:=by
 unfold bX;rw[e,Rs.bind_ok];refine D8 (λi h'=>Ext h1 h'/\∃vs:List PV,vs.length=i/\h'[h1.length]?=some (.lst vs)/\∀i v,vs[i]?=some v->P i v) xs 0 _ ⟨Ext.app _ _,[],rfl,by simp,λi v hv=>by simp at hv⟩ (λi x h' _ hx hi=>?_) (λh' hi=>?_)
 ·obtain⟨x1,vs,lv,g1,ov⟩:=hi;have hx:xs[i]?=some x:=by simpa using hx
  have nh:=(Io.mp hx).1;obtain⟨δ1,ht,hs⟩:=step i x hx;refine⟨hg _ x1,δ1,ht,?_⟩;have hY:gP δ1 h'=.ok true h':=rfl;rw[hY,aY,if_pos rfl];refine hs h' x1 _ λv h2 x2 pv=>?_;refine⟨_,x2 _ _ g1,by omega,(x1.trans x2).setN (OO _),vs++[v],by simp[lv],pQ (x2 _ _ g1),λj w hw=>?_⟩;rcases Nat.lt_trichotomy j vs.length with z|z|z
  ·rw[PQ z]at hw;exact ov j w hw
  ·rw[z,Qh (OO _),Nat.sub_self]at hw;cases hw
   rw[z,lv];exact pv
  ·rw[Qh (by omega)]at hw;have:=(Io.mp hw).1;simp at this;omega
 ·obtain⟨x1,vs,lv,g1,ov⟩:=hi;rw[Nat.zero_add]at lv;exact⟨hg _ x1,k _ _ vs x1 (OO _) lv g1 ov⟩
theorem bN{α:Type}(ys:List α)(em out:α->PV)(e:mi δ h=.ok ⟨ys.map em,g⟩ h1)(hg:∀h,Ext h1 h->g h=true)(hz:ys.length<=16777216)(step:∀y∈ys,∃δ1,tg (em y) (eE js δ)=some δ1/\∀h,Ext h1 h->∀Q:PV->PH->Prop,(∀h',Ext h h'->Q (out y) h')->(elt δ1 h).W Q)(k:∀l h',Ext h1 h'->h1.length<=l->h'[l]?=some (.lst (ys.map out))->Q (.ref l) h'):(bX js mi tg gP elt δ h).W Q:=by
 refine Dn (λi v=>∃y,ys[i]?=some y/\v=out y) e hg (by simpa using hz) (λi x hx=>?_) λl h' vs x hl hv gl pv=>?_
 ·rw[PF]at hx;obtain⟨y,hy,rfl⟩:=Qn.mp hx;obtain⟨δ1,a,b⟩:=step y (Qi hy);exact⟨δ1,a,λh x Q k=>b h x Q λh' x'=>k _ h' x' ⟨y,hy,rfl⟩⟩
 ·have:vs=ys.map out:=by
   apply Rq;intro i;rw[PF];cases e1:vs[i]? with
   |none=>
    have:=QN.mp e1;rw[QN.mpr (by simp at hv;omega)];rfl
   |some v=>
    obtain⟨y,hy,rfl⟩:=pv i v e1;rw[hy];rfl
  subst this;exact k l h' x hl gl
def aV(n:Int):List Nat:=(PJ (toString n)).cps.toList
theorem GE(n:Int):PJ (toString n)=Sx (aV n):=(rC _).symm
structure Num(n:Int)(d:List Nat):Prop where
 ne:d≠[]
 len:d.length<=40
 dig:∀c∈d,48<=c/\c<=57
 eq:aV n=if n<0 then 45::d else d
 rd:intText? (Sx (aV n))=some n
 lg:n.natAbs.log2<1920
theorem Oy(m:Nat)(hm:m<10 ^ 40):(Sw 10 m).map SF≠[]/\((Sw 10 m).map SF).length<=40/\∀c∈(Sw 10 m).map SF,48<=c/\c<=57:=by
 refine⟨λe=>?_,by rw[OP];exact toDigits_len_pow (by decide) (by decide) hm,λc hc=>?_⟩
 ·have h:=toDigits_len_ge 10 m;rw[List.map_eq_nil_iff.mp e]at h;exact absurd h (by decide)
 ·obtain⟨ch,fh,e⟩:=OU.mp hc;have r:=PyProof.Rows.digit_range (Nat.isDigit_of_mem_toDigits (by decide) (by decide) fh);rw[<-e];exact r
variable{n:Int}
theorem bR(h:n.natAbs<10 ^ 40):∃d,Num n d:=by
 have lg:n.natAbs.log2<1920:=by
  by_cases z:n.natAbs=0
  ·rw[z];decide
  ·exact(Nat.log2_lt z).mpr (RM h (by decide +kernel))
 obtain⟨a1,a2,a3⟩:=Oy n.natAbs h;have eq:aV n=if n<0 then 45::(Sw 10 n.natAbs).map SF else(Sw 10 n.natAbs).map SF:=by
  cases n with
  |ofNat m=>
   rw[if_neg (show ¬ Int.ofNat m<0 from Int.not_lt.mpr (Int.natCast_nonneg m))]
   exact PySem.W.KIN.signs_num m
  |negSucc m=>
   rw[if_pos (Int.negSucc_lt_zero m)];have e:=PySem.W.KIN.signs_num (m+1)
   show(PJ ("-" ++ toString (m+1))).cps.toList=45::(Sw 10 (m+1)).map SF
   rw[PyProof.Rows.signs_ofString]at e⊢;rw[String.toList_append,RW]
   show 45::(toString (m+1)).toList.map SF=_
   congr 1
 refine⟨(Sw 10 n.natAbs).map SF,a1,a2,a3,eq,?_,lg⟩
 by_cases z:n<0
 ·rw[if_pos z]at eq;rw[intText_neg (x:=Sx (aV n)) (by rw[cF];exact eq) a3 a1 (by rw[aF,eq,OZ];omega),PySem.W.KIN.val_back]
  congr 1
  omega
 ·rw[if_neg z]at eq;rw[intText_digits (x:=Sx (aV n)) (by rw[cF,eq];exact a3) (by rw[cF,eq];exact a1) (by rw[aF,eq];omega),cF,eq,PySem.W.KIN.val_back]
  congr 1
  omega
abbrev Seen:=List (Str×Int)
def ltS(a b:Str):Prop:=a.cps.toList<b.cps.toList
def look:Seen->Str->Option Int
 |[],_=>none
 |p::r,h=>if p.1=h then some p.2 else look r h
theorem qA(p:Str×Int)(r:Seen)(h:Str):look (p::r) h=if p.1=h then some p.2 else look r h:=(rfl)
def Asc(Sx:Seen):Prop:=Sx.Pairwise λa b=>ltS a.1 b.1
def dput(kvs:Seen)(h:Str)(n:Int):Seen:=if(look kvs h).isSome then kvs.map (λp=>if p.1=h then(p.1,n) else p) else kvs++[(h,n)]
def emb(kvs:Seen):List (Key×PV):=kvs.map λp=>(.inr p.1,.int p.2)
def row(p:Str×Int):List Key:=[.inr p.1,.inl p.2]
def sv(Sx:Seen):PV:=.tup (Sx.map λp=>.tup [.str p.1,.int p.2])
theorem lI(h:Str):∀kvs:Seen,cA (emb kvs) (.inr h)=(look kvs h).map PV.int
 |[]=>rfl
 |p::r=>by
  show cA ((Qx p.1,PV.int p.2)::emb r) (.inr h)=_
  unfold cA look
  by_cases e:p.1=h
  ·rw[if_pos e,if_pos (by rw[e])];rfl
  ·rw[if_neg e,if_neg (by simpa using e)];exact lI h r
theorem zF(kvs:Seen)(h:Str)(n:Int):oS (emb kvs) (.inr h) (.int n)=emb (dput kvs h n):=by
 unfold oS dput;rw[lI];cases look kvs h with
 |none=>simp[emb]
 |some m=>
  simp only[Option.map_some,RJ,if_true];unfold emb;rw[Ph,Ph];apply QL;intro p _
  by_cases e:p.1=h
  ·simp[e]
  ·simp[e]
theorem qB{Sx:Seen}{h:Str}:look Sx h=none ↔ ∀p∈Sx,p.1≠h:=by
 induction Sx with
 |nil=>simp[look]
 |cons p r ih=>
  unfold look
  by_cases e:p.1=h
  ·simp[e]
  ·simp[e,ih]
set_option tactic.hygienic true in
theorem AX{Sx:Seen}{h:Str}(e:look Sx h=some n):(h,n)∈Sx:=by
 induction Sx with
 |nil=>cases e
 |cons p r ih=>
  unfold look at e;split at e
  ·rename_i z;cases e
   rw[<-z];exact Pb
  ·exact OX _ (ih e)
variable{T:Seen}
theorem GF{Sx:Seen}{h:Str}:look (Sx++T) h=(look Sx h).or (look T h):=by
 induction Sx with
 |nil=>simp[look]
 |cons p r ih=>
  show look (p::(r++T)) h=_
  rw[qA,qA];split
  ·simp
  ·exact ih
theorem GG{Sx:Seen}{h h':Str}:look (Sx.map λp=>if p.1=h then(p.1,n) else p) h'=(look Sx h').map λm=>if h'=h then n else m:=by
 induction Sx with
 |nil=>rfl
 |cons p r ih=>
  rw[Pa]
  by_cases e:p.1=h
  ·rw[if_pos e];unfold look
   by_cases e':p.1=h'
   ·rw[if_pos e',if_pos e'];simp[<-e',e]
   ·rw[if_neg e',if_neg e'];exact ih
  ·rw[if_neg e];unfold look
   by_cases e':p.1=h'
   ·have:¬ h'=h:=λz=>e (e'.trans z);rw[if_pos e',if_pos e'];simp[this]
   ·rw[if_neg e',if_neg e'];exact ih
theorem AY(Sx:Seen)(h h':Str)(n:Int):look (dput Sx h n) h'=if h'=h then some n else look Sx h':=by
 unfold dput;cases e:look Sx h with
 |some m=>
  simp only[RJ,if_true];rw[GG]
  by_cases z:h'=h
  ·subst z;simp[e]
  ·simp[z]
 |none=>
  simp only[Option.isSome_none,Qb,if_false];rw[GF]
  by_cases z:h'=h
  ·subst z;simp[e,look]
  ·have z':¬ h=h':=λq=>z q.symm;simp[look,z,z']
theorem keys_map{Sx:Seen}{h:Str}:(Sx.map λp=>if p.1=h then(p.1,n) else p).map (·.1)=Sx.map (·.1):=by
 rw[Ph];apply QL;intro p _
 by_cases e:p.1=h <;> simp[e]
theorem Et{Sx:Seen}{h:Str}(hn:(Sx.map (·.1)).Nodup):((dput Sx h n).map (·.1)).Nodup:=by
 unfold dput;cases e:look Sx h with
 |some m=>simp only[RJ,if_true];rw[keys_map];exact hn
 |none=>
  simp only[Option.isSome_none,Qb,if_false];rw[RW,List.nodup_append];refine⟨hn,by simp,λx hx y hy=>?_⟩;obtain⟨p,hp,rfl⟩:=OU.mp hx;have:y=h:=by simpa using hy
  subst this;exact qB.mp e p hp
theorem Do{Sx:Seen}{h:Str}:(dput Sx h n).length<=Sx.length+1:=by
 unfold dput;split <;> simp
theorem AZ{Sx:Seen}(hn:(Sx.map (·.1)).Nodup){p:Str×Int}(hp:p∈Sx):look Sx p.1=some p.2:=by
 induction Sx with
 |nil=>cases hp
 |cons q r ih=>
  rw[Pa,Q2]at hn;unfold look;rcases KP.mp hp with rfl|hp
  ·simp
  ·have:¬ q.1=p.1:=λz=>hn.1 (z▸OU.mpr ⟨p,hp,rfl⟩);rw[if_neg this];exact ih hn.2 hp
def d1(one:Seen):Seen:=one.foldl (λacc p=>dput acc p.1 p.2) []
def Nq(acc:Seen)(p:Str×Int):Seen:=dput acc p.1 (if(look acc p.1).getD p.2>p.2 then(look acc p.1).getD p.2 else p.2)
def d2(one other:Seen):Seen:=other.foldl Nq (d1 one)
theorem Dp:∀(one:Seen)(acc:Seen),(one.map (·.1)).Nodup->∀h,look (one.foldl (λacc p=>dput acc p.1 p.2) acc) h=(look one h).or (look acc h)
 |[],acc,_,h=>by simp[look]
 |p::r,acc,hn,h=>by
  rw[Pa,Q2]at hn;rw[List.foldl_cons,Dp r _ hn.2,AY]
  show _=(look (p::r) h).or _
  rw[qA]
  by_cases e:p.1=h
  ·have:look r h=none:=qB.mpr λq hq z=>hn.1 (by rw[e,<-z];exact OU.mpr ⟨q,hq,rfl⟩);rw[if_pos e.symm,if_pos e,this];rfl
  ·rw[if_neg λz=>e z.symm,if_neg e]
def B0:List Key->Str×Int
 |[.inr x,.inl n]=>(x,n)
 |_=>("",0)
theorem GH{a b:Str}(h:a.cps.toList=b.cps.toList):a=b:=by
 obtain⟨x⟩:=a;obtain⟨y⟩:=b
 congr 1
 exact Array.toList_inj.mp h
theorem IP{a b:Str×Int}(h:dI (row b) (row a)=false)(d8:a.1≠b.1):ltS a.1 b.1:=by
 unfold row dI at h;rw[if_neg (λz=>d8 (by injection z with z;exact z.symm))]at h;have h':¬ b.1.cps.toList<a.1.cps.toList:=by simpa[keyLt] using h
 rcases Classical.em (a.1.cps.toList<b.1.cps.toList) with q|q
 ·exact q
 ·exact absurd (GH (List.le_antisymm h' q)) d8
theorem B1{D:Seen}(hn:(D.map (·.1)).Nodup):∃Sx:Seen,cE (D.map row)=Sx.map row/\Sx.Perm D/\Asc Sx:=by
 have hp:=dN (D.map row);have e1:(D.map row).map B0=D:=by
  rw[Ph]
  conv=>rhs;rw[<-List.map_id D]
  rfl
 have p2:((cE (D.map row)).map B0).Perm D:=by
  have:=hp.map B0
  rwa[e1]at this
 have e2:((cE (D.map row)).map B0).map row=cE (D.map row):=by
  rw[Ph]
  conv=>rhs;rw[<-List.map_id (cE (D.map row))]
  apply QL;intro z hz;obtain⟨p,_,rfl⟩:=OU.mp (hp.mem_iff.mp hz);rfl
 refine⟨_,e2.symm,p2,?_⟩;have s1:(cE (D.map row)).Pairwise (λa b=>dI b a=false):=gQ (S:=[false,true]) λy hy=>by
  obtain⟨p,_,rfl⟩:=OU.mp hy;rfl
 rw[<-e2,QM]at s1;have n1:(((cE (D.map row)).map B0).map (·.1)).Nodup:=(p2.map (·.1)).nodup_iff.mpr hn;unfold List.Nodup at n1;rw[QM]at n1;exact(s1.and n1).imp λ{a b} h=>IP h.1 h.2
theorem xD:∀Sx:Seen,nB (Sx.map λp=>PV.tup [.str p.1,.int p.2])=some (emb Sx)
 |[]=>rfl
 |p::r=>by
  rw[Pa];unfold nB;rw[xD r];rfl
theorem xE:∀(Sx acc:Seen),yP (emb acc) (emb Sx)=emb (Sx.foldl (λacc p=>dput acc p.1 p.2) acc)
 |[],_=>rfl
 |p::r,acc=>by
  show yP (oS (emb acc) (.inr p.1) (.int p.2)) (emb r)=_
  rw[zF,xE r];rfl
theorem Eu(D:Seen):C3 (D.map row)=true:=by
 cases D with
 |nil=>rfl
 |cons p r=>
  rw[Pa];unfold C3;rw[Pj];refine⟨rfl,Pp.mpr λz hz=>?_⟩;obtain⟨q,_,rfl⟩:=OU.mp hz;rfl
theorem Ew{n:Nat}{Sx:Seen}(e:h[n]?=some (.lst ((Sx.map row).map tP))):bY [.ref n] h=.ok (sv Sx) h:=by
 simp[bY,aO,e];unfold sv
 congr 1
variable{j:Int}
theorem GI{z:Str}(h0:0<=j)(h1:j<=z.length):(Rc z none (some j)).cps.toList=z.cps.toList.take j.toNat:=by
 have dj:j<=z.cps.toList.length:=by simpa[Str.length] using h1
 have e:Rc z none (some j)=⟨((z.cps.toList.drop 0).take (j-0).toNat).toArray⟩:=StrLaws.sliceText_to ⟨h0,dj⟩;rw[e];simp
theorem Ck{z:Str}(h0:0<=j)(h1:j<=z.length):(Rc z (some j) none).cps.toList=z.cps.toList.drop j.toNat:=by
 have dj:j<=z.cps.toList.length:=by simpa[Str.length] using h1
 have e:=StrLaws.sliceText_from (x:=z) ⟨h0,dj⟩;have e':Rc z (some j) none=_:=e;rw[e']
 show List.take _ _=_
 rw[List.take_of_length_le];rw[List.length_drop];omega
def Gv(f:Fn)(xs:List PV)(v:PV):Prop:=∀(h:PH)(Q:PV->PH->Prop),(∀h',Ext h h'->Q v h')->(f xs h).W Q
theorem GJ{m:Me}(e:m δ h=.ok (.str (Sx l)) h1)(ha:∀c∈l,c<128):tO m δ h=.ok ⟨l.map λc=>.str (Sx [c]),λ_=>true⟩ h1:=by
 unfold tO;rw[e]
 show ofStr (.str (Sx l)) h1=_
 unfold ofStr;have:((Sx l).cps.all λc=>decide (c<128))=true:=by
  simp only[List.all_toArray,Pp,decide_eq_true_eq];exact ha
 simp only[this,if_true,cF]
theorem Jm(sg:List Nat)(c:Nat):Txt.contains (Sx sg) (Sx [c])=decide (c∈sg):=by
 have:=StrLaws.found_one (Sx sg) c;rw[cF]at this;exact this
theorem all_true{n k:Nat}(g:h[n]?=some (.lst (P3 k (.bl true)))):Au [.ref n] h=.ok (.bl true) h:=by
 have e:P3 k (PV.bl true)=(P3 k true).map PV.bl:=by simp
 rw[e]at g;rw[G5 g]
 congr 2
 simp
theorem map_const{α:Type}(v:PV):∀ys:List α,ys.map (λ_=>v)=P3 ys.length v
 |[]=>rfl
 |_::r=>by rw[Pa,map_const v r];rfl
variable{most:Int}{sg:List Nat}
theorem dW(h1:1<=l.length)(h2:(l.length:Int)<=most)(h3:l.length<=1000)(hc:∀c∈l,c∈sg/\c<128):Gv bQ [.str (Sx l),.str (Sx sg),.int most] .non:=λh Q k=>by
 refine bB ?_;unfold gZ;have e1:(Sx l).length<=16777216:=by rw[aF];omega
 simp[tE e1,aF];rw[if_pos (by omega),if_pos h2];refine bN (δ:=[some (PV.str (Sx l)),some (PV.str (Sx sg)),some (PV.int most)]) l (λc=>.str (Sx [c])) (λ_=>.bl true) (GJ (h1:=h) (by simp) λc m=>(hc c m).2) (λ_ _=>rfl) (by omega) (λc m=>⟨[some (.str (Sx [c])),some (.str (Sx sg))],by simp[eE],λh' _ Q k=>?_⟩) λn h' x _ g=>?_
 ·simp[IF,Jm,(hc c m).1];exact k h' (Ext.refl _)
 ·rw[map_const]at g;rw[all_true g];simp;exact k h' x
structure Lw(n:Nat)(l:List Nat):Prop where
 ge:1<=l.length
 le:l.length<=n
 all:∀c∈l,97<=c/\c<=122
def dX:List Nat:=(Pm 26).map (97+·)
def zG:List Nat:=(Pm 10).map (48+·)
theorem gL:("abcdefghijklmnopqrstuvwxyz" : Str)=Sx dX:=by decide +kernel
theorem B2:("0123456789" : Str)=Sx zG:=by decide +kernel
theorem lJ(h:97<=c/\c<=122):c∈dX:=OU.mpr ⟨c-97,QX.mpr (by omega),by omega⟩
theorem B3(h:48<=c/\c<=57):c∈zG:=OU.mpr ⟨c-48,QX.mpr (by omega),by omega⟩
theorem pA(w:Lw 8 l):Gv eU [.str (Sx l)] (.str (Sx l)):=λh Q k=>by
 refine bB ?_;simp[kX,aN,gL];refine dW w.ge (by have:=w.le;omega) (by have:=w.le;omega) (λc m=>⟨lJ (w.all c m),by have:=w.all c m;omega⟩) h _ λh' x=>?_;exact k h' x
theorem zH(w:Lw 8 l):Gv lG [.str (Sx l)] (.str (Sx l)):=λh Q k=>by
 refine bB ?_;simp[lF,aN,gL];refine dW w.ge (by have:=w.le;omega) (by have:=w.le;omega) (λc m=>⟨lJ (w.all c m),by have:=w.all c m;omega⟩) h _ λh' x=>?_;exact k h' x
theorem B4(w:Lw 12 l):Gv jI [.str (Sx l)] (.str (Sx l)):=λh Q k=>by
 refine bB ?_;simp[nH,aN,gL];refine dW w.ge (by have:=w.le;omega) (by have:=w.le;omega) (λc m=>⟨lJ (w.all c m),by have:=w.all c m;omega⟩) h _ λh' x=>?_;exact k h' x
theorem dY{d:List Nat}(N:Num n d):Gv dC [.int n] (.str (Sx (aV n))):=λh Q k=>by
 refine bB ?_;simp[gR,jY,N.lg,GE];exact k h (Ext.refl _)
theorem bO{d:List Nat}(N:Num n d):(aV n).length<=41:=by
 have:=N.len;rw[N.eq];split
 ·rw[OZ];omega
 ·omega
theorem B5(l:List Nat)(c:Nat):QP (Sx l) (Sx [c])=decide (l.head?=some c):=by
 unfold QP;have w:(Sx [c]).length=1:=rfl;rw[StrLaws.subAt_eq,cF,w,aF,cF];cases l with
 |nil=>simp
 |cons a r=>
  simp;rfl
theorem cS:("-" : Str)=Sx [45]:=by decide +kernel
theorem GK(h:1<=l.length):Rc (Sx l) (some 1) none=Sx (l.drop 1):=by
 rw[<-rC (Rc (Sx l) (some 1) none),Ck (by omega) (by rw[aF];omega),cF];rfl
theorem Oz(h:1<=l.length):Rc (Sx l) none (some 1)=Sx (l.take 1):=by
 rw[<-rC (Rc (Sx l) none (some 1)),GI (by omega) (by rw[aF];omega),cF];rfl
theorem lK{d:List Nat}(N:Num n d):Gv eQ [.str (Sx (aV n))] (.int n):=λh Q k=>by
 refine bB ?_;have hl:=bO N;have e1:(Sx (aV n)).length<=16777216:=by rw[aF];omega
 have e2:(Sx (aV n)).length<=640:=by rw[aF];omega
 have n1:1<=d.length:=by have:=N.ne;cases d with|nil=>exact absurd rfl this|cons=>simp
 have nd:=N.len;have ck:Gv bQ [.str (Sx d),.str (Sx zG),.int 40] .non:=dW n1 (by omega) (by omega) λc m=>⟨B3 (N.dig c m),by have:=N.dig c m;omega⟩;simp[hJ,aN,B2,cS,B5,bG,AJ,N.rd,e2]
 by_cases z:n<0
 ·have e:aV n=45::d:=by rw[N.eq,if_pos z]
  have e3:Rc (Sx (aV n)) (some 1) none=Sx d:=by rw[GK (by rw[e];simp),e];rfl
  rw[if_pos (by rw[e];rfl),yN e1,aY,e3];refine ck h _ λh1 x1=>dY N h1 _ λh2 x2=>?_;simp[D5];exact k h2 (x1.trans x2)
 ·have e:aV n=d:=by rw[N.eq,if_neg z]
  have e3:¬ (aV n).head?=some 45:=by
   rw[e];cases d with
   |nil=>simp
   |cons a r=>
    intro q;have:=N.dig a (by simp);simp at q;omega
  rw[if_neg e3];rw[<-e]at ck;refine ck h _ λh1 x1=>dY N h1 _ λh2 x2=>?_;simp[D5];exact k h2 (x1.trans x2)
theorem pB{lo:Int}{d:List Nat}(N:Num n d)(h0:lo<=n):Gv gE [.int lo,.str (Sx (aV n))] (.int n):=λh Q k=>by
 refine bB ?_;simp[kY,aN];refine lK N h _ λh1 x1=>?_;simp;rw[if_neg (by omega)];exact k h1 x1
theorem lL{d:List Nat}(N:Num n d)(h0:1<=n):Gv fX [.str (Sx (aV n))] (.int n):=λh Q k=>by
 refine bB ?_;simp[nG];exact pB N h0 h _ k
theorem Cm{d:List Nat}(N:Num n d)(h0:0<=n):Gv iL [.str (Sx (aV n))] (.int n):=λh Q k=>by
 refine bB ?_;simp[pY];exact pB N h0 h _ k
theorem lX:("." : Str)=Sx [46]:=by decide +kernel
theorem B6(n:Int):PJ n.repr=Sx (aV n):=GE n
theorem Dq:Str.empty=Sx []:=rfl
theorem fL{d:List Nat}(N:Num n d)(hl:l.length<=100):Gv cM [.tup [.str (Sx l),.int n]] (.str (Sx (l++46::aV n))):=λh Q k=>by
 refine bB ?_;have:=bO N;simp[kQ,aN,mJn,AL,IE,N.lg,B6,lX,Dq,cO,aF,-List.append_toArray];exact⟨by omega,by omega,by omega,k h (Ext.refl _)⟩
theorem B7{n:Nat}(w:Lw n l):46∉l:=λm=>by have:=w.all 46 m;omega
theorem Lf{n:Nat}(w:Lw n l)(h:c<97):c∉l:=λm=>by have:=w.all c m;omega
theorem zI{d:List Nat}(w:Lw 8 l)(N:Num n d)(h0:1<=n):Gv cN [.str (Sx (l++46::aV n))] (.tup [.str (Sx l),.int n]):=λh Q k=>by
 refine bB ?_;have:=bO N;have:=w.le;have e:fW (.str (Sx (l++46::aV n))) [.str (Sx [46])] h=.ok (.tup [.str (Sx l),.str (Sx [46]),.str (Sx (aV n))]) h:=by
  unfold fW;dsimp only;rw[if_pos ⟨rfl,by rw[aF,aS];simp;omega⟩,pZ _ (B7 w)];rfl
 simp[kZ,aN,lX,bG,e];refine pA w h _ λh1 x1=>?_;refine lL N h0 h1 _ λh2 x2=>?_;exact k h2 (x1.trans x2)
theorem GL:∀ps:List (List Nat),tL (ps.map λl=>.str (Sx l))=some (ps.map Sx)
 |[]=>rfl
 |p::r=>by
  rw[Pa];unfold tL;rw[GL r];rfl
theorem fQ{z:List Nat}{B:Nat}:∀ps:List (List Nat),(∀p∈ps,p.length<=B)->(aH z ps).length<=ps.length*(B+z.length)
 |[],_=>by simp[aH]
 |[x],h=>by
  have:=h x (by simp);simp[aH];omega
 |x::y::r,h=>by
  have h1:=h x (by simp);have h2:=fQ (z:=z) (B:=B) (y::r) λp hp=>h p (by simp[hp]);rw[cP,Pf,Pf];rw[OZ,Nat.succ_mul];omega
variable{B:Nat}
theorem gM{n:Nat}{ps:List (List Nat)}(e:h[n]?=some (.lst (ps.map λl=>.str (Sx l))))(hB:∀p∈ps,p.length<=B)(hl:ps.length*(B+z.length)<=16777216):eC (.str (Sx z)) [.ref n] h=.ok (.str (Sx (aH z ps))) h:=by
 unfold eC;simp only[bV,e,GL];have h1:=fQ (z:=z) ps hB;rw[if_pos,Jl];constructor
 ·unfold L3;have:=StrLaws.joinTotal (Sx z) (ps.map Sx);have h2:=StrLaws.sumLen_le (B:=B) (ps.map Sx) λy hy=>by
   obtain⟨p,hp,rfl⟩:=OU.mp hy;rw[aF];exact hB p hp
  rw[aF,OP]at this;rw[OP]at h2;have e2:ps.length*(B+z.length)=ps.length*B+ps.length*z.length:=Nat.mul_add ..;rw[aS];refine PD (Nat.le_of_eq ?_) (PD (Nat.add_le_add_right h2 _) (e2▸hl));rw[<-this,aF]
 ·rw[Jl,aF,aS];omega
theorem pC{ps:List (List Nat)}(hc:c<256)(e:aK c (l.length+1) l=ps)(h1:l.length<=16777216)(h2:ps.length<=16777216):eG (.str (Sx l)) [.str (Sx [c])] h=.ok (.ref h.length) (h++[.lst (ps.map λl=>.str (Sx l))]):=by
 unfold eG;dsimp only;have e2:spl (Sx l) (Sx [c]) ((Sx l).length+1)=ps.map Sx:=by rw[Dm hc,aF,e]
 rw[e2,if_pos ⟨rfl,by rw[aF,aS];exact h1,by rw[OP,aS];exact h2⟩,Ph];rfl
theorem xF{ps:List (List Nat)}(hc:c<256)(hm:m<1000)(e:aK c m l=ps)(h1:l.length<=16777216)(h2:ps.length<=16777216):fE (.str (Sx l)) [.str (Sx [c]),.int m] h=.ok (.ref h.length) (h++[.lst (ps.map λl=>.str (Sx l))]):=by
 unfold fE;dsimp only;have e2:spl (Sx l) (Sx [c]) (limitOf (Sx l) m)=ps.map Sx:=by
  rw[show limitOf (Sx l) m=m by unfold limitOf;rw[if_neg (by omega)];rfl,Dm hc,e]
 rw[e2,if_pos ⟨by
  rw[Bool.or_eq_false_iff];exact⟨decide_eq_false (by omega),decide_eq_false (by omega)⟩,rfl,by rw[aF,aS];exact h1,by rw[OP,aS];exact h2⟩,Ph]
 rfl
theorem lY{ps:List (List Nat)}(d8:ps≠[])(hf:∀p∈ps,c∉p)(hm:ps.length<=m):aK c m (aH [c] ps)=ps:=by
 obtain⟨a,q,rfl⟩:∃a q,ps=a++[q]:=⟨ps.dropLast,ps.getLast d8,(List.dropLast_concat_getLast d8).symm⟩;refine gK a q m (λp hp=>hf p (by simp[hp])) (.inr ⟨?_,hf q (by simp)⟩);simp at hm;omega
theorem lM{z:List Nat}(hz:1<=z.length):∀ps:List (List Nat),ps.length<=(aH z ps).length+1
 |[]=>by simp[aH]
 |[x]=>by simp
 |x::y::r=>by
  have:=lM hz (y::r);rw[cP,Pf,Pf,OZ];omega
abbrev Nm:=List Nat×Int
def nmV(p:Nm):PV:=.tup [.str (Sx p.1),.int p.2]
def nmT(p:Nm):List Nat:=p.1++46::aV p.2
structure jZ(p:Nm):Prop where
 w:Lw 8 p.1
 ge:1<=p.2
 le:p.2.natAbs<10 ^ 40
theorem lZ{d:List Nat}(N:Num n d):∀c∈aV n,c=45\/(48<=c/\c<=57):=λc m=>by
 rw[N.eq]at m;split at m
 ·rcases KP.mp m with rfl|m
  ·exact .inl rfl
  ·exact .inr (N.dig c m)
 ·exact .inr (N.dig c m)
theorem fY{d:List Nat}(N:Num n d)(h:0<=n):∀c∈aV n,48<=c/\c<=57:=λc m=>by
 rw[N.eq,if_neg (by omega)]at m;exact N.dig c m
theorem eK{p:Nm}(o:jZ p):∀c∈nmT p,46<=c/\c<=57/\c≠47\/(97<=c/\c<=122):=λc m=>by
 obtain⟨d,N⟩:=bR o.le;rcases Pr.mp m with m|m
 ·exact .inr (o.w.all c m)
 ·rcases KP.mp m with rfl|m
  ·exact .inl (by omega)
  ·have:=fY N (by have:=o.ge;omega) c m;exact .inl (by omega)
theorem jQ{p:Nm}(o:jZ p):(nmT p).length<=50:=by
 obtain⟨d,N⟩:=bR o.le;have:=bO N;have:=o.w.le;unfold nmT;rw[Pf,OZ];omega
def snV(s:List Nm):PV:=.tup (s.map nmV)
def snT(s:List Nm):List Nat:=if s=[] then[45] else aH [44] (s.map nmT)
theorem zJ{p:Nm}(o:jZ p):Gv cM [nmV p] (.str (Sx (nmT p))):=by
 obtain⟨d,N⟩:=bR o.le;exact fL N (by have:=o.w.le;omega)
theorem zK{p:Nm}(o:jZ p):Gv cN [.str (Sx (nmT p))] (nmV p):=by
 obtain⟨d,N⟩:=bR o.le;exact zI o.w N o.ge
theorem iO:("," : Str)=Sx [44]:=by decide +kernel
variable{s:List Nm}
theorem rR(ho:∀p∈s,jZ p)(hl:s.length<=10):(snT s).length<=510:=by
 unfold snT;split
 ·simp
 ·have:=fQ (z:=[44]) (B:=50) (s.map nmT) λq hq=>by
   obtain⟨p,hp,rfl⟩:=OU.mp hq;exact jQ (ho p hp)
  rw[OP]at this;simp at this;omega
theorem zL(ho:∀p∈s,jZ p)(hl:s.length<=10):Gv kR [snV s] (.str (Sx (snT s))):=λh Q k=>by
 refine bB ?_;unfold snT at k;cases s with
 |nil=>
  simp[gB,snV,cS]at k⊢;exact k h (Ext.refl _)
 |cons a r=>
  rw[if_neg (by simp)]at k;simp[gB,snV,iO,bG];have e:bH (mV 0) [some (PV.tup (nmV a::r.map nmV))] h=.ok ⟨(a::r).map nmV,λ_=>true⟩ h:=iJ (by simp);refine bN (a::r) nmV (λp=>.str (Sx (nmT p))) e (λ_ _=>rfl) (by omega) (λp m=>⟨[some (nmV p)],by simp[eE],λh' _ Q k=>?_⟩) λn h' x _ g=>?_
  ·simp;exact zJ (ho p m) h' Q k
  ·have g:h'[n]?=some (.lst (((a::r).map nmT).map λl=>.str (Sx l))):=by rw[Ph];exact g
   rw[gM (B:=50) g (λq hq=>by
    obtain⟨p,hp,rfl⟩:=OU.mp hq;exact jQ (ho p hp)) (by rw[OP];simp only[OZ,P0]at hl⊢;omega),aY]
   exact k h' x
variable{ss:List Str}
theorem Ex(h:ss.Pairwise λa b=>a.cps.toList<b.cps.toList):kN (ddT ss)=ss:=by
 have nd:ss.Nodup:=h.imp λ{a b} q e=>by rw[e]at q;exact List.lt_irrefl _ q
 refine(wV ?_ ?_).symm
 ·exact(List.perm_ext_iff_of_nodup nd (L5 ss)).mpr λx=>(IB ss x).symm
 ·exact h.imp λ{a b} q=>List.lt_asymm q
theorem Lg(z:s≠[]):¬ snT s=[45]:=by
 intro q;have e:snT s=aH [44] (s.map nmT):=by unfold snT;rw[if_neg z]
 have m:(46:Nat)∈snT s:=by
  rw[e];cases s with
  |nil=>exact absurd rfl z
  |cons a r=>
   have:(46:Nat)∈nmT a:=PB _ (Pb ..);cases r with
   |nil=>exact this
   |cons b r=>exact Rl _ (Rl _ this)
 rw[q]at m;simp at m
theorem zM(ho:∀p∈s,jZ p)(hl:s.length<=10)(hr:s.Pairwise λp q=>p.1<q.1):Gv lA [.str (Sx (snT s))] (snV s):=λh Q k=>by
 refine bB ?_
 by_cases z:s=[]
 ·subst z;have e:snT []=[45]:=rfl;rw[e];simp[gF,aN,cS]at k⊢;exact k h (Ext.refl _)
 ·have hlen:=rR ho hl;have e:snT s=aH [44] (s.map nmT):=by unfold snT;rw[if_neg z]
  have e1:=Lg z;have e2:aK 44 ((snT s).length+1) (snT s)=s.map nmT:=by
   rw[e];refine lY (by simpa using z) (λp hp=>?_) (lM (by simp) _)
   obtain⟨q,hq,rfl⟩:=OU.mp hp;intro m;have:=eK (ho q hq) 44 m;omega
  have e3:=pC (h:=h) (by decide:44<256) e2 (by omega) (by rw[OP];omega);simp only[gF];simp[aN,cS,Le,e1,iO,bG];have x0:Ext h (h++[MO.lst ((s.map nmT).map λl=>.str (Sx l))]):=Ext.app _ _;have g0:(h++[MO.lst ((s.map nmT).map λl=>.str (Sx l))])[h.length]?=some (.lst ((s.map nmT).map λl=>.str (Sx l))):=aX;have e4:bH (mMt bG eG (mV 0) (aA (mC (PV.str (Sx [44]))) aC)) [some (PV.str (Sx (snT s))),none,none] h=.ok ⟨(s.map nmT).map λl=>.str (Sx l),sY h.length ((s.map nmT).map λl=>.str (Sx l))⟩ (h++[MO.lst ((s.map nmT).map λl=>.str (Sx l))]):=oP (by simp[bG,e3]) g0;generalize h++[MO.lst ((s.map nmT).map λl=>.str (Sx l))]=h0 at x0 g0 e4;have lg:=oQ g0;rw[Ph]at e4;rw[Ph]at lg;refine bN s (λp=>.str (Sx (nmT p))) nmV e4 lg (by omega) (λp m=>⟨[some (.str (Sx (nmT p)))],by simp[eE],λh' _ Q k=>?_⟩) λn h1 x1 _ g1=>?_
  ·simp;exact zK (ho p m) h' Q k
  have e5:bH (mV 1) [some (PV.str (Sx (snT s))),some (.ref n),none] h1=.ok ⟨s.map nmV,sY n (s.map nmV)⟩ h1:=oP (by simp) g1;refine bN s nmV (λp=>.str (Sx p.1)) e5 (oQ g1) (by omega) (λp m=>⟨[some (.str (Sx p.1)),some (.int p.2)],by simp[eE,nmV],λh' _ Q k=>?_⟩) λn2 h2 x2 _ g2=>?_
  ·simp;exact k h' (Ext.refl _)
  have g2:h2[n2]?=some (.lst ((s.map λp=>Sx p.1).map PV.str)):=by rw[Ph];exact g2
  have sr:kN (ddT (s.map λp=>Sx p.1))=s.map λp=>Sx p.1:=Ex (by
   rw[QM];exact hr.imp λ{p q} hh=>by rw[cF,cF];exact hh)
  have s1:=AF g2 (by rw[OP];omega);rw[sr]at s1;have g3:(h2++[MO.lst ((s.map λp=>Sx p.1).map PV.str)])[n2]?=some (.lst ((s.map λp=>Sx p.1).map PV.str)):=Ext.app _ _ _ _ g2;have g4:(h2++[MO.lst ((s.map λp=>Sx p.1).map PV.str)])[h2.length]?=some (.lst ((s.map λp=>Sx p.1).map PV.str)):=aX;have pl:((s.map λp=>Sx p.1).map PV.str).all (PV.pl 39)=true:=by
   rw[Pp];intro q hq;obtain⟨y,_,rfl⟩:=OU.mp hq;rfl
  have ne:=Im g3 g4 pl pl;have x3:Ext h2 (h2++[MO.lst ((s.map λp=>Sx p.1).map PV.str)]):=Ext.app _ _;simp only[s1,aY,ne,decide_true,Bool.not_true,yL,Qb,if_false];generalize h2++[MO.lst ((s.map λp=>Sx p.1).map PV.str)]=h3 at x3;have g5:=x3 _ _ (x2 _ _ g1);simp[bY,aO,g5];exact k h3 (((x0.trans x1).trans x2).trans x3)
structure Stp where
 s:Int
 h:List Nat
 n:Int
 k:Int
def stV(x:Stp):PV:=.tup [.int x.s,.str (Sx x.h),.int x.n,.int x.k]
def sdC(s:Int):Nat:=if s=-1 then 60 else 62
def tlT(x:Stp):List Nat:=aH [46] [x.h,aV x.n,aV x.k]
def stT(x:Stp):List Nat:=sdC x.s::tlT x
structure qC(x:Stp):Prop where
 s:x.s=1\/x.s=-1
 w:Lw 8 x.h
 n1:1<=x.n
 n2:x.n.natAbs<10 ^ 40
 k1:0<=x.k
 k2:x.k<=11
variable{x:Stp}
theorem qC.nk(o:qC x):∃d e,Num x.n d/\Num x.k e:=by
 obtain ⟨d,N⟩:=bR o.n2;obtain ⟨e,M⟩:=bR (n:=x.k) (by have:=o.k1; have:=o.k2; have:x.k.natAbs<=11:=(by omega);exact Nat.lt_of_le_of_lt this (by decide +kernel))
 exact⟨d,e,N,M⟩
theorem Cn(x:Stp):tlT x=x.h++46::(aV x.n++46::aV x.k):=by
 unfold tlT;simp[aH]
theorem mB(o:qC x):∀c∈tlT x,46<=c/\c<=57/\c≠47\/(97<=c/\c<=122):=λc m=>by
 obtain⟨d,e,N,M⟩:=o.nk;rw[Cn]at m;simp only[Pr,KP]at m;rcases m with m|m|m|m|m
 ·exact .inr (o.w.all c m)
 ·exact .inl (by omega)
 ·have:=fY N (by have:=o.n1;omega) c m;exact .inl (by omega)
 ·exact .inl (by omega)
 ·have:=fY M o.k1 c m;exact .inl (by omega)
theorem zN(o:qC x):(tlT x).length<=95:=by
 obtain⟨d,e,N,M⟩:=o.nk;have:=bO N;have:=bO M;have:=o.w.le;rw[Cn];simp;omega
theorem pD(o:qC x):(stT x).length<=96:=by
 have:=zN o;unfold stT;rw[OZ];omega
theorem qD:("<" : Str)=Sx [60]:=by decide +kernel
theorem qE:(">" : Str)=Sx [62]:=by decide +kernel
set_option tactic.hygienic true in
theorem jR(s:Int):Gv eS [.int s] (.str (Sx [sdC s])):=λh Q k=>by
 refine bB ?_;unfold sdC at k;simp[kT,qD,qE];split
 ·rename_i e;rw[if_pos e]at k;exact k h (Ext.refl _)
 ·rename_i e;rw[if_neg e]at k;exact k h (Ext.refl _)
theorem zO(o:qC x):Gv kW [stV x] (.str (Sx (stT x))):=λh Q k=>by
 refine bB ?_;obtain⟨d,e,N,M⟩:=o.nk;have:=bO N;have:=bO M;have:=o.w.le;simp[kU,aN,stV];refine jR x.s h _ λh1 x1=>?_;simp[mJn,AL,IE,N.lg,M.lg,B6,lX,Dq,cO,aF,-List.append_toArray];refine⟨by omega,by omega,by omega,by omega,by omega,?_⟩;rw[aU (by rw[aF,aF];simp;omega),aY,cO];have:[sdC x.s]++(x.h++46::(aV x.n++46::aV x.k))=stT x:=by unfold stT;rw[Cn];rfl
 simpa[this] using k h1 x1
theorem jS{s:Int}(hs:s=1\/s=-1):Gv eV [.str (Sx [sdC s])] (.int s):=λh Q k=>by
 refine bB ?_;have pl:([PV.str (Sx [60]),.str (Sx [62])]:List PV).all (PV.pl 39)=true:=rfl;rcases hs with rfl|rfl
 ·have e:sdC 1=62:=rfl;rw[e];simp[gG,aN,qD,qE,mZ (x:=.str (Sx [62])) rfl pl];exact k h (Ext.refl _)
 ·have e:sdC (-1)=60:=rfl;rw[e];simp[gG,aN,qD,qE,mZ (x:=.str (Sx [60])) rfl pl];exact k h (Ext.refl _)
theorem zP(o:qC x):Gv lE [.str (Sx (stT x))] (stV x):=λh Q k=>by
 refine bB ?_;obtain⟨d,e,N,M⟩:=o.nk;have hl:=pD o;have e1:Rc (Sx (stT x)) (some 1) none=Sx (tlT x):=GK (by unfold stT;simp);have e2:Rc (Sx (stT x)) none (some 1)=Sx [sdC x.s]:=Oz (by unfold stT;simp);have e3:aK 46 ((tlT x).length+1) (tlT x)=[x.h,aV x.n,aV x.k]:=by
  unfold tlT;refine lY (by simp) (λp hp=>?_) (lM (by simp) _);simp only[KP,Pk,or_false]at hp;rcases hp with rfl|rfl|rfl
  ·exact B7 o.w
  ·exact λm=>by have:=fY N (by have:=o.n1;omega) 46 m;omega
  ·exact λm=>by have:=fY M o.k1 46 m;omega
 have e4:=pC (h:=h) (by decide:46<256) e3 (by have:=zN o;omega) (by simp);have ls:(Sx (stT x)).length<=16777216:=by rw[aF];omega
 have x0:Ext h (h++[MO.lst ([x.h,aV x.n,aV x.k].map λl=>.str (Sx l))]):=Ext.app _ _;have g0:(h++[MO.lst ([x.h,aV x.n,aV x.k].map λl=>.str (Sx l))])[h.length]?=some (.lst ([x.h,aV x.n,aV x.k].map λl=>.str (Sx l))):=aX;simp only[lD];simp only[aN,CU];have e5:(mMt bG eG (mSl (mV 0) (mP (mC (.int 1))) mU) (aA (mC (.str ".")) aC)) [some (.str (Sx (stT x))),none,none,none,none,none] h=.ok (.ref h.length) (h++[MO.lst ([x.h,aV x.n,aV x.k].map λl=>.str (Sx l))]):=by
  simp only[FW,FV,jW,bM,Rs.bind_ok,Jf,kI,tB,CY,yN ls,e1,bG,if_true,kJ,oK,lX,e4]
 have δe:(List.map some [PV.str (Sx (stT x))]++P3 (6 - [PV.str (Sx (stT x))].length) none)=[some (.str (Sx (stT x))),none,none,none,none,none]:=rfl;rw[δe,e5,aY];generalize h++[MO.lst ([x.h,aV x.n,aV x.k].map λl=>.str (Sx l))]=h0 at x0 g0;generalize h.length=n0 at g0;have gl:=oO g0;simp[gl,yN ls,e2];refine jS o.s h0 _ λh1 x1=>?_;rw[dH (x1 _ _ g0)]
 show(ofO (some (.str (Sx x.h))) h1).W _
 rw[cZ,aY];refine pA o.w h1 _ λh2 x2=>?_;rw[dH (x2 _ _ (x1 _ _ g0))]
 show(ofO (some (.str (Sx (aV x.n)))) h2).W _
 rw[cZ,aY];refine lL N o.n1 h2 _ λh3 x3=>?_;rw[dH (x3 _ _ (x2 _ _ (x1 _ _ g0)))]
 show(ofO (some (.str (Sx (aV x.k)))) h3).W _
 rw[cZ,aY];refine Cm M o.k1 h3 _ λh4 x4=>?_;have:=o.k2;simp;rw[if_neg (by omega)];exact k h4 ((((x0.trans x1).trans x2).trans x3).trans x4)
abbrev Pl:=List Stp
def plV(p:Pl):PV:=.tup (p.map stV)
def plT(p:Pl):List Nat:=if p=[] then[45] else p.flatMap stT
structure dJ(p:Pl):Prop where
 ok:∀x∈p,qC x
 le:p.length<=64
 hd:∀x r,p=x::r->x.s=1
theorem qF:∀ps:List (List Nat),aH [] ps=ps.flatten
 |[]=>rfl
 |[x]=>by simp[aH]
 |x::y::r=>by rw[cP,qF (y::r)];simp
theorem uB{B:Nat}:∀ps:List (List Nat),(∀p∈ps,p.length<=B)->ps.flatten.length<=ps.length*B
 |[],_=>by simp
 |x::r,h=>by
  have h1:=h x (by simp);have h2:=uB (B:=B) r λp hp=>h p (by simp[hp]);rw[List.flatten_cons,Pf,OZ,Nat.succ_mul];omega
variable{p:Pl}
theorem dZ(o:dJ p):(plT p).length<=6144:=by
 unfold plT;split
 ·simp
 ·have:=uB (B:=96) (p.map stT) λq hq=>by
   obtain⟨x,hx,rfl⟩:=OU.mp hq;exact pD (o.ok x hx)
  rw[OP]at this;have:=o.le;rw[List.flatMap];omega
theorem cT:("" : Str)=Sx []:=by decide +kernel
theorem eR(o:dJ p):Gv cR [plV p] (.str (Sx (plT p))):=λh Q k=>by
 refine bB ?_;unfold plT at k
 by_cases z:p=[]
 ·subst z;simp[fF,plV,cS]at k⊢;exact k h (Ext.refl _)
 ·rw[if_neg z]at k;have hle:=o.le;have z':(p.map stV).isEmpty=false:=by cases p with|nil=>exact absurd rfl z|cons=>rfl
  simp[fF,plV,cT,bG,z'];have e:bH (mV 0) [some (PV.tup (p.map stV))] h=.ok ⟨p.map stV,λ_=>true⟩ h:=iJ (by simp);refine bN p stV (λx=>.str (Sx (stT x))) e (λ_ _=>rfl) (by omega) (λx m=>⟨[some (stV x)],by simp[eE],λh' _ Q k=>?_⟩) λn h' x _ g=>?_
  ·simp;exact zO (o.ok x m) h' Q k
  ·have g:h'[n]?=some (.lst ((p.map stT).map λl=>.str (Sx l))):=by rw[Ph];exact g
   rw[gM (B:=96) (z:=[]) g (λq hq=>by
    obtain⟨p,hp,rfl⟩:=OU.mp hq;exact pD (o.ok p hp)) (by rw[OP];simp;omega),aY,qF]
   exact k h' x
theorem Ey(o:qC x):dF 62 [10,62] (dF 60 [10,60] (stT x))=10::stT x:=by
 have f1:60∉tlT x:=λm=>by have:=mB o 60 m;omega
 have f2:62∉tlT x:=λm=>by have:=mB o 62 m;omega
 have e1:dF 60 [10,60] (stT x)=(if sdC x.s=60 then[10,60] else[sdC x.s])++tlT x:=by
  show dF 60 [10,60] ([sdC x.s]++tlT x)=_
  rw[lW,jP f1];simp[dF]
 rw[e1,lW,jP f2];rcases o.s with q|q
 ·rw[q];have:sdC 1=62:=rfl;unfold stT;rw[q,this];rfl
 ·rw[q];have:sdC (-1)=60:=rfl;unfold stT;rw[q,this];rfl
theorem uC:∀{p:Pl},(∀x∈p,qC x)->dF 62 [10,62] (dF 60 [10,60] (p.flatMap stT))=(p.map stT).flatMap λl=>10::l
 |[],_=>rfl
 |x::r,o=>by
  rw[List.flatMap_cons,lW,lW,Ey (o x (by simp)),uC λy hy=>o y (by simp[hy])];simp
theorem Dr:∀ps:List (List Nat),ps≠[]->(ps.flatMap λl=>10::l)=aH [10] ([]::ps)
 |[],h=>absurd rfl h
 |[x],_=>by simp[aH]
 |x::y::r,_=>by
  rw[List.flatMap_cons,Dr (y::r) (by simp)];simp[aH]
theorem Lh:("\n" : Str)=Sx [10]:=by decide +kernel
theorem IQ:("\n<" : Str)=Sx [10,60]:=by decide +kernel
theorem IR:("\n>" : Str)=Sx [10,62]:=by decide +kernel
theorem xG{c:Nat}{z:List Nat}:∀l:List Nat,(dF c z l).length<=l.length*(z.length+1)
 |[]=>by simp[dF]
 |d::l=>by
  have:=xG (c:=c) (z:=z) l;unfold dF at this⊢;rw[List.flatMap_cons,Pf,OZ,Nat.succ_mul];split
  ·omega
  ·rw[List.length_singleton];omega
theorem Nr(o:dJ p)(z:p≠[])(h:PH):AS ">" "<" "\n<" ">" "\n>" "\n" (.str (Sx (plT p))) h=.ok (.ref h.length) (h++[.lst (([]::p.map stT).map λl=>.str (Sx l))]):=by
 have hl:=dZ o;have e:plT p=p.flatMap stT:=by unfold plT;rw[if_neg z]
 unfold AS;dsimp only;rw[qE,qD,Lh,IQ,IR,GD,GD,B5];have hd:(plT p).head?=some 62:=by
  rw[e];cases p with
  |nil=>exact absurd rfl z
  |cons x r=>
   have:=o.hd x r rfl
   show some (sdC x.s)=_
   rw[this];rfl
 have l1:=xG (c:=60) (z:=[10,60]) (plT p);simp only[OZ,P0]at l1;rw[if_pos ⟨by rw[hd];rfl,by rw[aF,aF];simp only[OZ,P0];omega,by rw[aF,aF];simp only[OZ,P0];omega⟩];have e1:dF 62 [10,62] (dF 60 [10,60] (plT p))=aH [10] ([]::p.map stT):=by
  rw[e,uC o.ok,Dr _ (by simpa using z)]
 rw[e1];have l2:=fQ (z:=[10]) (B:=96) ([]::p.map stT) λq hq=>by
  rcases KP.mp hq with rfl|hq
  ·simp
  ·obtain⟨x,hx,rfl⟩:=OU.mp hq;exact pD (o.ok x hx)
 simp only[OZ,P0,OP]at l2;have hle:=o.le;refine pC (by decide) (lY (by simp) (λq hq=>?_) (lM (by simp) _)) (by omega) (by simp;omega);rcases KP.mp hq with rfl|hq
 ·simp
 ·obtain⟨x,hx,rfl⟩:=OU.mp hq;intro m;rcases KP.mp m with m|m
  ·unfold sdC at m;split at m <;> cases m
  ·have:=mB (o.ok x hx) 10 m;omega
theorem hW(o:dJ p)(z:p≠[]):Gv dU [.str (Sx (plT p))] (plV p):=λh Q k=>by
 refine bB ?_;have hle:=o.le;simp only[jJ,II];simp only[aN,CU];have x0:Ext h (h++[MO.lst (([]::p.map stT).map λl=>.str (Sx l))]):=Ext.app _ _;have g0:(h++[MO.lst (([]::p.map stT).map λl=>.str (Sx l))])[h.length]?=some (.lst (([]::p.map stT).map λl=>.str (Sx l))):=aX;have e5:(mUn (AS ">" "<" "\n<" ">" "\n>" "\n") (mV 0)) [some (.str (Sx (plT p))),none] h=.ok (.ref h.length) (h++[MO.lst (([]::p.map stT).map λl=>.str (Sx l))]):=by
  simp only[KN,jW,bM,Rs.bind_ok,Nr o z]
 have δe:(List.map some [PV.str (Sx (plT p))]++P3 (2 - [PV.str (Sx (plT p))].length) none)=[some (.str (Sx (plT p))),none]:=rfl;rw[δe,e5,aY];generalize h++[MO.lst (([]::p.map stT).map λl=>.str (Sx l))]=h0 at x0 g0;generalize h.length=n0 at g0;have sl:=D6 (lo:=some 1) (hi:=none) g0;have e6:iY (([]::p.map stT).map λl=>PV.str (Sx l)) (some 1) none=p.map λx=>.str (Sx (stT x)):=by
  rw[tH (by omega)]
  show List.drop 1 _=_
  rw[Pa,List.drop_succ_cons,List.drop_zero,Ph];rfl
 rw[e6]at sl;have x1:Ext h0 (h0++[MO.lst (p.map λx=>.str (Sx (stT x)))]):=Ext.app _ _;have g1:(h0++[MO.lst (p.map λx=>.str (Sx (stT x)))])[h0.length]?=some (.lst (p.map λx=>.str (Sx (stT x)))):=aX;have e7:bH (mSl (mV 1) (mP (mC (PV.int 1))) mU) [some (PV.str (Sx (plT p))),some (.ref n0)] h0=.ok ⟨p.map λx=>.str (Sx (stT x)),sY h0.length (p.map λx=>.str (Sx (stT x)))⟩ (h0++[MO.lst (p.map λx=>.str (Sx (stT x)))]):=oP (by simp[sl]) g1;generalize h0++[MO.lst (p.map λx=>.str (Sx (stT x)))]=h1 at x1 g1 e7;simp;refine bN p (λx=>.str (Sx (stT x))) stV e7 (oQ g1) (by omega) (λx m=>⟨[some (.str (Sx (stT x)))],by simp[eE],λh' _ Q k=>?_⟩) λn h2 x2 _ g2=>?_
 ·simp;exact zP (o.ok x m) h' Q k
 ·simp[bY,aO,g2];exact k h2 ((x0.trans x1).trans x2)
theorem Li(o:dJ p)(z:p≠[]):¬ plT p=[45]:=by
 intro q;have e:plT p=p.flatMap stT:=by unfold plT;rw[if_neg z]
 rw[e]at q;cases p with
 |nil=>exact absurd rfl z
 |cons x r=>
  have:sdC x.s=45:=by
   have:=congrArg List.head? q;simpa[stT] using this
  unfold sdC at this;split at this <;> cases this
theorem mK(o:dJ p):Gv fH [.str (Sx (plT p))] (plV p):=λh Q k=>by
 refine bB ?_
 by_cases z:p=[]
 ·subst z;have e:plT []=[45]:=rfl;rw[e];simp[fG,cS,plV]at k⊢;exact k h (Ext.refl _)
 ·simp[fG,cS,Le,Li o z];exact hW o z h Q k
def B8(ps:List Pl):PV:=.tup (ps.map plV)
def hZ(ps:List Pl):List Nat:=aH [44] (ps.map plT)
theorem uD{ps:List Pl}(o:∀p∈ps,dJ p)(hl:ps.length<=40):Gv gW [B8 ps] (.str (Sx (hZ ps))):=λh Q k=>by
 refine bB ?_;simp[gU,B8,iO,bG];have e:bH (mV 0) [some (PV.tup (ps.map plV))] h=.ok ⟨ps.map plV,λ_=>true⟩ h:=iJ (by simp);refine bN ps plV (λx=>.str (Sx (plT x))) e (λ_ _=>rfl) (by omega) (λx m=>⟨[some (plV x)],by simp[eE],λh' _ Q k=>?_⟩) λn h' x _ g=>?_
 ·simp;exact eR (o x m) h' Q k
 ·have g:h'[n]?=some (.lst ((ps.map plT).map λl=>.str (Sx l))):=by rw[Ph];exact g
  rw[gM (B:=6144) (z:=[44]) g (λq hq=>by
   obtain⟨p,hp,rfl⟩:=OU.mp hq;exact dZ (o p hp)) (by rw[OP];simp;omega),aY]
  exact k h' x
theorem cU(o:dJ p):∀c∈plT p,c=45\/c=60\/c=62\/(46<=c/\c<=57/\c≠47)\/(97<=c/\c<=122):=λc m=>by
 unfold plT at m;split at m
 ·exact .inl (by simpa using m)
 ·obtain⟨x,hx,m⟩:=List.mem_flatMap.mp m;rcases KP.mp m with m|m
  ·unfold sdC at m;split at m <;> omega
  ·have:=mB (o.ok x hx) c m;omega
theorem uE{ps:List Pl}(o:∀p∈ps,dJ p)(hl:ps.length<=40):(hZ ps).length<=245800:=by
 have:=fQ (z:=[44]) (B:=6144) (ps.map plT) λq hq=>by
  obtain⟨p,hp,rfl⟩:=OU.mp hq;exact dZ (o p hp)
 unfold hZ;simp at this;omega
theorem uF{ps:List Pl}(o:∀p∈ps,dJ p)(hn:∀p∈ps,p≠[])(hl:ps.length<=40)(z:ps≠[]):Gv hV [.str (Sx (hZ ps))] (B8 ps):=λh Q k=>by
 refine bB ?_;have l0:=uE o hl;have e2:aK 44 ((hZ ps).length+1) (hZ ps)=ps.map plT:=by
  unfold hZ;refine lY (by simpa using z) (λq hq=>?_) (lM (by simp) _)
  obtain⟨p,hp,rfl⟩:=OU.mp hq;intro m;have:=cU (o p hp) 44 m;omega
 have e3:=pC (h:=h) (by decide:44<256) e2 (by omega) (by rw[OP];omega);simp only[hU];simp only[aN,CU];have x0:Ext h (h++[MO.lst ((ps.map plT).map λl=>.str (Sx l))]):=Ext.app _ _;have g0:(h++[MO.lst ((ps.map plT).map λl=>.str (Sx l))])[h.length]?=some (.lst ((ps.map plT).map λl=>.str (Sx l))):=aX;have e5:(mMt bG eG (mV 0) (aA (mC (.str ",")) aC)) [some (.str (Sx (hZ ps))),none] h=.ok (.ref h.length) (h++[MO.lst ((ps.map plT).map λl=>.str (Sx l))]):=by
  simp only[FW,jW,bM,Rs.bind_ok,bG,if_true,kJ,kI,oK,iO,e3]
 have δe:(List.map some [PV.str (Sx (hZ ps))]++P3 (2 - [PV.str (Sx (hZ ps))].length) none)=[some (.str (Sx (hZ ps))),none]:=rfl;rw[δe,e5,aY];generalize h++[MO.lst ((ps.map plT).map λl=>.str (Sx l))]=h0 at x0 g0;generalize h.length=n0 at g0;rw[Ph]at g0;have gl:=oO g0;simp[gl];rw[if_neg (by omega)];have e7:bH (mV 1) [some (PV.str (Sx (hZ ps))),some (.ref n0)] h0=.ok ⟨ps.map λx=>.str (Sx (plT x)),sY n0 (ps.map λx=>.str (Sx (plT x)))⟩ h0:=oP (by simp) g0;refine bN ps (λx=>.str (Sx (plT x))) plV e7 (oQ g0) (by omega) (λx m=>⟨[some (.str (Sx (plT x)))],by simp[eE],λh' _ Q k=>?_⟩) λn h2 x2 _ g2=>?_
 ·simp;exact hW (o x m) (hn x m) h' Q k
 ·simp[bY,aO,g2];exact k h2 (x0.trans x2)
def eY:List (List Nat):=[[109,97,112],[114,111,119],[99,111,117,110,116],[99,104,111,105,99,101],[98,97,103],[116,101,120,116]]
inductive Pt where
 |kind (l:List Nat)
 |root
 |thing (p:Nm)
 |key (l:List Nat)
 |pair (p:Pl) (s:Int)
 |num (n:Int)
 |nth (n:Int)
 |under (p:Pl)
 |side (s:Int)
 |signs (l:List Nat)
 |place (p:Pl)
 |places (ps:List Pl)
 |word (l:List Nat)
def Pt.knd:Pt->Str
 |.kind _=>"kind"
 |.root=>"thing"
 |.thing _=>"thing"
 |.key _=>"spot"
 |.pair _ _=>"spot"
 |.num _=>"number"
 |.nth _=>"nth"
 |.under _=>"under"
 |.side _=>"side"
 |.signs _=>"signs"
 |.place _=>"place"
 |.places _=>"places"
 |.word _=>"word"
def Pt.v:Pt->PV
 |.kind l=>.str (Sx l)
 |.root=>.tup [.str (Sx []),.int 0]
 |.thing p=>nmV p
 |.key l=>.str (Sx l)
 |.pair p s=>.tup [plV p,.int s]
 |.num n=>.int n
 |.nth n=>.int n
 |.under p=>plV p
 |.side s=>.int s
 |.signs l=>.str (Sx l)
 |.place p=>plV p
 |.places ps=>B8 ps
 |.word l=>.str (Sx l)
def Pt.t:Pt->List Nat
 |.kind l=>l
 |.root=>[46,48]
 |.thing p=>nmT p
 |.key l=>l
 |.pair p s=>plT p++32::[sdC s]
 |.num n=>aV n
 |.nth n=>aV n
 |.under p=>plT p
 |.side s=>[sdC s]
 |.signs l=>l
 |.place p=>plT p
 |.places ps=>hZ ps
 |.word l=>l
def Pt.Ok:Pt->Prop
 |.kind l=>l∈eY
 |.root=>True
 |.thing p=>jZ p
 |.key l=>Lw 12 l
 |.pair p s=>dJ p/\(s=1\/s=-1)/\(p=[]->s=1)
 |.num n=>n.natAbs<10 ^ 40
 |.nth n=>1<=n/\n.natAbs<10 ^ 40
 |.under p=>dJ p
 |.side s=>s=1\/s=-1
 |.signs l=>1<=l.length/\l.length<=12/\∀c∈l,32<=c/\c<=126
 |.place p=>dJ p/\p≠[]
 |.places ps=>(∀p∈ps,dJ p)/\(∀p∈ps,p≠[])/\ps.length<=40/\ps≠[]
 |.word l=>Lw 8 l
theorem mD(h:l∈eY):l.length<=6/\1<=l.length/\∀c∈l,97<=c/\c<=122:=by
 simp only[eY,KP,Pk,or_false]at h;rcases h with rfl|rfl|rfl|rfl|rfl|rfl <;> decide
theorem iA(v:PV):Gv dS [v] v:=λh Q k=>by
 refine bB ?_;simp[jF];exact k h (Ext.refl _)
theorem IS:∃d,Num 0 d:=bR (by decide)
theorem Ds:aV 0=[48]:=by decide +kernel
theorem B9(l:List Nat):Gv gD [.str (Sx l)] (.str (Sx l)):=λh Q k=>by
 refine bB ?_;simp[gC,aN,known,dM];exact k h (Ext.refl _)
theorem bK:(" " : Str)=Sx [32]:=by decide +kernel
theorem zQ{s:Int}(o:dJ p):Gv gD [.tup [plV p,.int s]] (.str (Sx (plT p++32::[sdC s]))):=λh Q k=>by
 refine bB ?_;have hl:=dZ o;simp[gC,aN,known,dM];refine eR o h _ λh1 x1=>?_;rw[bK,aU (by rw[aF,aF];simp;omega),aY];refine jR s h1 _ λh2 x2=>?_;rw[cO,aU (by rw[aF,aF];simp;omega),aY,cO];have:plT p++[32]++[sdC s]=plT p++32::[sdC s]:=by simp
 rw[this];exact k h2 (x1.trans x2)
theorem Ez{p:Pt}(o:p.Ok):∃f,gLk nF p.knd=some f/\Gv f [p.v] (.str (Sx p.t)):=by
 cases p with
 |kind l=>exact⟨_,rfl,iA _⟩
 |root=>
  obtain⟨d,N⟩:=IS;have:=fL (l:=[]) N (by simp);rw[Ds]at this;exact⟨_,rfl,this⟩
 |thing p=>exact⟨_,rfl,zJ o⟩
 |key l=>exact⟨_,rfl,B9 l⟩
 |pair p s=>exact⟨_,rfl,zQ o.1⟩
 |num n=>
  obtain⟨d,N⟩:=bR o;exact⟨_,rfl,dY N⟩
 |nth n=>
  obtain⟨d,N⟩:=bR o.2;exact⟨_,rfl,dY N⟩
 |under p=>exact⟨_,rfl,eR o⟩
 |side s=>exact⟨_,rfl,jR s⟩
 |signs l=>exact⟨_,rfl,iA _⟩
 |place p=>exact⟨_,rfl,eR o.1⟩
 |places ps=>exact⟨_,rfl,uD o.1 o.2.2.1⟩
 |word l=>exact⟨_,rfl,iA _⟩
theorem zR(o:l∈eY):Gv lC [.str (Sx l)] (.str (Sx l)):=λh Q k=>by
 refine bB ?_;have e:([.str "map",.str "row",.str "count",.str "choice",.str "bag",.str "text"]:List PV)=eY.map λl=>.str (Sx l):=by decide +kernel
 have pl:(eY.map λl=>PV.str (Sx l)).all (PV.pl 39)=true:=rfl;have m:PV.str (Sx l)∈eY.map λl=>PV.str (Sx l):=OU.mpr ⟨l,o,rfl⟩;simp only[lB];rw[e];simp[aN,mZ (x:=.str (Sx l)) rfl pl,m,-OU];exact k h (Ext.refl _)
theorem uX(h1:1<=l.length)(h2:l.length<=12):Gv jL [.str (Sx l)] (.str (Sx l)):=λh Q k=>by
 refine bB ?_;have e1:(Sx l).length<=16777216:=by rw[aF];omega
 simp[jK,aN,tE e1,aF];rw[if_pos (by omega),if_pos (by omega)];exact k h (Ext.refl _)
theorem zS:Gv fK [.str (Sx [46,48])] (.tup [.str (Sx []),.int 0]):=λh Q k=>by
 refine bB ?_;obtain⟨d,N⟩:=IS;simp[fJ,cT];refine fL (l:=[]) N (by simp) h _ λh1 x1=>?_;rw[Ds];simp;exact k h1 x1
theorem GM{p:Nm}(o:jZ p):¬ nmT p=[46,48]:=λq=>by
 have:=o.w.ge;unfold nmT at q
 match hp:p.1,o.w with
 |[],w=>have:=w.ge;simp at this
 |a::r,w=>
  rw[hp]at q;have:=w.all a (by simp);simp at q;omega
theorem uY{p:Nm}(o:jZ p):Gv fK [.str (Sx (nmT p))] (nmV p):=λh Q k=>by
 refine bB ?_;obtain⟨d,N⟩:=IS;simp[fJ,cT];refine fL (l:=[]) N (by simp) h _ λh1 x1=>?_;rw[Ds];simp[Le,GM o];exact zK o h1 Q λh2 x2=>k h2 (x1.trans x2)
theorem uZ(w:Lw 12 l):Gv gI [.str (Sx l)] (.str (Sx l)):=λh Q k=>by
 refine bB ?_;have:=w.le;have e:fW (.str (Sx l)) [.str (Sx [32])] h=.ok (.tup [.str (Sx l),.str (Sx []),.str (Sx [])]) h:=by
  unfold fW;dsimp only;rw[if_pos ⟨rfl,by rw[aF,aS];omega⟩,xC (Lf w (by omega))];rfl
 simp[gH,aN,bK,bG,e,cT];exact B4 w h Q k
theorem Co(p:Pl):(plV p).pl 40=true:=by
 show(p.map stV).all (PV.pl 39)=true
 rw[Pp];intro q hq;obtain⟨x,_,rfl⟩:=OU.mp hq;rfl
theorem mL{s:Int}(h1:p=[]->s=1):Gv fI [plV p,.int s] .non:=λh Q k=>by
 refine bB ?_;have e:=pS (x:=plV p) (y:=.tup []) (h:=h) (Co p) rfl;simp[jM,e]
 by_cases z:p=[]
 ·have:=h1 z;subst this;rw[if_pos (by rw[z];rfl)];simp;exact k h (Ext.refl _)
 ·rw[if_neg (λq=>by
   unfold plV at q;injection q with q;simp at q;exact z q)]
  exact k h (Ext.refl _)
variable{E:FE}{ms:Ma}
theorem Nt{i j:Nat}(w:(ms δ h).W λps h1=>∃x y,ps=[x,y]/\E.nx ((δ.set i (some x)).set j (some y)) h1):(Er i j ms δ h).W E:=by
 unfold Er;obtain⟨ps,h1,e,x,y,rfl,k⟩:=KM w;rw[e];simp only[Oi];exact k
theorem vA{s:Int}(o:dJ p)(hs:s=1\/s=-1)(h1:p=[]->s=1):Gv gI [.str (Sx (plT p++32::[sdC s]))] (.tup [plV p,.int s]):=λh Q k=>by
 refine bB ?_;have hl:=dZ o;have fr:32∉plT p:=λm=>by have:=cU o 32 m;omega
 have e:fW (.str (Sx (plT p++32::[sdC s]))) [.str (Sx [32])] h=.ok (.tup [.str (Sx (plT p)),.str (Sx [32]),.str (Sx [sdC s])]) h:=by
  unfold fW;dsimp only;rw[if_pos ⟨rfl,by rw[aF,aS];simp;omega⟩,pZ _ fr];rfl
 have ne:¬ Sx [32]=Sx []:=λq=>by have:=AW q;cases this
 simp only[gH];simp[aN,bK,bG,e,cT,ne];refine Nt ?_;simp;refine mK o h _ λdj x1=>?_;refine jS hs dj _ λh2 x2=>?_;refine⟨_,_,⟨rfl,rfl⟩,?_⟩;refine mL h1 h2 _ λh3 x3=>?_;exact k h3 ((x1.trans x2).trans x3)
theorem EA{p:Pt}(o:p.Ok):∃f,gLk nJ p.knd=some f/\Gv f [.str (Sx p.t)] p.v:=by
 cases p with
 |kind l=>exact⟨_,rfl,zR o⟩
 |root=>exact⟨_,rfl,zS⟩
 |thing p=>exact⟨_,rfl,uY o⟩
 |key l=>exact⟨_,rfl,uZ o⟩
 |pair p s=>exact⟨_,rfl,vA o.1 o.2.1 o.2.2⟩
 |num n=>
  obtain⟨d,N⟩:=bR o;exact⟨_,rfl,lK N⟩
 |nth n=>
  obtain⟨d,N⟩:=bR o.2;exact⟨_,rfl,lL N o.1⟩
 |under p=>exact⟨_,rfl,mK o⟩
 |side s=>exact⟨_,rfl,jS o⟩
 |signs l=>exact⟨_,rfl,uX o.1 o.2.1⟩
 |place p=>exact⟨_,rfl,hW o.1 o.2⟩
 |places ps=>exact⟨_,rfl,uF o.1 o.2.1 o.2.2.1 o.2.2.2⟩
 |word l=>exact⟨_,rfl,zH o⟩
theorem Pt.len{p:Pt}(o:p.Ok):p.t.length<=245800:=by
 cases p with
 |kind l=>have:=(mD o).1;show l.length<=_;omega
 |root=>decide
 |thing p=>have:=jQ o;show(nmT p).length<=_;omega
 |key l=>have:=Lw.le o;show l.length<=_;omega
 |pair p s=>have:=dZ o.1;show(plT p++32::[sdC s]).length<=_;simp;omega
 |num n=>obtain⟨d,N⟩:=bR o;have:=bO N;show(aV n).length<=_;omega
 |nth n=>obtain⟨d,N⟩:=bR o.2;have:=bO N;show(aV n).length<=_;omega
 |under p=>have:=dZ o;show(plT p).length<=_;omega
 |side s=>show([sdC s]).length<=_;simp
 |signs l=>have:=o.2.1;show l.length<=_;omega
 |place p=>have:=dZ o.1;show(plT p).length<=_;omega
 |places ps=>exact uE o.1 o.2.2.1
 |word l=>have:=Lw.le o;show l.length<=_;omega
theorem nM:∀{ps:List Pl},(∀p∈ps,dJ p)->∀c∈hZ ps,44<=c/\c<=122
 |[],_,c,m=>by simp[hZ,aH]at m
 |[p],o,c,m=>by
  have:=cU (o p (by simp)) c m;omega
 |p::q::r,o,c,m=>by
  have m:c∈plT p++[44]++hZ (q::r):=m;rw[Pr,Pr]at m;rcases m with(m|m)|m
  ·have:=cU (o p (by simp)) c m;omega
  ·simp at m;omega
  ·exact nM (λx hx=>o x (by simp[hx])) c m
theorem Cp(s:Int):sdC s=60\/sdC s=62:=by
 unfold sdC;split
 ·exact .inl rfl
 ·exact .inr rfl
theorem Pt.chars{p:Pt}(o:p.Ok):∀c∈p.t,32<=c/\c<=126:=λc m=>by
 cases p with
 |kind l=>have:=(mD o).2.2 c m;omega
 |root=>have m:c∈[46,48]:=m;simp at m;omega
 |thing p=>have:=eK o c m;omega
 |key l=>have:=Lw.all o c m;omega
 |pair p s=>
  have m:c∈plT p++32::[sdC s]:=m;rw[Pr]at m;rcases m with m|m
  ·have:=cU o.1 c m;omega
  ·have:=Cp s;simp at m;omega
 |num n=>obtain⟨d,N⟩:=bR o;have:=lZ N c m;omega
 |nth n=>obtain⟨d,N⟩:=bR o.2;have:=lZ N c m;omega
 |under p=>have:=cU o c m;omega
 |side s=>
  have m:c∈[sdC s]:=m;have:=Cp s;simp at m;omega
 |signs l=>exact o.2.2 c m
 |place p=>have:=cU o.1 c m;omega
 |places ps=>have:=nM o.1 c m;omega
 |word l=>have:=Lw.all o c m;omega
def Pt.inner:Pt->Prop
 |.key _=>False
 |.pair _ _=>False
 |.signs _=>False
 |_=>True
theorem Pt.free{p:Pt}(o:p.Ok)(i:p.inner):32∉p.t:=λm=>by
 cases p with
 |kind l=>have:=(mD o).2.2 32 m;omega
 |root=>have m:32∈[46,48]:=m;simp at m
 |thing p=>have:=eK o 32 m;omega
 |key l=>exact i
 |pair p s=>exact i
 |num n=>obtain⟨d,N⟩:=bR o;have:=lZ N 32 m;omega
 |nth n=>obtain⟨d,N⟩:=bR o.2;have:=lZ N 32 m;omega
 |under p=>have:=cU o 32 m;omega
 |side s=>
  have m:32∈[sdC s]:=m;have:=Cp s;simp at m;omega
 |signs l=>exact i
 |place p=>have:=cU o.1 32 m;omega
 |places ps=>have:=nM o.1 32 m;omega
 |word l=>have:=Lw.all o 32 m;omega
def Pt.plain:Pt->Prop
 |.under _=>False
 |.side _=>False
 |.signs _=>False
 |.places _=>False
 |_=>True
structure eW(w:List Nat)(ps:List Pt):Prop where
 form:gLk dE (Sx w)=some (ps.map λp=>.str p.knd)
 ok:∀p∈ps,p.Ok
 inn:∀p∈ps.dropLast,p.inner
 lw:w.length<=10
 lo:∀c∈w,97<=c/\c<=122
 ln:ps.length<=4
 wr:Sx w=("write" : Str)->∃a p s l,ps=[a,.under p,.side s,.signs l]/\(p=[]->s=1)/\a.plain
 ct:Sx w=("cut" : Str)->∃a q,ps=[a,.places q]/\a.plain
 ot:¬ Sx w=("write" : Str)->¬ Sx w=("cut" : Str)->∀p∈ps,p.plain
def lN(w:List Nat)(ps:List Pt):PV:=.tup (.str (Sx w)::ps.map Pt.v)
def fZ(w:List Nat)(ps:List Pt):List Nat:=aH [32] (w::ps.map Pt.t)
theorem uG(ps:List Pt)(f:Pt->PV):AR (ps.map λp=>.str p.knd) (ps.map f)=ps.map λp=>.tup [.str p.knd,f p]:=by
 unfold AR
 induction ps with
 |nil=>rfl
 |cons p r ih=>simp only[Pa,List.zipWith_cons_cons,ih]
theorem Jn{fs:List (Str×Fn)}{z:Str}{f:Fn}{y v:PV}{m1 m2:Me}(e1:m1 δ h=.ok (.str z) h)(e2:m2 δ h=.ok y h)(l:gLk fs z=some f)(g:Gv f [y] v)(k:∀h',Ext h h'->Q v h'):(C9 fs m1 m2 δ h).W Q:=by
 unfold C9;rw[e1,Rs.bind_ok];dsimp only;rw[l];dsimp only;rw[e2,Rs.bind_ok];exact g h Q k
theorem Cq(ps:List Pt):∀w:List Nat,w++(ps.map λp=>32::p.t).flatten=aH [32] (w::ps.map Pt.t):=by
 induction ps with
 |nil=>intro w;simp[aH]
 |cons p r ih=>
  intro w;rw[Pa,Pa,cP,<-ih p.t,List.flatten_cons];simp
variable{ps:List Pt}{w:List Nat}
theorem vB(o:eW w ps):Gv jH [.tup (ps.map Pt.v),.tup (ps.map λp=>.str p.knd)] (.str (Sx (ps.map λp=>32::p.t).flatten)):=λh Q k=>by
 refine bB ?_;have hl:=o.ln;simp[jG,cT,bG,bK];have e:mZq (aA (mV 1) (aA (mV 0) aC)) [some (PV.tup (ps.map Pt.v)),some (PV.tup (ps.map λp=>.str p.knd))] h=.ok ⟨ps.map λp=>.tup [.str p.knd,p.v],λh'=>sqG (.tup (ps.map λp=>.str p.knd)) (ps.map λp=>.str p.knd) h'&&sqG (.tup (ps.map Pt.v)) (ps.map Pt.v) h'⟩ h:=by
  unfold mZq;simp[zqI,sqP];exact uG ps Pt.v
 refine bN ps (λp=>.tup [.str p.knd,p.v]) (λp=>.str (Sx (32::p.t))) e (λh' _=>?_) (by omega) (λp m=>⟨[some (.str p.knd),some p.v],by simp[eE],λh' _ Q k=>?_⟩) λn h' x _ g=>?_
 ·simp[sqG,sqP,PV.beqs_self]
 ·obtain⟨f,l,g⟩:=Ez (o.ok p m);have hp:=Pt.len (o.ok p m);simp;refine Jn (by simp) (by simp) l g λh2 x2=>?_;rw[aU (by rw[aF,aF];simp;omega),aY,cO];exact k h2 x2
 ·have g:h'[n]?=some (.lst ((ps.map λp=>32::p.t).map λl=>.str (Sx l))):=by rw[Ph];exact g
  rw[gM (B:=245801) (z:=[]) g (λq hq=>by
   obtain⟨p,hp,rfl⟩:=OU.mp hq;have:=Pt.len (o.ok p hp);simp;omega) (by rw[OP];simp;omega),aY,qF]
  exact k h' x
structure eA where
 nm:Nm
 sn:List Nm
 w:List Nat
 ps:List Pt
structure eA.Ok(d:eA):Prop where
 nm:jZ d.nm
 sn:∀p∈d.sn,jZ p
 sl:d.sn.length<=5
 sr:d.sn.Pairwise λp q=>p.1<q.1
 own:look (d.sn.map λp=>(Sx p.1,p.2)) (Sx d.nm.1)=if d.nm.2=1 then none else some (d.nm.2-1)
 act:eW d.w d.ps
def eA.v(d:eA):PV:=.tup [nmV d.nm,snV d.sn,lN d.w d.ps]
def eA.t(d:eA):List Nat:=aH [32] [nmT d.nm,snT d.sn,fZ d.w d.ps]
theorem pE(o:eW w ps):(fZ w ps).length<=1300000:=by
 have:=fQ (z:=[32]) (B:=245800) (w::ps.map Pt.t) λq hq=>by
  rcases KP.mp hq with rfl|hq
  ·have:=o.lw;omega
  ·obtain⟨p,hp,rfl⟩:=OU.mp hq;exact Pt.len (o.ok p hp)
 have:=o.ln;unfold fZ;simp at*;omega
theorem eA.t_eq(d:eA):d.t=nmT d.nm++32::(snT d.sn++32::fZ d.w d.ps):=by
 unfold eA.t;simp[aH]
theorem eA.len{d:eA}(o:d.Ok):d.t.length<=1400000:=by
 have h1:=pE o.act;have h2:=rR o.sn (by have:=o.sl;omega);have h3:=jQ o.nm;rw[d.t_eq];simp;omega
theorem GN{d:eA}(o:d.Ok):Gv zC [d.v] (.str (Sx d.t)):=λh Q k=>by
 refine bB ?_;have h1:=pE o.act;have h2:=rR o.sn (by have:=o.sl;omega);have h3:=jQ o.nm;simp only[zB];simp[aN,eA.v,lN,bK];refine zJ o.nm h _ λh1 x1=>?_;rw[aU (by rw[aF,aF];simp;omega),aY,cO];refine zL o.sn (by have:=o.sl;omega) h1 _ λh2 x2=>?_;rw[aU (by rw[aF,aF];simp;omega),aY,cO];have lw:=o.act.lw;rw[aU (by rw[aF,aF];simp;omega),aY,cO];rw[aU (by rw[aF,aF];simp;omega),aY,cO];have ef:Gn dE (.str (Sx d.w)) h2=.ok (.tup (d.ps.map λp=>.str p.knd)) h2:=by
  unfold Gn;dsimp only;rw[o.act.form]
 have ec:iY (PV.str (Sx d.w)::d.ps.map Pt.v) (some 1) none=d.ps.map Pt.v:=tH (by omega);rw[ef,aY,ec];refine vB o.act h2 _ λh3 x3=>?_;have e:fZ d.w d.ps=d.w++(d.ps.map λp=>32::p.t).flatten:=(Cq d.ps d.w).symm;have l2:(fZ d.w d.ps).length=d.w.length+((d.ps.map λp=>32::p.t).flatten).length:=by rw[e,Pf]
 rw[aU (by rw[aF,aF,Pf,Pf,Pf,Pf];simp only[OZ,P0];omega),aY,cO];have e2:nmT d.nm++[32]++snT d.sn++[32]++d.w++(d.ps.map λp=>32::p.t).flatten=d.t:=by
  rw[d.t_eq,e];simp
 rw[e2];exact k h3 ((x1.trans x2).trans x3)
theorem uH(hc:∀c∈l,32<=c/\c<=126)(hl:l.length<=1400000):Gv gY [.str (Sx l)] .non:=λh Q k=>by
 refine bB ?_;unfold gX;have lt:("~" : Str)=Sx [126]:=by decide +kernel
 simp[bK,lt];refine bN (δ:=[some (PV.str (Sx l))]) l (λc=>.str (Sx [c])) (λ_=>.bl true) (GJ (h1:=h) (by simp) λc m=>by have:=hc c m;omega) (λ_ _=>rfl) (by omega) (λc m=>⟨[some (.str (Sx [c]))],by simp[eE],λh' _ Q k=>?_⟩) λn h' x _ g=>?_
 ·have:=hc c m;have e1:decide ([c] < [32])=false:=by rw[StrLaws.lt_cons_cons,decide_eq_false (by omega:¬ c<32),StrLaws.lt_nil_nil,Bool.and_false];rfl
  have e2:decide ([126] < [c])=false:=by rw[StrLaws.lt_cons_cons,decide_eq_false (by omega:¬ 126<c),StrLaws.lt_nil_nil,Bool.and_false];rfl
  simp only[Ii,kI,jW,bM,Rs.bind_ok,FX,cF,e1,e2,Bool.not_false,KO,if_true,FT,aY];exact k h' (Ext.refl _)
 ·rw[map_const]at g;rw[all_true g];simp;exact k h' x
theorem IT(h:PH):∃kvs:Seen,wO [snV s] h=.ok (.ref h.length) (h++[.dK (emb kvs)])/\((s.map (·.1)).Nodup->∀x,look kvs x=look (s.map λp=>(Sx p.1,p.2)) x):=by
 have e:(s.map nmV)=(s.map λp=>(Sx p.1,p.2)).map λp=>PV.tup [.str p.1,.int p.2]:=by rw[Ph];rfl
 refine⟨(s.map λp=>(Sx p.1,p.2)).foldl (λacc p=>dput acc p.1 p.2) [],?_,λnd x=>?_⟩
 ·unfold wO snV;dsimp only;rw[e,xD];dsimp only;rw[show([]:List (Key×PV))=emb [] from rfl,xE]
 ·rw[Dp _ _ ?_ x]
  ·cases look (s.map λp=>(Sx p.1,p.2)) x <;> rfl
  ·rw[Ph];have:(s.map ((λx=>x.1)∘λp:Nm=>(Sx p.1,p.2)))=(s.map (·.1)).map Sx:=by rw[Ph];rfl
   rw[this];exact List.Pairwise.map Sx (λa b q e=>q (AW e)) nd
theorem vC(o:eW w ps)(h:PH)(Q:PV->PH->Prop)(k:∀n h',Ext h h'->h'[n]?=some (.lst (ps.map Pt.v))->Q (.ref n) h'):(jO [.str (Sx (fZ w ps)),.tup (ps.map λp=>.str p.knd)] h).W Q:=by
 refine bB ?_;have hl:=pE o;have ln:=o.ln;have sp:aK 32 ps.length (fZ w ps)=w::ps.map Pt.t:=by
  unfold fZ;have hw:32∉w:=λm=>by have:=o.lo 32 m;omega
  cases ps with
  |nil=>exact gJ w
  |cons p r=>
   have e:w::(p::r).map Pt.t=(w::(p::r).dropLast.map Pt.t)++[((p::r).getLast (by simp)).t]:=by
    rw[List.cons_append,<-List.map_singleton (f:=Pt.t),<-RW,List.dropLast_concat_getLast]
   rw[e];refine gK _ _ _ (λq hq=>?_) (.inl ?_)
   ·rcases KP.mp hq with rfl|hq
    ·exact hw
    ·obtain⟨x,hx,rfl⟩:=OU.mp hq;exact Pt.free (o.ok x (List.dropLast_subset _ hx)) (o.inn x hx)
   ·simp
 have e4:=xF (h:=h) (m:=ps.length) (by decide:32<256) (by omega) sp (by omega) (by simp;omega);have x0:Ext h (h++[MO.lst ((w::ps.map Pt.t).map λl=>.str (Sx l))]):=Ext.app _ _;have g0:(h++[MO.lst ((w::ps.map Pt.t).map λl=>.str (Sx l))])[h.length]?=some (.lst ((w::ps.map Pt.t).map λl=>.str (Sx l))):=aX;have y8:((w::ps.map Pt.t).map λl=>PV.str (Sx l))=.str (Sx w)::ps.map λp=>.str (Sx p.t):=by
  rw[Pa,Ph];rfl
 rw[y8]at e4 x0 g0;generalize hy:(PV.str (Sx w)::ps.map λp=>PV.str (Sx p.t))=ys at e4 x0 g0;have yl:ys.length=ps.length+1:=by rw[<-hy];simp
 generalize h++[MO.lst ys]=h0 at e4 x0 g0;have gl:=oO g0;have gi:vIx (.ref h.length) (.int 0) h0=.ok (.str (Sx w)) h0:=by
  rw[dH g0,<-hy,lT (by omega) (by simp)];rfl
 have hw:32∉w:=λm=>by have:=o.lo 32 m;omega
 have ct:Txt.contains (Sx w) (Sx [32])=false:=by rw[Jm];simp[hw]
 simp only[jN];simp[aN,bG,bK,e4,vIs,BS,gl,yl,gi,ct];have sl:=D6 (lo:=some 1) (hi:=none) g0;have e6:iY ys (some 1) none=ps.map λp=>.str (Sx p.t):=by
  rw[tH (by omega),<-hy];rfl
 rw[e6]at sl;have x1:Ext h0 (h0++[MO.lst (ps.map λp=>.str (Sx p.t))]):=Ext.app _ _;have g1:(h0++[MO.lst (ps.map λp=>.str (Sx p.t))])[h0.length]?=some (.lst (ps.map λp=>.str (Sx p.t))):=aX;generalize h0++[MO.lst (ps.map λp=>.str (Sx p.t))]=h1 at sl x1 g1;have e:mZq (aA (mV 1) (aA (mSl (mV 2) (mP (mC (PV.int 1))) mU) aC)) [some (PV.str (Sx (fZ w ps))),some (PV.tup (ps.map λp=>.str p.knd)),some (.ref h.length)] h0=.ok ⟨ps.map λp=>.tup [.str p.knd,.str (Sx p.t)],λh'=>sqG (.tup (ps.map λp=>.str p.knd)) (ps.map λp=>.str p.knd) h'&&sqG (.ref h0.length) (ps.map λp=>.str (Sx p.t)) h'⟩ h1:=by
  unfold mZq;simp[sl,zqI,sqP,aO,g1];exact uG ps λp=>.str (Sx p.t)
 refine bN ps (λp=>.tup [.str p.knd,.str (Sx p.t)]) Pt.v e (λh' x'=>?_) (by omega) (λp m=>⟨[some (.str p.knd),some (.str (Sx p.t))],by simp[eE],λh' _ Q k=>?_⟩) λn h' x _ g=>?_
 ·have g2:=x' _ _ g1;simp[sqG,sqP,aO,g2,PV.beqs_self]
 ·obtain⟨f,l,g⟩:=EA (o.ok p m);exact Jn (by simp) (by simp) l g k
 ·exact k n h' ((x0.trans x1).trans x) g
theorem xH:("write" : Str)=Sx [119,114,105,116,101]:=by decide +kernel
theorem GO(o:eW w ps):∃a b,nD (Sx (fZ w ps)) (Sx [32])=[Sx w,a,b]:=by
 have hw:32∉w:=λm=>by have:=o.lo 32 m;omega
 unfold fZ;cases ps with
 |nil=>exact⟨_,_,xC hw⟩
 |cons p r=>
  rw[Pa,cP];have e:w++[32]++aH [32] (p.t::r.map Pt.t)=w++32::aH [32] (p.t::r.map Pt.t):=by simp
  rw[e];exact⟨_,_,pZ _ hw⟩
theorem B'(o:eW w ps):Gv nL [.str (Sx (fZ w ps))] (lN w ps):=λh Q k=>by
 refine bB ?_;have hl:=pE o;have ln:=o.ln;obtain⟨a,b,e0⟩:=GO o;have e:fW (.str (Sx (fZ w ps))) [.str (Sx [32])] h=.ok (.tup [.str (Sx w),.str a,.str b]) h:=by
  unfold fW;dsimp only;rw[if_pos ⟨rfl,by rw[aF,aS];omega⟩,e0];rfl
 have ef:∀h:PH,Gm dE (.str (Sx w)) h=.ok (.tup (ps.map λp=>.str p.knd)) h:=λh=>by
  unfold Gm;dsimp only;rw[o.form]
 simp only[nK];simp[aN,bG,bK,e,ef];refine vC o h _ λn h1 x1 g1=>?_;simp[bY,aO,g1];rw[Ec (by simp;omega),aY]
 by_cases z:Sx w=("write" : Str)
 ·obtain⟨a,p,s,b,rfl,hp,_⟩:=o.wr z;rw[if_pos z];simp;exact mL hp h1 _ λh2 x2=>k h2 (x1.trans x2)
 ·rw[if_neg z];exact k h1 x1
theorem eA.chars{d:eA}(o:d.Ok):∀c∈d.t,32<=c/\c<=126:=λc m=>by
 rw[d.t_eq]at m;have jc:∀{c:Nat}(ls:List (List Nat)),(∀l∈ls,∀c∈l,32<=c/\c<=126)->∀z,32<=z/\z<=126->c∈aH [z] ls->32<=c/\c<=126:=λ{c} ls=>by
  induction ls with
  |nil=>intro _ _ _ m;simp[aH]at m
  |cons x r ih=>
   intro hx z hz m;cases r with
   |nil=>exact hx x (by simp) c m
   |cons y r=>
    rw[cP,Pr,Pr]at m;rcases m with(m|m)|m
    ·exact hx x (by simp) c m
    ·simp at m;omega
    ·exact ih (λl hl=>hx l (by simp[hl])) z hz m
 rw[Pr]at m;rcases m with m|m
 ·have:=eK o.nm c m;omega
 ·rcases KP.mp m with rfl|m
  ·omega
  ·rw[Pr]at m;rcases m with m|m
   ·unfold snT at m;split at m
    ·simp at m;omega
    ·refine jc _ (λl hl c hc=>?_) 44 (by omega) m;obtain⟨p,hp,rfl⟩:=OU.mp hl;have:=eK (o.sn p hp) c hc;omega
   ·rcases KP.mp m with rfl|m
    ·omega
    ·refine jc _ (λl hl c hc=>?_) 32 (by omega) m;rcases KP.mp hl with rfl|hl
     ·have:=o.act.lo c hc;omega
     ·obtain⟨p,hp,rfl⟩:=OU.mp hl;exact Pt.chars (o.act.ok p hp) c hc
theorem EB(o:∀p∈s,jZ p):32∉snT s:=λm=>by
 unfold snT at m;split at m
 ·simp at m
 ·have:∀ls:List (List Nat),(∀l∈ls,32∉l)->32∉aH [44] ls:=λls=>by
   induction ls with
   |nil=>intro _ m;simp[aH]at m
   |cons x r ih=>
    intro hx m;cases r with
    |nil=>exact hx x (by simp) m
    |cons y r=>
     rw[cP,Pr,Pr]at m;rcases m with(m|m)|m
     ·exact hx x (by simp) m
     ·simp at m
     ·exact ih (λl hl=>hx l (by simp[hl])) m
  refine this _ (λl hl=>?_) m;obtain⟨p,hp,rfl⟩:=OU.mp hl;intro q;have:=eK (o p hp) 32 q;omega
theorem Dt{d:eA}(o:d.Ok):Gv zD [.str (Sx d.t)] d.v:=λh Q k=>by
 refine bB ?_;have hl:=eA.len o;have sl:=o.sl;have sp:aK 32 2 d.t=[nmT d.nm,snT d.sn,fZ d.w d.ps]:=by
  refine gK [nmT d.nm,snT d.sn] (fZ d.w d.ps) 2 (λp hp=>?_) (.inl rfl);simp only[KP,Pk,or_false]at hp;rcases hp with rfl|rfl
  ·exact λm=>by have:=eK o.nm 32 m;omega
  ·exact EB o.sn
 simp only[Cj];simp[aN];refine uH (eA.chars o) (by omega) h _ λh1 x1=>?_;have e4:=xF (h:=h1) (m:=2) (by decide:32<256) (by omega) sp (by omega) (by simp);have g0:(h1++[MO.lst ([nmT d.nm,snT d.sn,fZ d.w d.ps].map λl=>.str (Sx l))])[h1.length]?=some (.lst ([nmT d.nm,snT d.sn,fZ d.w d.ps].map λl=>.str (Sx l))):=aX;have x2:Ext h1 (h1++[MO.lst ([nmT d.nm,snT d.sn,fZ d.w d.ps].map λl=>.str (Sx l))]):=Ext.app _ _;generalize h1++[MO.lst ([nmT d.nm,snT d.sn,fZ d.w d.ps].map λl=>.str (Sx l))]=h2 at e4 g0 x2;generalize h1.length=n0 at e4 g0;have e4:fE (.str (Sx d.t)) [.str (Sx [32]),.int 2] h1=.ok (.ref n0) h2:=e4;have gl:=oO g0;simp[bG,bK,e4,gl];rw[dH g0]
 show(ofO (some (.str (Sx (nmT d.nm)))) h2).W _
 rw[cZ,aY];refine zK o.nm h2 _ λh3 x3=>?_;rw[dH (x3 _ _ g0)]
 show(ofO (some (.str (Sx (snT d.sn)))) h3).W _
 rw[cZ,aY];refine zM o.sn (by omega) o.sr h3 _ λh4 x4=>?_;obtain⟨kvs,ed,el⟩:=IT (s:=d.sn) h4;have nd:(d.sn.map (·.1)).Nodup:=by
  unfold List.Nodup;rw[QM];exact o.sr.imp λ{a b} q e=>by rw[e]at q;exact List.lt_irrefl _ q
 have g5:(h4++[MO.dK (emb kvs)])[h4.length]?=some (.dK (emb kvs)):=aX;have x5:Ext h4 (h4++[MO.dK (emb kvs)]):=Ext.app _ _;generalize h4++[MO.dK (emb kvs)]=h5 at ed g5 x5;have gg:Ax (.ref h4.length) [.str (Sx d.nm.1),.int 0] h5=.ok (.int (d.nm.2-1)) h5:=by
  rw[Iv g5,lI,el nd,o.own]
  by_cases z:d.nm.2=1
  ·rw[if_pos z,z];rfl
  ·rw[if_neg z];rfl
 have dt:eB (.ref h4.length) h5=true:=by simp[eB,g5]
 simp[ed,dt,nmV,gg];rw[dH (x5 _ _ (x4 _ _ (x3 _ _ g0)))]
 show(ofO (some (.str (Sx (fZ d.w d.ps)))) h5).W _
 rw[cZ,aY];refine B' o.act h5 _ λh6 x6=>?_;exact k h6 (((((x1.trans x2).trans x3).trans x4).trans x5).trans x6)
theorem Ba{s:Int}(hs:s=1\/s=-1):atI [PV.str (Sx []),.str (Sx [62]),.str (Sx [60])] s=some (.str (Sx [sdC s])):=by
 rcases hs with rfl|rfl <;> rfl
theorem eZ(o:dJ p):Gv cL [plV p] (.str (Sx (plT p))):=λh Q k=>by
 refine bB ?_;have hle:=o.le
 by_cases z:p=[]
 ·subst z;have e:vEq (plV []) (.tup []) h=.ok (.bl true) h:=by rw[pS (Co _) rfl];rfl
  have e2:plT []=[45]:=rfl;simp[dQ,aN,cS,e];exact k h (Ext.refl _)
 ·have e:vEq (plV p) (.tup []) h=.ok (.bl false) h:=by
   rw[pS (Co _) rfl,decide_eq_false (λq=>by
    unfold plV at q;injection q with q;simp at q;exact z q)]
  simp only[dQ];simp[aN,e,cT];refine KR (λi δ h'=>Ext h h'/\∃a b c d',δ=[some (plV p),some (.str (Sx ((p.take i).flatMap stT))),a,b,c,d']) (xs:=p.map stV) (.inl (by simp[plV])) ⟨Ext.refl _,none,none,none,none,rfl⟩ ?_ ?_
  ·rintro q x δ h1 hx ⟨x1,a,b,c,d',rfl⟩;rw[PF]at hx;obtain⟨st,hq,rfl⟩:=Qn.mp hx;have os:=o.ok st (Qi hq);refine⟨[some (plV p),some (.str (Sx ((p.take q).flatMap stT))),some (.int st.s),some (.str (Sx st.h)),some (.int st.n),some (.int st.k)],by simp[stV],?_⟩;obtain⟨d1,e1,N,M⟩:=os.nk;have n1:=bO N;have n2:=bO M;have n3:=os.w.le;have n4:((p.take q).flatMap stT).length<=6144:=by
    have:=uB (B:=96) ((p.take q).map stT) λy hy=>by
     obtain⟨x,hx,rfl⟩:=OU.mp hy;exact pD (o.ok x (List.mem_of_mem_take hx))
    rw[OP,Sk]at this;rw[List.flatMap];omega
   unfold eI;simp[cT,qE,qD,lX,bG,jY,N.lg,M.lg,B6];have g2:(h1++[MO.lst [PV.str (Sx []),.str (Sx [62]),.str (Sx [60])]])[h1.length]?=some (.lst [PV.str (Sx []),.str (Sx [62]),.str (Sx [60])]):=aX;have x2:Ext h1 (h1++[MO.lst [PV.str (Sx []),.str (Sx [62]),.str (Sx [60])]]):=Ext.app _ _;generalize h1++[MO.lst [PV.str (Sx []),.str (Sx [62]),.str (Sx [60])]]=h2 at g2 x2;rw[dH g2,Ba os.s,cZ,aY,aU (by rw[aF,aF];simp only[OZ,P0];omega),aY,cO];have g3:(h2++[MO.lst ([st.h,aV st.n,aV st.k].map λl=>PV.str (Sx l))])[h2.length]?=some (.lst ([st.h,aV st.n,aV st.k].map λl=>PV.str (Sx l))):=aX;have x3:Ext h2 (h2++[MO.lst ([st.h,aV st.n,aV st.k].map λl=>PV.str (Sx l))]):=Ext.app _ _
   show(eC (PV.str (Sx [46])) [PV.ref h2.length] (h2++[MO.lst ([st.h,aV st.n,aV st.k].map λl=>PV.str (Sx l))])).W _
   generalize h2++[MO.lst ([st.h,aV st.n,aV st.k].map λl=>PV.str (Sx l))]=h3 at g3 x3;have tl:=zN os;rw[gM (B:=41) g3 (λy hy=>by
    simp only[KP,Pk,or_false]at hy;rcases hy with rfl|rfl|rfl <;> omega) (by simp),aY]
   show(aE _ (PV.str (Sx (tlT st))) h3).W _
   rw[aU (by rw[aF,aF,Pf];simp only[OZ,P0];omega),aY,cO];refine⟨(x1.trans x2).trans x3,?_⟩;have e5:(p.take (q+1)).flatMap stT=(p.take q).flatMap stT++stT st:=by
    rw[List.take_add_one,hq,List.flatMap_append];simp
   rw[e5]
   congr 2
   simp[stT]
  ·rintro δ h1 ⟨x1,a,b,c,d',rfl⟩;rw[OP,List.take_length];simp;have e:plT p=p.flatMap stT:=by unfold plT;rw[if_neg z]
   rw[<-e];exact k h1 x1
theorem pF(l:List Nat):Gv dR [.str (Sx l)] (.str (Sx l)):=λh Q k=>by
 refine bB ?_;simp[kO,aN,known,dM];exact k h (Ext.refl _)
theorem Bb{d:List Nat}(N:Num n d):Gv dR [.int n] (.str (Sx (aV n))):=λh Q k=>by
 refine bB ?_;simp[kO,aN,known,dM,jY,N.lg,B6];exact k h (Ext.refl _)
theorem Du{d:List Nat}(N:Num n d)(hl:l.length<=100):Gv dR [.tup [.str (Sx l),.int n]] (.str (Sx (l++46::aV n))):=λh Q k=>by
 refine bB ?_;have:=bO N;simp[kO,aN,known,dM,jY,N.lg,B6,lX];rw[aU (by rw[aF,aF];simp;omega),aY,cO];rw[aU (by rw[aF,aF];simp;omega),aY,cO];have:l++[46]++aV n=l++46::aV n:=by simp
 rw[this];exact k h (Ext.refl _)
theorem xI{s:Int}(o:dJ p)(hs:s=1\/s=-1):Gv dR [.tup [plV p,.int s]] (.str (Sx (plT p++32::[sdC s]))):=λh Q k=>by
 refine bB ?_;have hl:=dZ o;have it:∀{c:String}{h:PH},mY [plV p,.ty c] h=if c∈known then .ok (.bl (dM "tuple" c)) h else .bad:=tF;simp[kO,aN,known,dM,it];refine eZ o h _ λh1 x1=>?_;rw[bK,aU (by rw[aF,aF];simp;omega),aY,cO,cT,qE,qD];have g2:(h1++[MO.lst [PV.str (Sx []),.str (Sx [62]),.str (Sx [60])]])[h1.length]?=some (.lst [PV.str (Sx []),.str (Sx [62]),.str (Sx [60])]):=aX;have x2:Ext h1 (h1++[MO.lst [PV.str (Sx []),.str (Sx [62]),.str (Sx [60])]]):=Ext.app _ _;generalize h1++[MO.lst [PV.str (Sx []),.str (Sx [62]),.str (Sx [60])]]=h2 at g2 x2;rw[dH g2,Ba hs,cZ,aY,aU (by rw[aF,aF,Pf];simp only[OZ,P0];omega),aY,cO];have:plT p++[32]++[sdC s]=plT p++32::[sdC s]:=by simp
 rw[this];exact k h2 (x1.trans x2)
theorem Cr(o:dJ p):Gv dR [plV p] (.str (Sx (plT p))):=λh Q k=>by
 refine bB ?_;have it:∀{c:String}{h:PH},mY [plV p,.ty c] h=if c∈known then .ok (.bl (dM "tuple" c)) h else .bad:=tF;have sp:∀x:Stp,∀{c:String}{h:PH},mY [stV x,.ty c] h=if c∈known then .ok (.bl (dM "tuple" c)) h else .bad:=λx=>tF;have ln:∀{h:PH},iH [plV p] h=.ok (.int p.length) h:=by
  intro h;unfold plV;rw[FY,OP]
 have fin:=eZ o h Q k
 by_cases z:p.length=2
 ·obtain⟨a,b,rfl⟩:∃a b,p=[a,b]:=by
   match p,z with
   |[a,b],_=>exact⟨a,b,rfl⟩
  have i0:∀{h:PH},vIx (plV [a,b]) (.int 0) h=.ok (stV a) h:=by
   intro h;unfold plV;simp
  have i1:∀{h:PH},vIx (plV [a,b]) (.int 1) h=.ok (stV b) h:=by
   intro h;unfold plV;simp
  simp[kO,aN,known,dM,it,ln,i0,i1,sp];exact fin
 ·simp[kO,aN,known,dM,it,ln];have z':¬ (p.length:Int)=2:=by omega
  simp[z'];exact fin
theorem rS{p:Pt}(o:p.Ok)(q:p.plain):Gv dR [p.v] (.str (Sx p.t)):=by
 cases p with
 |kind l=>exact pF l
 |root=>
  obtain⟨d,N⟩:=IS;have:=Du (l:=[]) N (by simp);rw[Ds]at this;exact this
 |thing p=>
  obtain⟨d,N⟩:=bR (jZ.le o);exact Du N (by have:=(jZ.w o).le;omega)
 |key l=>exact pF l
 |pair p s=>exact xI o.1 o.2.1
 |num n=>
  obtain⟨d,N⟩:=bR o;exact Bb N
 |nth n=>
  obtain⟨d,N⟩:=bR o.2;exact Bb N
 |under p=>exact q.elim
 |side s=>exact q.elim
 |signs l=>exact q.elim
 |place p=>exact Cr o.1
 |places ps=>exact q.elim
 |word l=>exact pF l
theorem xJ{p:Nm}(o:jZ p):Gv dR [nmV p] (.str (Sx (nmT p))):=rS (p:=.thing p) o trivial
theorem EC(z:List Nat)(a:List (List Nat))(x y:List Nat)(r:List (List Nat)):aH z (a++(x++z++y)::r)=aH z (a++x::y::r):=by
 induction a with
 |nil=>
  cases r with
  |nil=>simp[aH]
  |cons b r=>simp[aH]
 |cons b a ih=>
  cases a with
  |nil=>
   have ih:aH z ((x++z++y)::r)=aH z (x::y::r):=ih
   show b++z++aH z ((x++z++y)::r)=b++z++aH z (x::y::r)
   rw[ih]
  |cons c a=>
   show b++z++aH z (c::a++(x++z++y)::r)=b++z++aH z (c::a++x::y::r)
   rw[ih]
theorem eA.t_all(d:eA):d.t=aH [32] (nmT d.nm::snT d.sn::d.w::d.ps.map Pt.t):=by
 rw[d.t_eq];unfold fZ;simp[aH]
variable{x0 x1 x3:Option PV}
theorem GP{d:eA}{n:Nat}(g:h[n]?=some (.lst [.str (Sx (nmT d.nm)),.str (Sx (aH [44] (d.sn.map nmT)))]))(k:∀h',(∀(i:Nat) o,i≠n->h[i]?=some o->h'[i]?=some o)->h'[n]?=some (.lst [.str (Sx (nmT d.nm)),.str (Sx (snT d.sn))])->E.nx [x0,x1,some (snV d.sn),x3,some (.ref n)] h'):
  (bE (aP (aB vEq (mV 2) (cD aC))) (qT (mC (.str "-")) (mV 4) (mC (.int 1))) bF [x0,x1,some (snV d.sn),x3,some (.ref n)] h).W E:=by
 have pl:(snV d.sn).pl 40=true:=by
  show(d.sn.map nmV).all (PV.pl 39)=true
  rw[Pp];intro q hq;obtain⟨x,_,rfl⟩:=OU.mp hq;rfl
 have e:=pS (x:=snV d.sn) (y:=.tup []) (h:=h) pl rfl;simp[e]
 by_cases z:d.sn=[]
 ·rw[if_pos (by rw[z];rfl)];refine⟨_,Ej g (by omega) (by simp),k _ (λi o hi e=>KU e (Sn hi)) ?_⟩;rw[pQ g,z,cS];rfl
 ·rw[if_neg (λq=>by
   unfold snV at q;injection q with q;simp at q;exact z q)]
  refine k h (λi o _ e=>e) ?_;rw[g];unfold snT;rw[if_neg z]
theorem IU{h2:PH}{n:Nat}(x:Ext h h1)(hn:h.length<=n)(k:∀(i:Nat) o,i≠n->h1[i]?=some o->h2[i]?=some o):Ext h h2:=λi o e=>k i o (by have:=(Io.mp e).1;omega) (x i o e)
variable{ys:List PV}
theorem ED{n:Nat}(e1:h[n]?=some (.lst xs))(e2:h[m]?=some (.lst ys))(hl:xs.length+ys.length<=16777216):aE (.ref n) (.ref m) h=.ok (.ref h.length) (h++[.lst (xs++ys)]):=by
 have l1:bV h n=some xs:=by unfold bV;rw[e1]
 have l2:bV h m=some ys:=by unfold bV;rw[e2]
 show FD (.ref n) (.ref m) h=_
 unfold FD;simp only[l1,l2,aS];rw[if_pos hl]
theorem uI{n:Nat}{a b:List (List Nat)}(e1:h[n]?=some (.lst (a.map λl=>.str (Sx l))))(e2:h[m]?=some (.lst (b.map λl=>.str (Sx l))))(hl:a.length+b.length<=8)(hB:∀p∈a++b,p.length<=250000)(k:∀h',Ext h h'->Q (.str (Sx (aH [32] (a++b)))) h'):((aE (.ref n) (.ref m) h).W λx h'=>(eC (.str (Sx [32])) [x] h').W Q):=by
 rw[ED e1 e2 (by rw[OP,OP];omega),aY,<-RW];have g:(h++[MO.lst ((a++b).map λl=>PV.str (Sx l))])[h.length]?=some (.lst ((a++b).map λl=>PV.str (Sx l))):=aX;have x:Ext h (h++[MO.lst ((a++b).map λl=>PV.str (Sx l))]):=Ext.app _ _;generalize h++[MO.lst ((a++b).map λl=>PV.str (Sx l))]=h1 at g x;rw[gM (B:=250000) g hB (by rw[Pf];simp only[OZ,P0];omega),aY];exact k h1 x
theorem Dv:("cut" : Str)=Sx [99,117,116]:=by decide +kernel
theorem IV{d:eA}(o:d.Ok):Gv Ci [d.v] (.str (Sx d.t)):=λh Q k=>by
 refine bB ?_;have sl:=o.sl;have lw:=o.act.lw;have sT:=rR o.sn (by omega);have nT:=jQ o.nm;unfold Cg;rw[aR];simp[eA.v];refine now ?_;rw[aR];simp;refine xJ o.nm h _ λh1 x1=>?_;refine⟨rfl,?_⟩;have e:bH (mV 2) [some (PV.tup [nmV d.nm,snV d.sn,lN d.w d.ps]),some (nmV d.nm),some (snV d.sn),some (lN d.w d.ps),none] h1=.ok ⟨d.sn.map nmV,λ_=>true⟩ h1:=iJ (by simp[snV]);refine bN d.sn nmV (λp=>.str (Sx (nmT p))) e (λ_ _=>rfl) (by omega) (λp m=>⟨[some (nmV p)],by simp[eE],λh' _ Q k=>?_⟩) λn h2 x2 _ g=>?_
 ·simp;exact xJ (o.sn p m) h' Q k
 have g:h2[n]?=some (.lst ((d.sn.map nmT).map λl=>.str (Sx l))):=by rw[Ph];exact g
 rw[iO,gM (B:=50) g (λq hq=>by
  obtain⟨p,hp,rfl⟩:=OU.mp hq;exact jQ (o.sn p hp)) (by rw[OP];simp;omega),aY]
 have g3:(h2++[MO.lst [PV.str (Sx (nmT d.nm)),PV.str (Sx (aH [44] (d.sn.map nmT)))]])[h2.length]?=some (.lst [PV.str (Sx (nmT d.nm)),PV.str (Sx (aH [44] (d.sn.map nmT)))]):=aX;have x3:Ext h2 (h2++[MO.lst [PV.str (Sx (nmT d.nm)),PV.str (Sx (aH [44] (d.sn.map nmT)))]]):=Ext.app _ _;generalize h2++[MO.lst [PV.str (Sx (nmT d.nm)),PV.str (Sx (aH [44] (d.sn.map nmT)))]]=h3 at g3 x3;have ln:=((x1.trans x2).len);generalize h2.length=n0 at g3 ln;refine now ?_;rw[aR];refine GP g3 λh4 k4 g4=>now ?_;have x4:Ext h h4:=IU ((x1.trans x2).trans x3) ln k4;clear g3 k4 x3 g e x2 x1;have g4:h4[n0]?=some (.lst ([nmT d.nm,snT d.sn].map λl=>.str (Sx l))):=g4;have uy:∀{h:PH},vIx (lN d.w d.ps) (.int 0) h=.ok (.str (Sx d.w)) h:=by
  intro h;unfold lN;rw[Ij,lT (by omega) (by simp)];rfl
 rw[aR];simp only[CW,rG,iZ,jW,fN,bM,Rs.bind_ok,kI,Df,uy,D4,aY,yL]
 by_cases zw:Sx d.w=("write" : Str)
 ·rw[if_pos (by simpa using zw)]
  obtain⟨a,p,s,l,hp,h1,pa⟩:=o.act.wr zw;have av:lN d.w d.ps=.tup [.str (Sx d.w),a.v,plV p,.int s,.str (Sx l)]:=by unfold lN;rw[hp];rfl
  have oa:=o.act.ok a (by rw[hp];simp);have op:dJ p:=o.act.ok (.under p) (by rw[hp];simp);have os:s=1\/s=-1:=o.act.ok (.side s) (by rw[hp];simp);have ol:(Pt.signs l).Ok:=o.act.ok (.signs l) (by rw[hp];simp);have la:=Pt.len oa;have lp:=dZ op;have ll:=ol.2.1;have ec:iY [PV.str (Sx d.w),a.v,plV p,.int s,.str (Sx l)] (some 2) (some 4)=[plV p,.int s]:=rfl;have i4:atI [PV.str (Sx d.w),a.v,plV p,.int s,.str (Sx l)] 4=some (.str (Sx l)):=rfl;rw[av];simp[bG,bK,ec,xH,i4];refine rS oa pa h4 _ λh5 x5=>?_;refine xI op os h5 _ λh6 x6=>?_;have g7:(h6++[MO.lst ([[119,114,105,116,101],a.t,plT p++32::[sdC s],l].map λl=>PV.str (Sx l))])[h6.length]?=some (.lst ([[119,114,105,116,101],a.t,plT p++32::[sdC s],l].map λl=>PV.str (Sx l))):=aX;have x7:Ext h6 (h6++[MO.lst ([[119,114,105,116,101],a.t,plT p++32::[sdC s],l].map λl=>PV.str (Sx l))]):=Ext.app _ _;refine uI (a:=[nmT d.nm,snT d.sn]) (b:=[[119,114,105,116,101],a.t,plT p++32::[sdC s],l]) (x7 _ _ (x6 _ _ (x5 _ _ g4))) g7 (by simp) (λq hq=>by
   simp only[Pr,KP,Pk,or_false]at hq;rcases hq with(rfl|rfl)|rfl|rfl|rfl|rfl
   ·omega
   ·omega
   ·simp
   ·omega
   ·simp;omega
   ·omega) λh8 x8=>?_
  have et:d.t=aH [32] ([nmT d.nm,snT d.sn]++[[119,114,105,116,101],a.t,plT p++32::[sdC s],l]):=by
   rw[d.t_all,hp,AW (zw.trans xH)]
   show _=aH [32] ([nmT d.nm,snT d.sn,[119,114,105,116,101],a.t]++(plT p++32::[sdC s])::[l])
   have:plT p++32::[sdC s]=plT p++[32]++[sdC s]:=by simp
   rw[this,EC];rfl
  rw[<-et];exact k h8 ((((x4.trans x5).trans x6).trans x7).trans x8)
 ·rw[if_neg (by simpa using zw)]
  simp only[FQ];refine now ?_;rw[aR];simp only[CW,rG,iZ,jW,fN,bM,Rs.bind_ok,kI,Df,uy,D4,aY,yL]
  by_cases zc:Sx d.w=("cut" : Str)
  ·rw[if_pos (by simpa using zc)]
   obtain⟨a,q,hp,pa⟩:=o.act.ct zc;have av:lN d.w d.ps=.tup [.str (Sx d.w),a.v,B8 q]:=by unfold lN;rw[hp];rfl
   have oa:=o.act.ok a (by rw[hp];simp);have oq:(Pt.places q).Ok:=o.act.ok (.places q) (by rw[hp];simp);have la:=Pt.len oa;have lq:=uE oq.1 oq.2.2.1;have hq:=oq.2.2.1;rw[av];simp[bG,bK,Dv];refine rS oa pa h4 _ λh5 x5=>?_;have e:bH (aB vAt (mV 3) (mC (PV.int 2))) [some (PV.tup [nmV d.nm,snV d.sn,.tup [.str (Sx d.w),a.v,B8 q]]),some (nmV d.nm),some (snV d.sn),some (.tup [.str (Sx d.w),a.v,B8 q]),some (.ref n0)] h5=.ok ⟨q.map plV,λ_=>true⟩ h5:=iJ (by simp[B8]);refine bN q plV (λp=>.str (Sx (plT p))) e (λ_ _=>rfl) (by omega) (λp m=>⟨[some (plV p)],by simp[eE],λh' _ Q k=>?_⟩) λn h6 x6 _ g=>?_
   ·simp;exact eZ (oq.1 p m) h' Q k
   have g:h6[n]?=some (.lst ((q.map plT).map λl=>.str (Sx l))):=by rw[Ph];exact g
   rw[gM (B:=6144) g (λx hx=>by
    obtain⟨p,hp,rfl⟩:=OU.mp hx;exact dZ (oq.1 p hp)) (by rw[OP];simp;omega),aY]
   have g7:(h6++[MO.lst ([[99,117,116],a.t,hZ q].map λl=>PV.str (Sx l))])[h6.length]?=some (.lst ([[99,117,116],a.t,hZ q].map λl=>PV.str (Sx l))):=aX;have x7:Ext h6 (h6++[MO.lst ([[99,117,116],a.t,hZ q].map λl=>PV.str (Sx l))]):=Ext.app _ _;refine uI (a:=[nmT d.nm,snT d.sn]) (b:=[[99,117,116],a.t,hZ q]) (x7 _ _ (x6 _ _ (x5 _ _ g4))) g7 (by simp) (λx hx=>by
    simp only[Pr,KP,Pk,or_false]at hx;rcases hx with(rfl|rfl)|rfl|rfl|rfl
    ·omega
    ·omega
    ·simp
    ·omega
    ·omega) λh8 x8=>?_
   have et:d.t=aH [32] ([nmT d.nm,snT d.sn]++[[99,117,116],a.t,hZ q]):=by
    rw[d.t_all,hp,AW (zc.trans Dv)];rfl
   rw[<-et];exact k h8 ((((x4.trans x5).trans x6).trans x7).trans x8)
  ·rw[if_neg (by simpa using zc)]
   simp only[FQ];refine now ?_;have lp:=o.act.ln;simp[bG,bK];have e:bH (mV 3) [some (PV.tup [nmV d.nm,snV d.sn,lN d.w d.ps]),some (nmV d.nm),some (snV d.sn),some (lN d.w d.ps),some (.ref n0)] h4=.ok ⟨(.word d.w::d.ps).map Pt.v,λ_=>true⟩ h4:=iJ (by simp[lN,Pt.v]);refine bN (.word d.w::d.ps) Pt.v (λp=>.str (Sx p.t)) e (λ_ _=>rfl) (by simp;omega) (λp m=>⟨[some p.v],by simp[eE],λh' _ Q k=>?_⟩) λn h6 x6 _ g=>?_
   ·simp;rcases KP.mp m with rfl|m
    ·exact pF d.w h' Q k
    ·exact rS (o.act.ok p m) (o.act.ot zw zc p m) h' Q k
   have g:h6[n]?=some (.lst ((d.w::d.ps.map Pt.t).map λl=>.str (Sx l))):=by rw[Pa,Ph];exact g
   refine uI (a:=[nmT d.nm,snT d.sn]) (x6 _ _ g4) g (by simp;omega) (λx hx=>by
    simp only[Pr,KP,Pk,or_false]at hx;rcases hx with(rfl|rfl)|rfl|hx
    ·omega
    ·omega
    ·omega
    ·obtain⟨p,hp,rfl⟩:=OU.mp hx;have:=Pt.len (o.act.ok p hp);omega) λh8 x8=>?_
   have et:d.t=aH [32] ([nmT d.nm,snT d.sn]++d.w::d.ps.map Pt.t):=d.t_all;rw[<-et];exact k h8 ((x4.trans x6).trans x8)
theorem aM(c p:Int)(h:PH):∃n,aJ [.int c,.int p] h=.ok (.int n) h/\0<=n/\n<2147483647:=by
 have w:(aJ [.int c,.int p] h).W λq h'=>∃n:Int,q=.int n/\0<=n/\n<2147483647/\h'=h:=by
  refine bB ?_;unfold yU;rw[aR];simp(disch:=omega);have hm:0<=(c+7919*p+1)*48271%2147483647/\(c+7919*p+1)*48271%2147483647<2147483647:=by omega
  generalize (c+7919*p+1)*48271%2147483647=n at hm;refine now ?_;simp(disch:=omega);exact⟨Int.emod_nonneg _ (by omega),Int.emod_lt_of_pos _ (by omega)⟩
 obtain⟨q,h',e,n,rfl,h0,h1,rfl⟩:=KM w;exact⟨n,e,h0,h1⟩
theorem OA{c p:Int}(k:∀n:Int,0<=n->n<2147483647->Q (.int n) h):(aJ [.int c,.int p] h).W Q:=by
 obtain⟨n,e,h0,h1⟩:=aM c p h;rw[e,aY];exact k n h0 h1
variable{i:Int}
theorem Cs(h0:0<=i)(h1:i<26):∃c,atI dX i=some c/\97<=c/\c<=122:=by
 rw[lT h0 (by show i<(26:Nat);omega)];refine⟨97+i.toNat,?_,by omega,by omega⟩;unfold dX;rw[PF,List.getElem?_range (by omega)];rfl
def HI(P:Nat->Prop)(f:PV->Option PV->Ev)(h:PH)(i:Nat)(δ:Ev)(h':PH):Prop:=h'=h/\∃l x,l.length=i/\(∀c∈l,P c)/\δ=f (.str (Sx l)) x
variable{f:PV->Option PV->Ev}
theorem HI.step{P:Nat->Prop}{x:Option PV}(hl:∀c∈l,P c)(hc:P c):HI P f h (l.length+1) (f (.str (Sx (l++[c]))) x) h:=⟨rfl,l++[c],x,by simp,λd hd=>by
 rcases Pr.mp hd with hd|hd
 ·exact hl d hd
 ·simp at hd;exact hd▸hc,rfl⟩
theorem mE(c p:Int)(k:∀l,Lw 8 l->Q (.str (Sx l)) h):(jD [.int c,.int p] h).W Q:=by
 refine bB ?_;unfold Cb;rw[aR];simp[cT];refine now ?_;rw[aR];obtain⟨n,e,h0,h1⟩:=aM c p h;refine tG (j:=1+n%8) (HI (λc=>97<=c/\c<=122) (λt x=>[some (.int c),some (.int p),some t,x]) h) (by simp(disch:=omega) [e]) (by omega) ⟨rfl,[],none,rfl,by simp,rfl⟩ ?_ ?_
 ·rintro q δ h' hq ⟨rfl,l,x,rfl,hc,rfl⟩;unfold tU;obtain⟨n2,e2,a0,a1⟩:=aM c (p+1+l.length) h';obtain⟨cc,ec,b0,b1⟩:=Cs (i:=n2%26) (by omega) (by omega);have ix:vIx (.str (Sx dX)) (.int (n2%26)) h'=.ok (.str (Sx [cc])) h':=by
   rw[rK (by decide),cF,ec];rfl
  simp(disch:=omega) [e2,gL,ix];rw[aU (by rw[aF,aF];simp;omega),aY,cO];exact HI.step hc ⟨b0,b1⟩
 ·rintro δ h' ⟨rfl,l,x,hl,hc,rfl⟩;refine now ?_;simp;exact k l ⟨by omega,by omega,hc⟩
theorem Jo:(10:Int) ^ 40=10000000000000000000000000000000000000000:=by decide +kernel
theorem Ct{m:Int}(h0:0<=m)(h1:m<9999999999999999999999999999999999999999):1<=1+m/\(1+m).natAbs<10 ^ 40:=by
 have e:(10:Nat) ^ 40=10000000000000000000000000000000000000000:=by decide +kernel
 rw[e];omega
theorem fR{c:Int}(hb:OY c<=1048576){p:Int}(hp:0<=p/\p<100000)(k:∀n:Int,1<=n->n.natAbs<10 ^ 40->Q (.int n) h):(dB [.int c,.int p] h).W Q:=by
 refine bB ?_;unfold tV;rw[aR];obtain⟨n1,e1,a1,b1⟩:=aM c p h;obtain⟨n2,e2,a2,b2⟩:=aM c (p+1) h;simp(disch:=omega) [e1,e2];split
 ·obtain⟨x,y⟩:=Ct (m:=n2%9) (by omega) (by omega);exact k _ x y
 ·refine now ?_;rw[aR];have b3:OY (c+p+1)<=2097152:=by
   have h1:=intBits_add_le (m:=1048576) (n:=64) hb (intBits_le_64 (k:=p) (by omega) (by omega));have h2:=intBits_add_le h1 (intBits_le_64 (k:=1) (by decide) (by decide));exact PD h2 (by decide)
  have b4:OY (7 ^ 46)<=1000:=by decide +kernel
  have em:AV (.int (c+p+1)) (.int (7 ^ 46)) h=.ok (.int ((c+p+1)*7 ^ 46)) h:=Gx b3 b4;have ep:sR (.int 7) (.int 46) h=.ok (.int (7 ^ 46)) h:=rJ (by decide);have eq:sR (.int 10) (.int 40) h=.ok (.int 10000000000000000000000000000000000000000) h:=(rJ (by decide)).trans (by rw[<-Jo];rfl);have er:sR (.int 10) (.int 12) h=.ok (.int 1000000000000) h:=(rJ (by decide)).trans rfl;simp only[CW,rG,iZ,sZ,kJ,oK,jW,bM,fN,Rs.bind_ok,kI,OZ,P0,if_true,e1,e2,oM (show(0:Int)<8 by omega),Il,yL,aY];split
  ·have md:∀m:Int,bT (.int m) (.int 9999999999999999999999999999999999999999) h=.ok (.int (m%9999999999999999999999999999999999999999)) h:=λm=>oM (by decide);have sb:iX (.int 10000000000000000000000000000000000000000) (.int 1) h=.ok (.int 9999999999999999999999999999999999999999) h:=by rw[CZ];rfl
   simp only[FS,iZ,kI,Rs.bind_ok,jW,bM,fN,wJ,ep,em,eq,sb,md,aY];obtain⟨x,y⟩:=Ct (m:=(c+p+1)*7 ^ 46%9999999999999999999999999999999999999999) (Int.emod_nonneg _ (by decide)) (Int.emod_lt_of_pos _ (by decide));exact k _ x y
  ·rw[FQ];refine now ?_;have sb:iX (.int 1000000000000) (.int 1) h=.ok (.int 999999999999) h:=rfl;have md:∀m:Int,bT (.int m) (.int 999999999999) h=.ok (.int (m%999999999999)) h:=λm=>oM (by decide);have m4:bT (.int c) (.int 400) h=.ok (.int (c%400)) h:=oM (by decide);have ml:fU (.int n2) (.int (1+c%400)) h=.ok (.int (n2*(1+c%400))) h:=rH (.inl ⟨by omega,by omega⟩);simp only[FS,iZ,kI,Rs.bind_ok,jW,bM,fN,wJ,sZ,kJ,oK,OZ,P0,if_true,e2,m4,ml,er,sb,md,aY];obtain⟨x,y⟩:=Ct (m:=n2*(1+c%400)%999999999999) (Int.emod_nonneg _ (by decide)) (Int.lt_trans (Int.emod_lt_of_pos _ (by decide)) (by decide));exact k _ x y
theorem Bc{c:Int}(hb:OY c<=1048576){p:Int}(hp:0<=p/\p<99990)(k:∀t:Pt,t.Ok->t.plain->t.inner->t.knd="thing" -> Q t.v h):(rP [.int c,.int p] h).W Q:=by
 refine bB ?_;unfold yV;rw[aR];obtain⟨n1,e1,a1,b1⟩:=aM c p h;simp(disch:=omega) [e1,cT];split
 ·exact k .root trivial trivial trivial rfl
 ·refine now ?_;simp;refine mE c (p+1) λl w=>?_;refine fR hb (by omega) λn h1 h2=>?_;exact k (.thing (l,n)) ⟨w,h1,h2⟩ trivial trivial rfl
def PI(h:PH)(n:Nat)(c p m:Int)(i:Nat)(δ:Ev)(h':PH):Prop:=Ext h h'/\h.length<=n/\∃(s:Pl)(l:List Nat)(x y:Option PV),s.length=i/\(∀x∈s,qC x)/\(∀a r,s=a::r->a.s=1)/\Lw 8 l/\h'[n]?=some (.lst (s.map stV))/\δ=[some (.int c),some (.int p),some (.ref n),some (.int m),some (.str (Sx l)),x,y]
theorem pG{c:Int}(hb:OY c<=1048576){p:Int}(hp:0<=p/\p<90000)(k:∀(s:Pl) h',dJ s->s≠[]->Ext h h'->Q (plV s) h'):(jE [.int c,.int p] h).W Q:=by
 refine bB ?_;unfold yW;rw[aR];simp;have g0:(h++[MO.lst []])[h.length]?=some (.lst []):=aX;have x0:Ext h (h++[MO.lst []]):=Ext.app _ _;generalize h++[MO.lst []]=h0 at g0 x0;have n0:h.length<=h.length:=OO _;generalize hn:h.length=n at g0 n0;refine now ?_;rw[aR];obtain⟨d1,e1,a1,b1⟩:=aM c p h0;obtain⟨d2,e2,a2,b2⟩:=aM c (p+1) h0;simp(disch:=omega) [e1,e2];have hm:∃m:Int,(1+d1%5+59*if d2%16=0 then 1 else 0)=m/\1<=m/\m<=64:=⟨_,rfl,by split <;> omega,by split <;> omega⟩;obtain⟨m,em,m1,m2⟩:=hm;rw[em];refine now ?_;rw[aR];simp;refine mE c (p+2) λl w=>?_;refine now ?_;rw[aR];refine tG (j:=m) (PI h n c p m) (by simp) (by omega) ⟨x0,by omega,[],l,none,none,rfl,by simp,by simp,w,g0,rfl⟩ ?_ ?_
 ·rintro q δ h1 hq ⟨x1,ln,s,l,x,y,rfl,so,sh,w,g,rfl⟩;unfold pW;rw[aR];simp;refine now ?_;rw[aR];obtain⟨d3,e3,a3,b3⟩:=aM c (p+20+s.length) h1;have fin:∀sd:Int,(sd=1\/sd=-1)->(s=[]->sd=1)->∀E:FE,E.nx=PI h n c p m (s.length+1)->Lt (aG (bE (aP (aB vEq (aB bT (aD 2 aJ (aA (mV 0) (aA (aB aE (aB aE (mV 1) (mC (.int 5))) (mV 5)) aC))) (mC (.int 3))) (mC (.int 0)))) (bI 4 (aD 2 jD (aA (mV 0) (aA (aB aE (aB aE (mV 1) (mC (.int 30))) (mV 5)) aC)))) bF) (mW (mMt isL (onL fD) (mV 2) (aA (cD (aA (mV 6) (aA (mV 4) (aA (aD 2 dB (aA (mV 0) (aA (aB aE (aB aE (mV 1) (mC (.int 40))) (mV 5)) aC))) (aA (aB bT (aD 2 aJ (aA (mV 0) (aA (aB aE (mV 1) (aB fU (mC (.int 7)) (mV 5))) aC))) (mC (.int 12))) aC))))) aC)))) E [some (.int c),some (.int p),some (.ref n),some (.int m),some (.str (Sx l)),some (.int s.length),some (.int sd)] h1:=by
   intro sd n9 d6 E hE;refine now ?_;rw[aR];obtain⟨d4,e4,a4,b4⟩:=aM c (p+5+s.length) h1;obtain⟨d5,e5,a5,b5⟩:=aM c (p+7*s.length) h1;have ap:∀l,Lw 8 l->Lt (mW (mMt isL (onL fD) (mV 2) (aA (cD (aA (mV 6) (aA (mV 4) (aA (aD 2 dB (aA (mV 0) (aA (aB aE (aB aE (mV 1) (mC (.int 40))) (mV 5)) aC))) (aA (aB bT (aD 2 aJ (aA (mV 0) (aA (aB aE (mV 1) (aB fU (mC (.int 7)) (mV 5))) aC))) (mC (.int 12))) aC))))) aC))) E [some (.int c),some (.int p),some (.ref n),some (.int m),some (.str (Sx l)),some (.int s.length),some (.int sd)] h1:=by
    intro l w;refine now ?_;simp[Ik g];refine fR hb (by omega) λnn n1 n2=>?_;simp(disch:=omega) [e5];have st:qC ⟨sd,l,nn,d5%12⟩:=⟨n9,w,n1,n2,by show 0<=d5%12;omega,by show d5%12<=11;omega⟩;rw[BW g (by rw[OP];omega),aY,hE];refine⟨x1.setN ln,ln,s++[⟨sd,l,nn,d5%12⟩],l,some (.int s.length),some (.int sd),by simp,λz hz=>?_,λa r e=>?_,w,?_,rfl⟩
    ·rcases Pr.mp hz with hz|hz
     ·exact so z hz
     ·simp at hz;exact hz▸st
    ·cases s with
     |nil=>
      simp at e;rw[<-e.1];exact d6 rfl
     |cons b r2=>
      simp at e;rw[<-e.1];exact sh b r2 rfl
    ·rw[pQ g,RW];rfl
   simp(disch:=omega) [e4];split
   ·refine mE c (p+30+s.length) λl2 w2=>?_;exact ap l2 w2
   ·exact ap l w
  by_cases z:s=[]
  ·subst z;simp;exact fin 1 (.inl rfl) (λ_=>rfl) _ rfl
  ·have z1:0<s.length:=by cases s with|nil=>exact absurd rfl z|cons=>simp
   have z2:decide ((0:Int)<(s.length:Int))=true:=by simp;omega
   simp(disch:=omega) [e3,z1];split
   ·exact fin (-1) (.inr rfl) (λq=>absurd q z) _ rfl
   ·exact fin 1 (.inl rfl) (λ_=>rfl) _ rfl
 ·rintro δ h1 ⟨x1,ln,s,l,x,y,hl,so,sh,w,g,rfl⟩;refine now ?_;simp[bY,aO,g];refine k s h1 ⟨so,by omega,sh⟩ (λe=>?_) x1;rw[e]at hl;simp at hl;omega
theorem Dw{c:Int}(hb:OY c<=1048576){p:Int}(hp:0<=p/\p<80000)(k:∀(s:Pl) (sd:Int) h',dJ s->(sd=1\/sd=-1)->(s=[]->sd=1)->Ext h h'->Q (.tup [plV s,.int sd]) h'):(yX [.int c,.int p] h).W Q:=by
 refine bB ?_;unfold Cc;rw[aR];obtain⟨d1,e1,a1,b1⟩:=aM c p h;simp(disch:=omega) [e1];split
 ·exact k [] 1 h ⟨by simp,by simp,by simp⟩ (.inl rfl) (λ_=>rfl) (Ext.refl _)
 ·refine now ?_;simp;refine pG hb (by omega) λs h1 so z x1=>?_;obtain⟨d2,e2,a2,b2⟩:=aM c (p+2) h1;simp(disch:=omega) [e2];have:1-d2%2*2=1\/1-d2%2*2=-1:=by omega
  exact k s _ h1 so this (λq=>absurd q z) x1
theorem Bd{c:Int}(hb:OY c<=1048576)(k:∀(t:Pt) h',t.Ok->t.plain->t.knd="spot" -> Ext h h'->Q t.v h'):(yY [.int c] h).W Q:=by
 refine bB ?_;unfold Cd;rw[aR];obtain⟨d1,e1,a1,b1⟩:=aM c 100 h;simp(disch:=omega) [e1];split
 ·refine Dw hb (by omega) λs sd h1 so hs hz x1=>?_;exact k (.pair s sd) h1 ⟨so,hs,hz⟩ trivial rfl x1
 ·refine now ?_;rw[aR];simp[cT];refine now ?_;rw[aR];obtain⟨n,e,h0,h1⟩:=aM c 102 h;refine tG (j:=1+n%12) (HI (λc=>97<=c/\c<=122) (λt x=>[some (.int c),some t,x]) h) (by simp(disch:=omega) [e]) (by omega) ⟨rfl,[],none,rfl,by simp,rfl⟩ ?_ ?_
  ·rintro q δ h' hq ⟨rfl,l,x,rfl,hc,rfl⟩;unfold tW;obtain⟨n2,e2,a0,a1⟩:=aM c (103+l.length) h';have lz:("zyxwvutsrqponmlkjihgfedcba" : Str)=Sx dX.reverse:=by decide +kernel
   obtain⟨cc,ec,b0,b1⟩:∃cc,atI dX.reverse (n2%26)=some cc/\97<=cc/\cc<=122:=by
    have hl:dX.reverse.length=26:=by decide
    have hi:(n2%26).toNat<dX.reverse.length:=by omega
    refine⟨dX.reverse[(n2%26).toNat],?_,?_⟩
    ·rw[lT (by omega) (by rw[hl];omega),Qc hi]
    ·have:=List.mem_reverse.mp (Qt hi);obtain⟨z,hz,e⟩:=OU.mp this;have:=QX.mp hz;omega
   have ix:vIx (.str (Sx dX.reverse)) (.int (n2%26)) h'=.ok (.str (Sx [cc])) h':=by
    rw[rK (by decide),cF,ec];rfl
   simp(disch:=omega) [e2,lz,ix];rw[aU (by rw[aF,aF];simp;omega),aY,cO];exact HI.step hc ⟨b0,b1⟩
  ·rintro δ h' ⟨rfl,l,x,hl,hc,rfl⟩;refine now ?_;simp;exact k (.key l) h' ⟨by omega,by omega,hc⟩ trivial rfl (Ext.refl _)
theorem EE(c:Int)(k:∀n:Int,n.natAbs<10 ^ 40->Q (.int n) h):(tY [.int c] h).W Q:=by
 refine bB ?_;unfold tX;rw[aR];obtain⟨d1,e1,a1,b1⟩:=aM c 120 h;obtain⟨d2,e2,a2,b2⟩:=aM c 121 h;have eN:(10:Nat) ^ 40=10000000000000000000000000000000000000000:=by decide +kernel
 rw[eN]at k;simp(disch:=omega) [e1,e2];split
 ·exact k _ (by omega)
 ·refine now ?_;have eq:sR (.int 10) (.int 40) h=.ok (.int 10000000000000000000000000000000000000000) h:=(rJ (by decide)).trans (by rw[<-Jo];rfl);have m1:fU (.int c) (.int 7919) h=.ok (.int (c*7919)) h:=rH (.inr ⟨by decide,by decide⟩);have m2:fU (.int 2) (.int 10000000000000000000000000000000000000000) h=.ok (.int 20000000000000000000000000000000000000000) h:=(rH (.inl ⟨by decide,by decide⟩)).trans rfl;have s1:iX (.int 20000000000000000000000000000000000000000) (.int 1) h=.ok (.int 19999999999999999999999999999999999999999) h:=rfl;have s2:iX (.int 10000000000000000000000000000000000000000) (.int 1) h=.ok (.int 9999999999999999999999999999999999999999) h:=rfl;have md:bT (.int (c*7919)) (.int 19999999999999999999999999999999999999999) h=.ok (.int (c*7919%19999999999999999999999999999999999999999)) h:=oM (by decide);simp only[FS,iZ,kI,Rs.bind_ok,jW,bM,m1,eq,m2,s1,s2,md,CZ,aY];have h0:=Int.emod_nonneg (c*7919) (show(19999999999999999999999999999999999999999:Int)≠0 by decide);have h1:=Int.emod_lt_of_pos (c*7919) (show(0:Int)<19999999999999999999999999999999999999999 by decide);exact k _ (by omega)
theorem GQ(c:Int)(k:∀l,(Pt.signs l).Ok->Q (.str (Sx l)) h):(zA [.int c] h).W Q:=by
 refine bB ?_;unfold yZ;rw[aR];simp only[CU,kI,aY];refine now ?_;rw[aR];obtain⟨al,s1,s2,e1,e2,ea,hl,ha⟩:∃al s1 s2:List Nat,(" !\"#$&'()*+,-./0123456789:;<=>?@ABCDEFGHIJKLMNOPQRSTUVWXYZ[\\]^_`" : Str)=Sx s1/\("abcdefghijklmnopqrstuvwxyz{|}~" : Str)=Sx s2/\s1++s2=al/\al.length=94/\∀c∈al,32<=c/\c<=126:=⟨_,(" !\"#$&'()*+,-./0123456789:;<=>?@ABCDEFGHIJKLMNOPQRSTUVWXYZ[\\]^_`" : Str).cps.toList,("abcdefghijklmnopqrstuvwxyz{|}~" : Str).cps.toList,(rC _).symm,(rC _).symm,rfl,by decide +kernel,by decide +kernel⟩;have le:s1.length+s2.length=94:=by rw[<-Pf,ea,hl]
 rw[e1,e2];simp;rw[aU (by rw[aF,aF];omega),aY,cO,ea];refine now ?_;rw[aR];simp[cT];refine now ?_;rw[aR];obtain⟨n,e,h0,h1⟩:=aM c 130 h;refine tG (j:=1+n%12) (HI (λc=>32<=c/\c<=126) (λt x=>[some (.int c),some (.str (Sx al)),some t,x]) h) (by simp(disch:=omega) [e]) (by omega) ⟨rfl,[],none,rfl,by simp,rfl⟩ ?_ ?_
 ·rintro q δ h' hq ⟨rfl,l,x,rfl,hc,rfl⟩;unfold pX;obtain⟨n2,e3,a0,a1⟩:=aM c (131+l.length) h';obtain⟨n3,e4,a2,a3⟩:=aM c (150+l.length) h';have vl:iH [.str (Sx al)] h'=.ok (.int 94) h':=by rw[tE (by rw[aF];omega),aF,hl];rfl
  have ix:∀i:Int,0<=i->i<94->∃cc,vIx (.str (Sx al)) (.int i) h'=.ok (.str (Sx [cc])) h'/\32<=cc/\cc<=126:=λi i0 i1=>by
   have hi:i.toNat<al.length:=by omega
   refine⟨al[i.toNat],?_,ha _ (Qt hi)⟩;rw[rK (by rw[aF];omega),cF,lT i0 (by omega),Qc hi];rfl
  simp(disch:=omega) [e3,e4,vl,-rK];obtain⟨cc,ec,b0,b1⟩:=ix (n2%94*if 0<n3%4 then 1 else 0) (by split <;> omega) (by split <;> omega);rw[ec,aY,aU (by rw[aF,aF];simp;omega),aY,cO];exact HI.step hc ⟨b0,b1⟩
 ·rintro δ h' ⟨rfl,l,x,hl,hc,rfl⟩;refine now ?_;simp;exact k l ⟨by omega,by omega,hc⟩
theorem jT{x:Str}(f:gLk dE x=some (ps.map λp=>.str p.knd))(ok:∀p∈ps,p.Ok)(inn:∀p∈ps.dropLast,p.inner)(lw:x.cps.toList.length<=10/\∀c∈x.cps.toList,97<=c/\c<=122)(ln:ps.length<=4)(w:(x≠"write" /\ x≠"cut" /\ ∀p∈ps,p.plain)\/(x="write" /\ ∃a p s l,ps=[a,.under p,.side s,.signs l]/\(p=[]->s=1)/\a.plain)\/(x="cut" /\ ∃a q,ps=[a,.places q]/\a.plain)):eW x.cps.toList ps:=by
 have wc:("write" : Str)≠"cut" := by decide +kernel
 refine⟨by rw[rC];exact f,ok,inn,lw.1,lw.2,ln,λq=>?_,λq=>?_,λq q2=>?_⟩
 ·rw[rC]at q;rcases w with⟨a,_,_⟩|⟨_,w⟩|⟨a,_⟩
  ·exact absurd q a
  ·exact w
  ·exact absurd (q.symm.trans a) wc
 ·rw[rC]at q;rcases w with⟨_,a,_⟩|⟨a,_⟩|⟨_,w⟩
  ·exact absurd q a
  ·exact absurd (a.symm.trans q) wc
  ·exact w
 ·rw[rC]at q q2;rcases w with⟨_,_,w⟩|⟨a,_⟩|⟨a,_⟩
  ·exact w
  ·exact absurd a q
  ·exact absurd a q2
theorem IW(x:Str)(ps:List Pt):lN x.cps.toList ps=.tup (.str x::ps.map Pt.v):=by
 unfold lN;rw[rC]
def AK(Q:PV->PH->Prop)(h:PH):Prop:=∀(x:Str) ps h',eW x.cps.toList ps->Ext h h'->Q (.tup (.str x::ps.map Pt.v)) h'
theorem fm(x:Str)(l:List PV)(e:gLk dE x=some l)(q:(ps.map λp=>PV.str p.knd)=l):gLk dE x=some (ps.map λp=>.str p.knd):=by rw[e,q]
variable{P:Pt->Prop}
theorem all2{a b:Pt}(ha:P a)(hb:P b):∀p∈[a,b],P p:=λp m=>by
 simp only[KP,Pk,or_false]at m;rcases m with rfl|rfl
 ·exact ha
 ·exact hb
theorem Cu{a b c:Pt}(ha:P a)(hb:P b)(hc:P c):∀p∈[a,b,c],P p:=λp m=>by
 rcases KP.mp m with rfl|m
 ·exact ha
 ·exact all2 hb hc p m
theorem Lj{a b c d:Pt}(ha:P a)(hb:P b)(hc:P c)(hd:P d):∀p∈[a,b,c,d],P p:=λp m=>by
 rcases KP.mp m with rfl|m
 ·exact ha
 ·exact Cu hb hc hd p m
theorem all1{a:Pt}(ha:P a):∀p∈[a],P p:=λp m=>by
 simp only[KP,Pk,or_false]at m;exact m▸ha
theorem IX{x:Str}(hx:x="add" \/ x="choose" \/ x="put" \/ x="take"){t:Pt}(ot:t.Ok)(pt:t.plain)(it:t.inner)(kt:t.knd="thing")(hn:n.natAbs<10 ^ 40):eW x.cps.toList [t,.num n]:=by
 have kk:([t,.num n].map λp:Pt=>PV.str p.knd)=[.str "thing",.str "number"]:=by
  show[PV.str t.knd,.str "number"]=_
  rw[kt]
 rcases hx with rfl|rfl|rfl|rfl
 all_goals exact jT (fm _ _ rfl kk) (all2 ot hn) (all1 it) (by decide +kernel) (by simp) (.inl ⟨by decide +kernel,by decide +kernel,all2 pt trivial⟩)
theorem GR{x:Str}(hx:x="mark" \/ x="clear"){t:Pt}(ot:t.Ok)(pt:t.plain)(it:t.inner)(kt:t.knd="thing"){q:Pl}(op:dJ p)(zp:p≠[])(oq:dJ q)(zq:q≠[])(w:Lw 8 l):eW x.cps.toList [t,.place p,.place q,.word l]:=by
 have kk:([t,.place p,.place q,.word l].map λp:Pt=>PV.str p.knd)=[.str "thing",.str "place",.str "place",.str "word"]:=by
  show[PV.str t.knd,.str "place",.str "place",.str "word"]=_
  rw[kt]
 rcases hx with rfl|rfl
 all_goals exact jT (fm _ _ rfl kk) (Lj (P:=Pt.Ok) ot ⟨op,zp⟩ ⟨oq,zq⟩ w) (Cu (P:=Pt.inner) it trivial trivial) (by decide +kernel) (by simp) (.inl ⟨by decide +kernel,by decide +kernel,Lj pt trivial trivial trivial⟩)
theorem GS(h0:0<=i)(h1:i<6):∃l,l∈eY/\atI [PV.str "map",.str "row",.str "count",.str "choice",.str "bag",.str "text"] i=some (.str (Sx l)):=by
 have e:([.str "map",.str "row",.str "count",.str "choice",.str "bag",.str "text"]:List PV)=eY.map λl=>.str (Sx l):=by decide +kernel
 rw[e];have hi:i.toNat<eY.length:=by show i.toNat<6;omega
 refine⟨eY[i.toNat],Qt hi,?_⟩;rw[lT h0 (by rw[OP];show i<6;exact h1),PF,Qc hi];rfl
theorem GT(hl:l∈eY){t s:Pt}(ot:t.Ok)(pt:t.plain)(it:t.inner)(kt:t.knd="thing")(os:s.Ok)(ps:s.plain)(ks:s.knd="spot"):eW ("make" : Str).cps.toList [.kind l,t,s]:=by
 have kk:([.kind l,t,s].map λp:Pt=>PV.str p.knd)=[.str "kind",.str "thing",.str "spot"]:=by
  show[PV.str "kind",.str t.knd,.str s.knd]=_
  rw[kt,ks]
 exact jT (fm _ _ rfl kk) (Cu (P:=Pt.Ok) hl ot os) (all2 (P:=Pt.inner) trivial it) (by decide +kernel) (by simp) (.inl ⟨by decide +kernel,by decide +kernel,Cu trivial pt ps⟩)
theorem GU{t u s:Pt}(ot:t.Ok)(pt:t.plain)(it:t.inner)(kt:t.knd="thing")(ou:u.Ok)(pu:u.plain)(iu:u.inner)(ku:u.knd="thing")(os:s.Ok)(ps:s.plain)(ks:s.knd="spot"):eW ("move" : Str).cps.toList [t,u,s]:=by
 have kk:([t,u,s].map λp:Pt=>PV.str p.knd)=[.str "thing",.str "thing",.str "spot"]:=by
  show[PV.str t.knd,.str u.knd,.str s.knd]=_
  rw[kt,ks,ku]
 exact jT (fm _ _ rfl kk) (Cu ot ou os) (all2 it iu) (by decide +kernel) (by simp) (.inl ⟨by decide +kernel,by decide +kernel,Cu pt pu ps⟩)
theorem EF{t:Pt}(ot:t.Ok)(pt:t.plain)(it:t.inner)(kt:t.knd="thing"){s:Int}(op:dJ p)(hs:s=1\/s=-1)(hz:p=[]->s=1)(ol:(Pt.signs l).Ok):eW ("write" : Str).cps.toList [t,.under p,.side s,.signs l]:=by
 have kk:([t,.under p,.side s,.signs l].map λp:Pt=>PV.str p.knd)=[.str "thing",.str "under",.str "side",.str "signs"]:=by
  show[PV.str t.knd,.str "under",.str "side",.str "signs"]=_
  rw[kt]
 exact jT (fm _ _ rfl kk) (Lj (P:=Pt.Ok) ot op hs ol) (Cu (P:=Pt.inner) it trivial trivial) (by decide +kernel) (by simp) (.inr (.inl ⟨rfl,t,p,s,l,rfl,hz,pt⟩))
theorem IY{t:Pt}(ot:t.Ok)(pt:t.plain)(it:t.inner)(kt:t.knd="thing"){q:List Pl}(oq:(Pt.places q).Ok):eW ("cut" : Str).cps.toList [t,.places q]:=by
 have kk:([t,.places q].map λp:Pt=>PV.str p.knd)=[.str "thing",.str "places"]:=by
  show[PV.str t.knd,.str "places"]=_
  rw[kt]
 exact jT (fm _ _ rfl kk) (all2 ot oq) (all1 it) (by decide +kernel) (by simp) (.inr (.inr ⟨rfl,t,q,rfl,pt⟩))
theorem GV{a b:Int}(ha:(Pt.nth a).Ok)(hb:(Pt.nth b).Ok):eW ("back" : Str).cps.toList [.nth a,.nth b]:=
 jT (fm _ _ rfl rfl) (all2 ha hb) (all1 (P:=Pt.inner) trivial) (by decide +kernel) (by simp) (.inl ⟨by decide +kernel,by decide +kernel,all2 (P:=Pt.plain) trivial trivial⟩)
theorem GW{t:Pt}(ot:t.Ok)(pt:t.plain)(kt:t.knd="thing"):eW ("drop" : Str).cps.toList [t]:=by
 have kk:([t].map λp:Pt=>PV.str p.knd)=[.str "thing"]:=by
  show[PV.str t.knd]=_
  rw[kt]
 exact jT (fm _ _ rfl kk) (all1 ot) (λp m=>by simp at m) (by decide +kernel) (by simp) (.inl ⟨by decide +kernel,by decide +kernel,all1 pt⟩)
theorem Cv:eW ("settle" : Str).cps.toList []:=
 jT (fm _ _ rfl rfl) (λp m=>by simp at m) (λp m=>by simp at m) (by decide +kernel) (by simp) (.inl ⟨by decide +kernel,by decide +kernel,λp m=>by simp at m⟩)
theorem Be:∀{vs:List PV},(∀v∈vs,∃p,dJ p/\p≠[]/\v=plV p)->∃q:List Pl,vs=q.map plV/\(∀p∈q,dJ p)/\∀p∈q,p≠[]
 |[],_=>⟨[],rfl,by simp,by simp⟩
 |v::r,h=>by
  obtain⟨p,h1,h2,rfl⟩:=h v (by simp);obtain⟨q,rfl,h3,h4⟩:=Be (vs:=r) λv hv=>h v (by simp[hv]);refine⟨p::q,rfl,λx hx=>?_,λx hx=>?_⟩
  ·rcases KP.mp hx with rfl|hx
   ·exact h1
   ·exact h3 x hx
  ·rcases KP.mp hx with rfl|hx
   ·exact h2
   ·exact h4 x hx
variable{x2 x4:Option PV}
theorem IZ{c m:Int}(hb:OY c<=1048576)(m1:1<=m)(m2:m<=40){x5 x7:Option PV}(k:∀(q:List Pl) n h',(∀p∈q,dJ p)->(∀p∈q,p≠[])->q.length<=40->q≠[]->Ext h h'->h'[n]?=some (.lst (q.map plV))->Q (.ref n) h'):
  (bX [none,some 0] (iI (aA (mV 6) aC)) (gN 0) gP (aD 2 jE (aA (mV 1) (aA (aB aE (mC (PV.int 250)) (aB fU (mC (PV.int 11)) (mV 0))) aC))) [some (.int c),x1,x2,x3,x4,x5,some (.int m),x7] h).W Q:=by
 have e:iI (aA (mV 6) aC) [some (.int c),x1,x2,x3,x4,x5,some (.int m),x7] h=.ok ⟨upTo 0 m.toNat,λ_=>true⟩ h:=by
  have hj:-(2 ^ 62)<=m/\m<2 ^ 62:=by omega
  unfold iI;simp[CQ];omega
 refine Dn (λ_ v=>∃p,dJ p/\p≠[]/\v=plV p) e (λ_ _=>rfl) (by rw[bW];omega) (λi x hx=>?_) λn h' vs x hl hv g pv=>?_
 ·have hi:i<m.toNat:=by
   have:=(Io.mp hx).1;rw[bW]at this;exact this
  rw[oJ _ _ _ hi]at hx;cases hx
  refine⟨[some (.int (0+i)),some (.int c)],by simp[eE],λh' x' Q k=>?_⟩;simp(disch:=omega);refine pG hb (by omega) λp h2 op zp x2=>k _ h2 x2 ⟨p,op,zp,rfl⟩
 ·obtain⟨q,rfl,o1,o2⟩:=Be (vs:=vs) λv hv=>by
   obtain⟨i,hi⟩:=RR.mp hv;exact pv i v hi
  rw[bW,OP]at hv;exact k q n h' o1 o2 (by omega) (λz=>by rw[z]at hv;simp at hv;omega) x g
theorem Lk{c:Int}(hb:OY c<=1048576)(k:AK Q h):(Dk [.int c] h).W Q:=by
 refine bB ?_;unfold Gy;rw[aR];obtain⟨d,e,d0,d1⟩:=aM c 1 h;simp(disch:=omega) [e];have hn:∃n:Int,d%13=n/\0<=n/\n<13:=⟨_,rfl,by omega,by omega⟩;obtain⟨n,en,n0,n1⟩:=hn;rw[en];refine now ?_;rw[aR];simp;refine Bc hb (by omega) λt ot pt it kt=>?_;refine now ?_;rw[aR];have sel:∀{a b:Prop} {z:Prop} [Decidable z] ,(z->a)->(¬ z->b)->(if z then a else b):=λ{a b z} _ f g=>by
  by_cases q:z
  ·rw[if_pos q];exact f q
  ·rw[if_neg q];exact g q
 have g6:(h++[MO.lst [PV.str "map",.str "row",.str "count",.str "choice",.str "bag",.str "text"]])[h.length]?=some (.lst [PV.str "map",.str "row",.str "count",.str "choice",.str "bag",.str "text"]):=aX;have x6:Ext h (h++[MO.lst [PV.str "map",.str "row",.str "count",.str "choice",.str "bag",.str "text"]]):=Ext.app _ _;simp;refine sel (λz0=>?_) λz0=>now ?_
 ·rw[aN];simp;generalize h++[MO.lst [PV.str "map",.str "row",.str "count",.str "choice",.str "bag",.str "text"]]=h1 at g6 x6;refine OA λd2 a2 b2=>?_;obtain⟨l,hl,el⟩:=GS (i:=d2%6) (by omega) (by omega);simp(disch:=omega) [dH g6,el];refine Bd hb λs h2 os ps ks x2=>?_;exact k "make" [.kind l,t,s] h2 (GT hl ot pt it kt os ps ks) (x6.trans x2)
 clear g6 x6;rw[aR];simp;refine sel (λz1=>?_) λz1=>now ?_
 ·refine Bc hb (by omega) λu ou pu iu ku=>?_;refine Bd hb λs h2 os ps ks x2=>?_;exact k "move" [t,u,s] h2 (GU ot pt it kt ou pu iu ku os ps ks) x2
 rw[aR];simp;refine sel (λz2=>?_) λz2=>now ?_
 ·have g4:(h++[MO.lst [PV.str "add",.str "choose",.str "put",.str "take"]])[h.length]?=some (.lst [PV.str "add",.str "choose",.str "put",.str "take"]):=aX;have x4:Ext h (h++[MO.lst [PV.str "add",.str "choose",.str "put",.str "take"]]):=Ext.app _ _;generalize h++[MO.lst [PV.str "add",.str "choose",.str "put",.str "take"]]=h1 at g4 x4;rw[dH g4];obtain⟨x,ex,hx⟩:∃x:Str,atI [PV.str "add",.str "choose",.str "put",.str "take"] (n-2)=some (.str x)/\(x="add" \/ x="choose" \/ x="put" \/ x="take"):=by
   have:n=2\/n=3\/n=4\/n=5:=by omega
   rcases this with rfl|rfl|rfl|rfl
   ·exact⟨_,rfl,.inl rfl⟩
   ·exact⟨_,rfl,.inr (.inl rfl)⟩
   ·exact⟨_,rfl,.inr (.inr (.inl rfl))⟩
   ·exact⟨_,rfl,.inr (.inr (.inr rfl))⟩
  rw[ex,cZ,aY];refine EE c λm hm=>?_;exact k x [t,.num m] h1 (IX hx ot pt it kt hm) x4
 rw[aR];simp;refine sel (λz3=>?_) λz3=>now ?_
 ·rw[aN];simp;refine Dw hb (by omega) λs sd h1 so hs hz x1=>?_;simp;refine GQ c λl ol=>?_;exact k "write" [t,.under s,.side sd,.signs l] h1 (EF ot pt it kt so hs hz ol) x1
 rw[aR];simp;refine sel (λz4=>?_) λz4=>now ?_
 ·rw[aN];obtain⟨d2,e2,a2,b2⟩:=aM c 3 h;obtain⟨d3,e3,a3,b3⟩:=aM c 4 h;simp(disch:=omega) [e2,e3];have hm:∃m:Int,(1+d2%3+37*if d3%8=0 then 1 else 0)=m/\1<=m/\m<=40:=⟨_,rfl,by split <;> omega,by split <;> omega⟩;obtain⟨m,em,m1,m2⟩:=hm;rw[em];refine IZ hb m1 m2 λq nn h1 o1 o2 ol oz x1 g=>?_;simp[bY,aO,g];exact k "cut" [t,.places q] h1 (IY ot pt it kt ⟨o1,o2,ol,oz⟩) x1
 rw[aR];simp;refine sel (λz5=>?_) λz5=>now ?_
 ·rw[aN];simp;refine pG hb (by omega) λp h1 op zp x1=>?_;refine pG hb (by omega) λq h2 oq zq x2=>?_;have g4:(h2++[MO.lst [PV.str "mark",.str "clear"]])[h2.length]?=some (.lst [PV.str "mark",.str "clear"]):=aX;have x4:Ext h2 (h2++[MO.lst [PV.str "mark",.str "clear"]]):=Ext.app _ _;generalize h2++[MO.lst [PV.str "mark",.str "clear"]]=h3 at g4 x4;rw[dH g4];obtain⟨x,ex,hx⟩:∃x:Str,atI [PV.str "mark",.str "clear"] (n-8)=some (.str x)/\(x="mark" \/ x="clear"):=by
   have:n=8\/n=9:=by omega
   rcases this with rfl|rfl
   ·exact⟨_,rfl,.inl rfl⟩
   ·exact⟨_,rfl,.inr rfl⟩
  rw[ex,cZ,aY];refine mE c 500 λl w=>?_;exact k x [t,.place p,.place q,.word l] h3 (GR hx ot pt it kt op zp oq zq w) ((x1.trans x2).trans x4)
 rw[aR];simp;refine sel (λz6=>?_) λz6=>now ?_
 ·refine fR hb (by omega) λa a1 a2=>?_;refine fR hb (by omega) λb b1 b2=>?_;exact k "back" [.nth a,.nth b] h (GV ⟨a1,a2⟩ ⟨b1,b2⟩) (Ext.refl _)
 rw[aR];simp;refine sel (λz7=>?_) λz7=>now ?_
 ·exact k "settle" [] h Cv (Ext.refl _)
 simp;exact k "drop" [t] h (GW ot pt kt) (Ext.refl _)
def EG(S:Seen)(x:Str):Seen:=S.filter λp=>decide (p.1≠x)
def SI9(D:Seen):Prop:=(D.map (·.1)).Nodup/\∀p∈D,∃l,Lw 8 l/\p.1=Sx l/\1<=p.2/\p.2.natAbs<10 ^ 40
variable{S:Seen}
set_option tactic.hygienic true in
theorem GX{h:Str}{p:Str×Int}(m:p∈dput S h n):p∈S\/p=(h,n):=by
 unfold dput at m;split at m
 ·obtain⟨q,hq,rfl⟩:=OU.mp m;split
  ·rename_i e;exact .inr (by rw[e])
  ·exact .inl hq
 ·rcases Pr.mp m with m|m
  ·exact .inl m
  ·exact .inr (by simpa using m)
theorem SI9.put{D:Seen}(h:SI9 D)(w:Lw 8 l)(h1:1<=n)(h2:n.natAbs<10 ^ 40):SI9 (dput D (Sx l) n):=⟨Et h.1,λp hp=>by
 rcases GX hp with hp|rfl
 ·exact h.2 p hp
 ·exact⟨l,w,rfl,h1,h2⟩⟩
def DI(h:PH)(nd:Nat)(c:Int)(a:PV)(i:Nat)(δ:Ev)(h':PH):Prop:=Ext h h'/\h.length<=nd/\∃D x,SI9 D/\D.length<=i/\h'[nd]?=some (.dK (emb D))/\δ=[some (.int c),some a,some (.ref nd),x]
theorem Jp{p:Str×Int}(h:∃l,Lw 8 l/\p.1=Sx l/\1<=p.2/\p.2.natAbs<10 ^ 40):jZ (p.1.cps.toList,p.2)/\(Sx p.1.cps.toList,p.2)=p:=by
 obtain⟨l,w,e,h1,h2⟩:=h;refine⟨⟨?_,h1,h2⟩,by rw[rC]⟩
 show Lw 8 p.1.cps.toList
 rw[e,cF];exact w
theorem EH{D:Seen}(p:T.Perm D)(nd:(D.map (·.1)).Nodup){x:Str}:look T x=look D x:=by
 have nt:(T.map (·.1)).Nodup:=(p.map (·.1)).nodup_iff.mpr nd;cases e:look D x with
 |some m=>exact AZ nt (p.mem_iff.mpr (AX e))
 |none=>
  cases e2:look T x with
  |none=>rfl
  |some m=>
   have:=AZ nd (p.mem_iff.mp (AX e2));rw[e]at this;cases this
variable{nd:Nat}
theorem uJ{c:Int}(hb:OY c<=1048576){h0:PH}(w:Lw 8 l)(n1:1<=n)(n2:n.natAbs<10 ^ 40){D:Seen}(hD:SI9 D)(hl:D.length<=5)(own:look D (Sx l)=if n=1 then none else some (n-1))(x0:Ext h0 h)(g:h[nd]?=some (.dK (emb D))){x:Option PV}(k:∀(d:eA) h',d.Ok->Ext h0 h'->E.rt d.v h'):
  Lt (aL (cD (aA (mV 1) (aA (mCB bY (aA (mCB gA (aA (FN eB nC (mV 2)) aC)) aC)) (aA (aD 1 Dk (aA (mV 0) aC)) aC))))) E [some (.int c),some (.tup [.str (Sx l),.int n]),some (.ref nd),x] h:=by
 refine now ?_;have dt:eB (.ref nd) h=true:=by simp[eB,g]
 have ei:nC (.ref nd) [] h=.ok (.ref h.length) (h++[.vw 0 nd]):=by
  simp[nC,g]
 simp[dt,ei];have g1:(h++[MO.vw 0 nd])[h.length]?=some (.vw 0 nd):=aX;have x1:Ext h (h++[MO.vw 0 nd]):=Ext.app _ _;generalize h++[MO.vw 0 nd]=h1 at g1 x1;generalize h.length=n0 at g1;obtain⟨T,eT,pT,aT⟩:=B1 hD.1;have es:gA [.ref n0] h1=.ok (.ref h1.length) (h1++[.lst ((T.map row).map tP)]):=by
  rw[<-eT];exact uV g1 (x1 _ _ g) (by unfold emb;rw[Ph,Ph];rfl) (by rw[OP];omega) (Eu D)
 rw[es,aY];have g2:(h1++[MO.lst ((T.map row).map tP)])[h1.length]?=some (.lst ((T.map row).map tP)):=aX;have x2:Ext h1 (h1++[MO.lst ((T.map row).map tP)]):=Ext.app _ _;generalize h1++[MO.lst ((T.map row).map tP)]=h2 at g2 x2;rw[Ew g2,aY];refine Lk hb λy ps h3 ao x3=>?_;have tm:∀p∈T,∃l,Lw 8 l/\p.1=Sx l/\1<=p.2/\p.2.natAbs<10 ^ 40:=λp hp=>hD.2 p (pT.mem_iff.mp hp);have uz:(T.map λp=>((p.1.cps.toList,p.2):Nm)).map (λp=>(Sx p.1,p.2))=T:=by
  rw[Ph]
  conv=>rhs;rw[<-List.map_id T]
  apply QL;intro p hp;exact(Jp (tm p hp)).2
 have dk:eA.Ok ⟨(l,n),T.map λp=>(p.1.cps.toList,p.2),y.cps.toList,ps⟩:=by
  refine⟨⟨w,n1,n2⟩,λp hp=>?_,?_,?_,?_,ao⟩
  ·obtain⟨q,hq,rfl⟩:=OU.mp hp;exact(Jp (tm q hq)).1
  ·rw[OP,pT.length_eq];exact hl
  ·rw[QM];exact aT
  ·show look ((T.map λp=>((p.1.cps.toList,p.2):Nm)).map λp=>(Sx p.1,p.2)) (Sx l)=_
   rw[uz,EH pT hD.1,own]
 have ev:eA.v ⟨(l,n),T.map λp=>(p.1.cps.toList,p.2),y.cps.toList,ps⟩=.tup [.tup [.str (Sx l),.int n],sv T,.tup (.str y::ps.map Pt.v)]:=by
  unfold eA.v;rw[IW];have:snV (T.map λp=>((p.1.cps.toList,p.2):Nm))=sv T:=by
   unfold snV sv
   congr 1
   conv=>rhs;rw[<-uz]
   rw[Ph,Ph,Ph];rfl
  rw[this];rfl
 rw[<-ev];exact k _ h3 dk (((x0.trans x1).trans x2).trans x3)
theorem GY(D:Seen)(w:Str):AA (emb D) (.inr w)=emb (EG D w):=by
 unfold AA emb EG
 induction D with
 |nil=>rfl
 |cons p r ih=>
  rw[Pa,RB,RB,ih]
  by_cases e:p.1=w
  ·simp[e]
  ·simp[e]
theorem SI9.pop{D:Seen}(h:SI9 D)(x:Str):SI9 (EG D x):=⟨List.Pairwise.sublist ((List.filter_sublist).map _) h.1,λp hp=>h.2 p (List.mem_filter.mp hp).1⟩
theorem GZ(D:Seen)(x:Str):look (EG D x) x=none:=qB.mpr λp hp=>by
 have:=(List.mem_filter.mp hp).2;simpa using this
set_option tactic.hygienic true in
theorem J0{c:Int}(hb:OY c<=1048576)(k:∀(d:eA) h',d.Ok->Ext h h'->Q d.v h'):(Cf [.int c] h).W Q:=by
 refine bB ?_;unfold Ce;rw[aR];simp;refine mE c 600 λl w=>?_;refine fR hb (by omega) λn n1 n2=>?_;refine now ?_;rw[aR];simp;have g0:(h++[MO.dK []])[h.length]?=some (.dK (emb [])):=aX;have x0:Ext h (h++[MO.dK []]):=Ext.app _ _;generalize h++[MO.dK []]=h0 at g0 x0;have ln:h.length<=h.length:=OO _;generalize dh:h.length=nd at g0;refine now ?_;rw[aR];obtain⟨d1,e1,a1,b1⟩:=aM c 5 h0;refine tG (j:=d1%4) (DI h nd c (.tup [.str (Sx l),.int n])) (by simp(disch:=omega) [e1]) (by omega) ⟨x0,by omega,[],none,⟨by simp,by simp⟩,by simp,g0,rfl⟩ ?_ ?_
 ·rintro q δ h1 hq ⟨x1,l1,D,x,hD,hl,g,rfl⟩;unfold tZ;simp(disch:=omega);refine fR hb (by omega) λm m1 m2=>?_;refine mE c (620+10*q) λl2 w2=>?_;have jj:=Do (Sx:=D) (h:=Sx l2) (n:=m);refine⟨_,Dh g (by unfold emb;rw[OP];omega),x1.setN l1,l1,dput D (Sx l2) m,some (.int q),hD.put w2 m1 m2,by omega,?_,rfl⟩;rw[pQ g,zF]
 ·rintro δ h1 ⟨x1,l1,D,x,hD,hl,g,rfl⟩;refine now ?_;rw[aR];simp;split
  ·rename_i z;have jj:=Do (Sx:=D) (h:=Sx l) (n:=n-1);refine⟨_,Dh g (by unfold emb;rw[OP];omega),?_⟩;refine uJ hb w n1 n2 (hD.put w (by omega) (by omega):SI9 (dput D (Sx l) (n-1))) (by omega) (by rw[AY,if_pos rfl,if_neg (by omega)]) (x1.setN l1) (by rw[pQ g,zF]) k
  ·rename_i z;have z1:n=1:=by omega
   have eh:Ef (.str (Sx l)) (.ref nd) h1=.ok (.bl ((look D (Sx l)).isSome)) h1:=by
    simp[Ef,kL,PV.isKt,vIn,BR,aO,yI,g,oH,lI]
   simp[eh];cases e:look D (Sx l) with
   |none=>
    simp;exact uJ hb w n1 n2 hD (by omega) (by rw[e,if_pos z1]) x1 g k
   |some m=>
    have ep:tS (.ref nd) [.str (Sx l)] h1=.ok (.int m) (h1.set nd (.dK (emb (EG D (Sx l))))):=by
     simp[tS,oH,g,lI,e,GY]
    simp [Gb g,ep];exact uJ hb w n1 n2 (hD.pop (Sx l)) (by have:(EG D (Sx l)).length<=D.length:=List.length_filter_le _ _;omega) (by rw[GZ,if_pos z1]) (x1.setN l1) (pQ g) k
structure Sh(v:PV)(dp B:Nat)(d:PyData):Prop where
 pd:pdP v=some d
 ok:d.showable=true
 dp:d.depth<=dp
 le:d.shown.length<=B
theorem Sh.str(h:∀c∈l,c<16 ^ 8):Sh (.str (Sx l)) 0 (10*l.length+2) (.str (Sx l)):=⟨rfl,rfl,OO _,by
 have:=StrLaws.reprText_len (Sx l) (by rw[cF];exact h);rw[aF]at this;exact this⟩
theorem Sh.int(hn:n.natAbs<10 ^ 40):Sh (.int n) 0 41 (.int n):=by
 obtain⟨d,N⟩:=bR hn;exact⟨rfl,decide_eq_true N.lg,OO _,by
  show(PJ (toString n)).length<=41
  rw[GE,aF];exact bO N⟩
theorem xK{B:Nat}:∀ts:List Str,(∀t∈ts,t.length<=B)->(Str.join ", " ts).length<=ts.length*(B+2)
 |[],_=>by show 0<=_;omega
 |[x],h=>by
  have:=h x (by simp)
  show x.length<=_
  simp;omega
 |x::y::r,h=>by
  have h1:=h x (by simp);have h2:=xK (B:=B) (y::r) λt ht=>h t (by simp[ht])
  show(x++", " ++ Str.join ", " (y::r)).length<=_
  have e2:((", " : String):Str).length=2:=rfl;rw[Str.length_append,Str.length_append,e2,OZ,Nat.succ_mul];omega
theorem Sh.tup{vs:List PV}{dp B:Nat}(h:∀v∈vs,∃d,Sh v dp B d):∃ds,tR vs=some ds/\Sh (.tup vs) (dp+1) (vs.length*(B+2)+3) (.tuple ds):=by
 have key:∀vs:List PV,(∀v∈vs,∃d,Sh v dp B d)->∃ds,tR vs=some ds/\PyData.showableAll ds=true/\PyData.depthAll ds<=dp/\(R0 ds).length=vs.length/\∀t∈R0 ds,t.length<=B:=by
  intro vs
  induction vs with
  |nil=>intro _;exact⟨[],rfl,rfl,Pu _,rfl,by simp[R0]⟩
  |cons v r ih=>
   intro h;obtain⟨d,s⟩:=h v (by simp);obtain⟨ds,a1,a2,a3,a4,a5⟩:=ih λw hw=>h w (by simp[hw]);refine⟨d::ds,by unfold tR;rw[s.pd,a1],by unfold PyData.showableAll;rw[s.ok,a2];rfl,?_,?_,λt ht=>?_⟩
   ·unfold PyData.depthAll;exact Nat.max_le.mpr ⟨s.dp,a3⟩
   ·unfold R0;rw[OZ,OZ,a4]
   ·unfold R0 at ht;rcases KP.mp ht with rfl|ht
    ·exact s.le
    ·exact a5 t ht
 obtain⟨ds,a1,a2,a3,a4,a5⟩:=key vs h;refine⟨ds,a1,by unfold pdP;rw[a1],by unfold PyData.showable;exact a2,?_,?_⟩
 ·unfold PyData.depth;omega
 ·have h1:=xK _ a5;rw[a4]at h1;unfold PyData.shown;unfold tupleText;rw[Str.length_append,Str.length_append];have e1:(("(" : String):Str).length=1:=rfl;have e2:((if(R0 ds).length == 1 then ",)" else ")" : String):Str).length<=2:=by
   split
   ·decide
   ·decide
  omega
variable{dp:Nat}
theorem Sh.weak{v:PV}{dq C:Nat}{d:PyData}(s:Sh v dp B d)(h1:dp<=dq)(h2:B<=C):Sh v dq C d:=⟨s.pd,s.ok,PD s.dp h1,PD s.le h2⟩
theorem Dx{n:Nat}(w:Lw n l):∀c∈l,c<16 ^ 8:=λc m=>by
 have:=w.all c m;have:(16:Nat) ^ 8=4294967296:=by decide
 omega
theorem Ha{p:Nm}(o:jZ p):∃d,Sh (nmV p) 1 200 d:=by
 have h1:=(Sh.str (Dx o.w)).weak (OO 0) (show 10*p.1.length+2<=82 by have:=o.w.le;omega);have h2:=(Sh.int o.le).weak (OO 0) (show 41<=82 by omega);obtain⟨ds,_,s⟩:=Sh.tup (vs:=[.str (Sx p.1),.int p.2]) (dp:=0) (B:=82) λv hv=>by
  simp only[KP,Pk,or_false]at hv;rcases hv with rfl|rfl
  ·exact⟨_,h1⟩
  ·exact⟨_,h2⟩
 exact⟨_,s.weak (by omega) (by simp)⟩
theorem iP(h0:-100<=n)(h1:n<=100):n.natAbs<10 ^ 40:=Nat.lt_of_le_of_lt (show n.natAbs<=100 by omega) (by decide +kernel)
theorem Nu(o:qC x):∃d,Sh (stV x) 1 340 d:=by
 have h1:=(Sh.str (Dx o.w)).weak (OO 0) (show 10*x.h.length+2<=82 by have:=o.w.le;omega);obtain⟨ds,_,s⟩:=Sh.tup (vs:=[.int x.s,.str (Sx x.h),.int x.n,.int x.k]) (dp:=0) (B:=82) λv hv=>by
  simp only[KP,Pk,or_false]at hv;have a1:=o.k1;have a2:=o.k2;have a3:x.s=1\/x.s=-1:=o.s;rcases hv with rfl|rfl|rfl|rfl
  ·exact⟨_,(Sh.int (iP (by omega) (by omega))).weak (OO 0) (by omega)⟩
  ·exact⟨_,h1⟩
  ·exact⟨_,(Sh.int o.n2).weak (OO 0) (by omega)⟩
  ·exact⟨_,(Sh.int (iP (by omega) (by omega))).weak (OO 0) (by omega)⟩
 exact⟨_,s.weak (by omega) (by simp)⟩
theorem Dy(o:dJ p):∃d,Sh (plV p) 2 22000 d:=by
 obtain⟨ds,_,s⟩:=Sh.tup (vs:=p.map stV) (dp:=1) (B:=340) λv hv=>by
  obtain⟨x,hx,rfl⟩:=OU.mp hv;exact Nu (o.ok x hx)
 have:=o.le;exact⟨_,s.weak (by omega) (by rw[OP];omega)⟩
theorem Hb(h:∀c∈l,32<=c/\c<=126):∀c∈l,c<16 ^ 8:=λc m=>by
 have:=h c m;have:(16:Nat) ^ 8=4294967296:=by decide
 omega
theorem Nv{p:Pt}(o:p.Ok):∃d,Sh p.v 3 881000 d:=by
 cases p with
 |kind l=>
  have:=mD o;exact⟨_,(Sh.str (Hb λc m=>by have:=this.2.2 c m;omega)).weak (by omega) (by omega)⟩
 |root=>
  obtain⟨ds,_,s⟩:=Sh.tup (vs:=[.str (Sx []),.int 0]) (dp:=0) (B:=82) λv hv=>by
   simp only[KP,Pk,or_false]at hv;rcases hv with rfl|rfl
   ·exact⟨_,(Sh.str (l:=[]) (by simp)).weak (OO 0) (by simp)⟩
   ·exact⟨_,(Sh.int (iP (by omega) (by omega))).weak (OO 0) (by omega)⟩
  exact⟨_,s.weak (by omega) (by simp)⟩
 |thing p=>obtain⟨d,s⟩:=Ha o;exact⟨d,s.weak (by omega) (by omega)⟩
 |key l=>exact⟨_,(Sh.str (Dx o)).weak (by omega) (by have:=Lw.le o;omega)⟩
 |pair p s=>
  obtain⟨d,sp⟩:=Dy o.1;have hs:s=1\/s=-1:=o.2.1;obtain⟨ds,_,s⟩:=Sh.tup (vs:=[plV p,.int s]) (dp:=2) (B:=22000) λv hv=>by
   simp only[KP,Pk,or_false]at hv;rcases hv with rfl|rfl
   ·exact⟨_,sp⟩
   ·exact⟨_,(Sh.int (iP (by omega) (by omega))).weak (by omega) (by omega)⟩
  exact⟨_,s.weak (by omega) (by simp)⟩
 |num n=>exact⟨_,(Sh.int o).weak (by omega) (by omega)⟩
 |nth n=>exact⟨_,(Sh.int o.2).weak (by omega) (by omega)⟩
 |under p=>obtain⟨d,s⟩:=Dy o;exact⟨d,s.weak (by omega) (by omega)⟩
 |side s=>
  have hs:s=1\/s=-1:=o;exact⟨_,(Sh.int (iP (by omega) (by omega))).weak (by omega) (by omega)⟩
 |signs l=>exact⟨_,(Sh.str (Hb o.2.2)).weak (by omega) (by have:=o.2.1;omega)⟩
 |place p=>obtain⟨d,s⟩:=Dy o.1;exact⟨d,s.weak (by omega) (by omega)⟩
 |places ps=>
  obtain⟨ds,_,s⟩:=Sh.tup (vs:=ps.map plV) (dp:=2) (B:=22000) λv hv=>by
   obtain⟨x,hx,rfl⟩:=OU.mp hv;exact Dy (o.1 x hx)
  have:=o.2.2.1;exact⟨_,s.weak (by omega) (by rw[OP];omega)⟩
 |word l=>exact⟨_,(Sh.str (Dx o)).weak (by omega) (by have:=Lw.le o;omega)⟩
theorem J1{d:eA}(o:d.Ok):∃t,∀h,mJ [d.v] h=.ok (.str t) h:=by
 obtain⟨d1,s1⟩:=Ha o.nm;obtain⟨ds2,_,s2⟩:=Sh.tup (vs:=d.sn.map nmV) (dp:=1) (B:=200) λv hv=>by
  obtain⟨x,hx,rfl⟩:=OU.mp hv;exact Ha (o.sn x hx)
 have sl:=o.sl;obtain⟨ds3,_,s3⟩:=Sh.tup (vs:=.str (Sx d.w)::d.ps.map Pt.v) (dp:=3) (B:=881000) λv hv=>by
  rcases KP.mp hv with rfl|hv
  ·exact⟨_,(Sh.str (Hb λc m=>by have:=o.act.lo c m;omega)).weak (by omega) (by have:=o.act.lw;omega)⟩
  ·obtain⟨x,hx,rfl⟩:=OU.mp hv;exact Nv (o.act.ok x hx)
 have ln:=o.act.ln;obtain⟨ds,e,s⟩:=Sh.tup (vs:=[nmV d.nm,snV d.sn,lN d.w d.ps]) (dp:=4) (B:=4405100) λv hv=>by
  simp only[KP,Pk,or_false]at hv;rcases hv with rfl|rfl|rfl
  ·exact⟨_,s1.weak (by omega) (by omega)⟩
  ·exact⟨_,s2.weak (by omega) (by rw[OP];omega)⟩
  ·exact⟨_,s3.weak (by omega) (by rw[OZ,OP];omega)⟩
 exact⟨_,λh=>Gu e s.ok (PD s.dp (by omega)) (by
  rw[aS];refine PD s.le ?_;simp)⟩
theorem EI{c:Int}(hb:OY c<=1048576)(k:∀δ' h',Ext h h'->δ'.length=5->sP δ' 0=x0->E.nx δ' h'):(rQ [x0,some (.int c),x2,x3,x4] h).W E:=by
 unfold rQ;rw[aR];simp;refine J0 hb λd h1 o x1=>?_;refine now ?_;rw[aR];simp;refine IV o h1 _ λh2 x2=>?_;refine now ?_;rw[aR];simp;refine GN o h2 _ λh3 x3=>?_;refine now ?_;rw[aR];simp[known,dM];refine now ?_;obtain⟨t,et⟩:=J1 o;simp only[CW,Ih,rG,iZ,KQ,kJ,oK,sZ,jW,bM,fN,Rs.bind_ok,OZ,P0,if_true,BV,aY];refine Dt o h3 _ λh4 x4=>?_;simp[et];refine Dt o h4 _ λh5 x5=>?_;simp[et];exact k _ h5 ((((x1.trans x2).trans x3).trans x4).trans x5) rfl rfl
theorem main(ns:List Int)(hl:ns.length<=63)(hb:∀x∈ns,OY x<=1048576):∃h,GA [.fl (ns.map PV.int)] []=.ok (.bl true) h:=by
 have w:(GA [.fl (ns.map PV.int)] []).W λv _=>v=.bl true:=by
  refine bB ?_;unfold Gz;rw[aR];have g0:([]++[MO.lst ((ns.take 16).map PV.int)]:PH)[0]?=some (.lst ((ns.take 16).map PV.int)):=rfl;have ec:iY (ns.map PV.int) none (some 16)=(ns.take 16).map PV.int:=by
   rw[KY (by omega),List.map_take];rfl
  have δe:(List.map some [PV.fl (ns.map PV.int)]++P3 (5 - [PV.fl (ns.map PV.int)].length) none)=[some (.fl (ns.map PV.int)),none,none,none,none]:=rfl;rw[δe];have em:(mSl (mV 0) mU (mP (mC (.int 16)))) [some (.fl (ns.map PV.int)),none,none,none,none] []=.ok (.ref 0) ([]++[MO.lst ((ns.take 16).map PV.int)]):=by
   simp only[FV,jW,bM,Rs.bind_ok,CY,Jf,kI,tB,KW,ec];rfl
  refine KS (λ_ δ h'=>h'[0]?=some (.lst ((ns.take 16).map PV.int))/\δ.length=5) em g0 ⟨g0,rfl⟩ (λ_ _ _ _ i=>i.1) ?_ ?_
  ·rintro q x δ h1 hx ⟨g,ld⟩;rw[PF]at hx;obtain⟨c,hc,rfl⟩:=Qn.mp hx;have hm:=hb c (List.mem_of_mem_take (Qi hc))
   match δ,ld with
   |[a0,a1,a2,a3,a4],_=>
    refine⟨[a0,some (.int c),a2,a3,a4],rfl,?_⟩;exact EI hm λδ' h' x' l' _=>⟨x' _ _ g,l'⟩
  ·rintro δ h1 ⟨g,ld⟩;refine now ?_;simp
 obtain⟨v,h,e,rfl⟩:=KM w;exact⟨h,e⟩
end K91
namespace K91
open PySem L2
def top(i:Nat):Stmt:=PySem.Challenge.pw_copymeet_k91_a_deed_as_a_text.main.body.getD i (.Pass ⟨0,0,0,0⟩)
abbrev bsL:List Str:=["range","int","tuple","len","sorted","str","isinstance","zip","all","set","dict","repr"]
abbrev cC(w:World)(K:z9)(cl:Str->Option Addr):MC:=⟨K,cl,bsL,λ_ _ _=>False,w⟩
theorem anE{a b c:Prop}(h:a/\b)(f:a->b->c):c:=f h.1 h.2
def tgN:Expr->List Str
 |.Name x _=>[x]
 |.Tuple es _ _=>es.flatMap λe=>match e with
  |.Name x _=>[x]
  |.Tuple gs _ _=>gs.flatMap λe=>match e with
   |.Name x _=>[x]
   |_=>[]
  |_=>[]
 |_=>[]
def mkN(o:List Str):List (Option Nat)->List Str->List Str
 |some j::r,xs=>o.getD j "" :: mkN o r xs
 |none::r,x::xs=>x::mkN o r xs
 |_,_=>[]
def ndB:List Str->Bool
 |[]=>true
 |x::r=>r.all (λy=>!decide (x=y))&&ndB r
theorem lP:∀{l:List Str},ndB l=true->l.Nodup
 |[],_=>.nil
 |x::r,h=>by
  simp only[ndB,Pj,Pp]at h;exact Q2.2 ⟨λm=>by simpa using h.1 x m,lP h.2⟩
section
variable{C:MC}{k i:Nat}{X:Cx}{elt iter tg:Expr}{ifs:List Expr}{sc os:Scope}{pos pos' cx:Pos}{oN:List Str}{js:List (Option Nat)}{mi:Mi}{g:Mg}{tt:Ev->PH->Rs Bool}{me:Me}{x:Str}
theorem OB(e:X.env.scope=os)(e':X.N=oN)(h:iR os oN sc (mkN oN js (tgN tg)) js=true)(nd:ndB (mkN oN js (tgN tg))=true)(hi:SI C k X tg iter mi)
  (hg:∀a b c d,(X.comp sc (mkN oN js (tgN tg)) a b c d).N.Nodup->SG C k (X.comp sc (mkN oN js (tgN tg)) a b c d) tg g/\STs C k (X.comp sc (mkN oN js (tgN tg)) a b c d) ifs tt/\SE C k (X.comp sc (mkN oN js (tgN tg)) a b c d) elt me)
  (hs:∀x,Qw iter X.env x=pure x:=by intro _;rfl):SE C k X (.ListComp elt [⟨tg,iter,ifs,0⟩] sc pos) (bX js mi g tt me):=KF e e' h hi (λa b c d=>(hg a b c d (lP nd)).1) (λa b c d=>(hg a b c d (lP nd)).2.1) (λa b c d=>(hg a b c d (lP nd)).2.2) hs
theorem OC(nd:X.N.Nodup)(h1:X.N[i]?=some x)(h2:X.env.scope.names.lookup x=some .local)(e:X.env.scope=os)(e':X.N=oN)(h:iR os oN sc (mkN oN js (tgN tg)) js=true)(km:ndB (mkN oN js (tgN tg))=true)(hi:SI C k X tg iter mi)
  (hg:∀a b c d,(X.comp sc (mkN oN js (tgN tg)) a b c d).N.Nodup->SG C k (X.comp sc (mkN oN js (tgN tg)) a b c d) tg g/\STs C k (X.comp sc (mkN oN js (tgN tg)) a b c d) ifs tt/\SE C k (X.comp sc (mkN oN js (tgN tg)) a b c d) elt me)
  (ka:swapsWith (.ListComp elt [⟨tg,iter,ifs,0⟩] sc pos) (some (.Name x pos')) cx.line X.env=pure true:=by rfl) (hs:∀x,Qw iter X.env x=pure x:=by intro _;rfl):SSt C k X (.Assign [.Name x pos'] (.ListComp elt [⟨tg,iter,ifs,0⟩] sc pos) cx) (bI i (bX js mi g tt me)):=Ea nd h1 h2 e e' h hi (λa b c d=>(hg a b c d (lP km)).1) (λa b c d=>(hg a b c d (lP km)).2.1) (λa b c d=>(hg a b c d (lP km)).2.2) ka hs
end
def fsB(N:List Str)(n:Nat)(sc:Scope):Bool:=(match sc.kind with|.function=>true|_=>false) && !sc.isCoroutine && !sc.isGenerator&&ndB N&&decide (n<=N.length)&&(N.take n).all (λx=>match sc.names.lookup x with|some .local=>true|some .cell=>true|_=>false)&&sc.names.all λy=>match y.2 with|.free=>false|_=>true
theorem Ll{N:List Str}{n:Nat}{sc:Scope}(h:fsB N n sc=true):nQ N (N.take n) sc/\(N.take n).length=n:=by
 simp only[fsB,Pj,Bool.not_eq_true',Pp,decide_eq_true_eq]at h;obtain⟨⟨⟨⟨⟨⟨h1,h2⟩,h3⟩,h4⟩,h5⟩,h6⟩,h7⟩:=h;have hl:(N.take n).length=n:=by rw[Sk];omega
 refine⟨⟨?_,h2,h3,lP h4,by rw[hl],λx m=>?_,λy m e=>?_⟩,hl⟩
 ·split at h1
  ·assumption
  ·cases h1
 ·have:=h6 x m;split at this
  ·exact .inl (by assumption)
  ·exact .inr (by assumption)
  ·cases this
 ·have:=h7 y m;rw[e]at this;cases this
def FnX(K:z9)(f:Addr)(nm qual:Str)(st:Stmt):Prop:=∃oc kV doc pm cdv ct od an osl,K.lookup f=some ⟨oc,od,.func (QF nm qual (dO st) (cQ st) (bD st) .none kV doc pm an cdv ct),osl⟩/\SJ K cdv qual=true/\SH K (.ref f)=true
def DfX(K:z9)(nm:Str)(st:Stmt):Prop:=∃f,PU K Pq nm=some (some (.ref f))/\FnX K f nm nm st
def DsL(K:z9):List (Str×Nat)->Prop
 |[]=>True
 |(x,i)::r=>DfX K x (top i)/\DsL K r
def fA(K:z9)(x:Str):Addr:=match PU K Pq x with
 |some (some (.ref f))=>f
 |_=>0
def mA(K:z9)(A:Addr)(x:Str):Addr:=match PySem.W.findIn K (.ref A) x with
 |some (some (.ref f))=>f
 |_=>0
def dA(K:z9)(a:Addr):Q9:=match K.lookup a with
 |some ⟨_,_,.func f,_⟩=>f
 |_=>QF "" "" (dO (top 0)) [] (bD (top 0)) .none .none .none .none none .none .none
theorem DsL.at{K:z9}{x:Str}{i:Nat}:∀{l:List (Str×Nat)},DsL K l->(x,i)∈l->DfX K x (top i)
 |_::_,h,.head _=>h.1
 |_::_,h,.tail _ m=>DsL.at h.2 m
abbrev BdX(nm qual:Str)(st:Stmt)(n:Nat)(ps:List Str):Prop:=∀(kV doc pm:Value)(an:Option Addr)(cdv ct:Value)(us:List Value),us.length=n->bindArgs (QF nm qual (dO st) (cQ st) (bD st) .none kV doc pm an cdv ct) ⟨us,[]⟩=pure (ps.zip us)
abbrev dL:List (Str×Nat):=[(("_law_drawn" : Str),56),(("_law_hand" : Str),57),(("_law_number" : Str),58),(("_law_thing" : Str),59),(("_law_place" : Str),60),(("_law_pair" : Str),61),(("_law_spot" : Str),62),(("_law_amount" : Str),63),(("_law_signs" : Str),64),(("_law_act" : Str),65),(("_law_deed" : Str),66),(("_law_place_text" : Str),67),(("_law_part" : Str),68),(("_law_text" : Str),69),(("name_text" : Str),41),(("seen_text" : Str),42),(("plain_text" : Str),40),(("number_text" : Str),39),(("side_text" : Str),43),(("step_text" : Str),44),(("place_text" : Str),45),(("places_text" : Str),46),(("spot_text" : Str),47),(("parts_text" : Str),49),(("shown" : Str),52),(("check_signs" : Str),15),(("check_drawn" : Str),16),(("read_hand" : Str),21),(("read_number" : Str),17),(("read_from" : Str),18),(("read_nth" : Str),20),(("read_name" : Str),26),(("read_seen" : Str),28),(("read_at" : Str),19),(("read_key" : Str),23),(("read_key_or_at" : Str),36),(("read_kind" : Str),24),(("read_side" : Str),29),(("read_step" : Str),30),(("read_place" : Str),31),(("read_places" : Str),33),(("read_signs" : Str),25),(("read_under" : Str),32),(("check_pair" : Str),34),(("read_spot" : Str),35),(("read_thing" : Str),27),(("read_word" : Str),22),(("read_parts" : Str),38),(("read_act" : Str),54),(("read" : Str),53),(("law" : Str),70)]
section
variable{P:Program}{w:World}{K:z9}{mg:Str->Option Value}{base:Heap}{cl:Str->Option Addr}
variable(P w K mg base cl)
abbrev tC(j:Nat)(x:Str)(t:Nat)(N:List Str)(n:Nat)(m:Fn):Prop:=Def K mg x (top t) (fA K x) (dA K (fA K x)) (N.take n)/\iC P w K mg base CX0 j (fA K x) (dA K (fA K x)) (N.take n) (spM (cC w K cl) n m)
variable{P w K mg base cl}
theorem mbL{x:Str}(h:x∈bsL:=by decide +kernel):x∈(cC w K cl).bs:=h
structure ZZ(P:Program)(base:Heap)(w:World)(K:z9)(mg:Str->Option Value)(cl:Str->Option Addr)(fM gO cV lQ cW:Addr):Prop where
 hbn:∀x∈bsL,mg x=none
 XG:∃h:Heap,K.In h/\h.Ns Pq mg
 ds:DsL K dL
 GC_FIGURES:∃u,mg "FIGURES" = some u/\CV (.str "0123456789") u
 GT_FORMS:GDg (cC w K cl) (gtR K) fM dE
 MG_FORMS:mg "FORMS" = some (.ref fM)
 MG_KINDS:mg "KINDS" = some (.ref gO)
 GT_KINDS:Gc K gO [.str "map",.str "row",.str "count",.str "choice",.str "bag",.str "text"]
 GC_LAST_STEP:∃u,mg "LAST_STEP" = some u/\CV (.int 11) u
 GC_LETTERS:∃u,mg "LETTERS" = some u/\CV (.str "abcdefghijklmnopqrstuvwxyz") u
 GC_MOST_FIGURES:∃u,mg "MOST_FIGURES" = some u/\CV (.int 40) u
 GC_MOST_HAND:∃u,mg "MOST_HAND" = some u/\CV (.int 8) u
 GC_MOST_KEY:∃u,mg "MOST_KEY" = some u/\CV (.int 12) u
 GC_MOST_PLACES:∃u,mg "MOST_PLACES" = some u/\CV (.int 40) u
 GC_MOST_SIGNS:∃u,mg "MOST_SIGNS" = some u/\CV (.int 12) u
 GC_MOST_WORD:∃u,mg "MOST_WORD" = some u/\CV (.int 8) u
 GT_READERS:GDg (cC w K cl) (gfR mg) cV nI
 MG_READERS:mg "READERS" = some (.ref cV)
 MG_ROOT:mg "ROOT" = some (.ref lQ)
 GT_ROOT:Gc K lQ [.str "",.int (0)]
 GT_WRITERS:GDg (cC w K cl) (gfR mg) cW nE
 MG_WRITERS:mg "WRITERS" = some (.ref cW)
variable{fM gO cV lQ cW:Addr}(Z:ZZ P base w K mg cl fM gO cV lQ cW)
include Z
theorem dfM{k t:Nat}{x:Str}{N:List Str}{n:Nat}{body:Ms}(c:fsB N n (bD (top t))=true)(b:BdX x x (top t) n (N.take n))(d:(x,t)∈dL)
  (h:∀f cdv A outer s H E,N.Nodup->SSs (cC w K cl) k (A5 CX0 P w K mg base N x (bD (top t)) f cdv A outer s H E).nox (cQ (top t)) body):tC P w K mg base cl (k+1) x t N n (mFn N.length body):=by
 obtain⟨f,a,_,_,_,_,_,_,_,_,_,l,o,p⟩:=Z.ds.at d;obtain⟨_,X,G⟩:=Z.XG;obtain⟨S,e⟩:=Ll c;have D:=Def.mk' X G a l o p (ps:=N.take n) (by rwa[e]);have F:=MP (C:=cC w K cl) (P:=P) (mg:=mg) (base:=base) (λ_ _ _ h=>h) Z.hbn D.fn S λcdv A outer s H E=>h f cdv A outer s H E S.nd;rw[e]at F;have q:fA K x=f:=by rw[fA,a]
 rw[tC,q,dA,l];exact⟨D,F⟩
local macro_rules|`(tactic|ac_rfl)=>`(tactic|repeat' first|((with_reducible show SSs _ _ _ [_] _);refine KA ?_)|exists SSt,(bI _ (bX _ _ _ _ _)),(OC nd rfl rfl rfl rfl (by rfl) (by rfl) ?_ λ_ _ _ _ nd=>⟨?_,?_,?_⟩)|exists SSs,(aG (II _ _ _ _ _ _ _ _) _),(La nd ?_)|exists SA,(aA _ _),(Kw ?_ ?_)|exists (mV _),(wI _)|exists SA,aC,MB|exists (mC (PV.int _)),Mf|((with_reducible show SE _ _ _ (.BinOp _ _ _ _) (aB _ _ _));refine Mj ?_ ?_ ?_)|exists (aD _ _ _),(anE (by ac_nf) λD G=>s_call D G ?_)|exists SSs,(aG _ _),(Ib ?_ ?_)|exists (mC (PV.str _)),CO|exists SSt,(aL _),(ML ?_)|exists OpS,aE,KL|exists SG,(gN _),(Kx nd)|exists ST,(aP (aB _ _ _)),(Mu ?_ ?_ ?_)|exists SSt,(bE _ _ _),(Og ?_ ?_ ?_)|exists SSs,bF,Kz|exists (aB vAt _ _),(Os ?_ ?_)|exists SSt,(bI _ _),(MI nd ?_)|exists SGs,(gCn _ _),(Ky ?_ ?_)|exists OpS,bT,Mq|exists OpS,vEq,Oa|exists (cD _),(MD ?_)|exists STs,gP,KD|exists OpS,fU,Mn|exists (bX _ _ _ _ _),(OB rfl rfl (by rfl) (by rfl) ?_ λ_ _ _ _ nd=>⟨?_,?_,?_⟩)|exists SG,(gTp _ _),(MH ?_)|exists SGs,gNl,MG|((with_reducible show SI _ _ _ _ _ (bH _));refine MM ?_)|exists OpS,iX,Mm|exists (mCB iH _),(oI MF PyProof.Rows.Boot.«len» ?_ (hb:=mbL))|exists (pP _),(ME ?_)|exists (mMt bG eC _ _),(C1 Qa PySem.F.slot_str_join PySem.F.type_str_join L4 ?_ ?_)|exists SO,(mP _),(Kv ?_)|exists SSt,(mW _),(MK ?_)|exists (mSl _ _ _),(Oe ?_ ?_ ?_)|exists OpS,vNe,Ob|((with_reducible show ST _ _ _ (.BoolOp _ _ _) _);refine SW.t ?_)|exists SSt,(rB _ _),(MJ ?_ ?_)|exists (mIf _ _ _),(HZ ?_ ?_ ?_)|exists SO,mU,Ku|exists SSt,(mX _ _ _),(MN ?_ ?_ ?_)|exists (mCB bY _),(kH Ia PyProof.Rows.Boot.«tuple» ?_ (hb:=mbL))|((with_reducible show SI _ _ _ _ _ (iI _));refine KC ?_ (hb:=mbL))|exists (mCB mY _),(oI yK PyProof.Rows.Boot.«isinstance» ?_ (hb:=mbL))|exists OpS,vLe,O'|exists OpS,sR,Mr|exists OpS,vGt,O9|exists (mCB jY _),(kH L9 PyProof.Rows.Boot.«str» ?_ (hb:=mbL))|exists ST,(qO _),(Mx ?_)|((with_reducible show SE _ _ _ (.Compare _ _ _ _) (aB _ _ _));refine Mk ?_ ?_ ?_)|exists SW,(qP _ _),(w_and ?_ ?_)|((with_reducible show SW _ _ _ (.BoolOp _ [_] _) _);refine Ks ?_)|exists (mUn _ _),(O7 ?_ ?_)|exists UnS,Ar,MR|exists (mC (PV.ty "str")),(FC PyProof.Rows.Boot.«str» (hb:=mbL))|exists SW,(As _ _),(w_or ?_ ?_)|((with_reducible show SW _ _ _ (.BoolOp _ [_] _) _);refine My ?_)|exists (mCB mJ _),(oI Lb PyProof.Rows.boot_repr ?_ (hb:=mbL))|exists (mCB tK _),(kH Nb PyProof.Rows.Boot.«int» ?_ (hb:=mbL))|exists OpS,vLt,O8|exists SSt,(qT _ _ _),(L1 ?_ ?_ ?_)|exists OpS,C8,Ng|exists (mC _),(jC Z.GC_LETTERS)|exists (mMt bG fW _ _),(C1 Qa PySem.F.slot_str_partition PySem.F.type_str_partition ID ?_ ?_)|exists (mMt bG eG _ _),(C1 Qa PY PySem.F.type_str_split m_split ?_ ?_)|exists (mC (PV.bl _)),O6|exists (mC (PV.ty "int")),(FC PyProof.Rows.Boot.«int» (hb:=mbL))|((with_reducible show SI _ _ _ _ _ (mZq _));refine Ox ?_ (hb:=mbL))|exists (mCB Au _),(oI N0 PyProof.Rows.Boot.«all» ?_ (hb:=mbL))|((with_reducible show SI _ _ _ _ _ (tO _));refine Nd ?_)|exists ST,(aP (uT _ _ _ _ _)),(Mw ?_ ?_ ?_ ?_ ?_)|exists (mC _),(jC Z.GC_FIGURES)|exists OpS,jA,G7|exists (mC (.tup _)),(Gd Z.MG_ROOT Z.GT_ROOT)|exists (mMt bG fE _ _),(C1 Qa PY PySem.F.type_str_split Gh ?_ ?_)|exists OpS,Kr,Mp|exists OpS,AV,Ld|exists (mMt isL (onL fD) _ _),(Oh PySem.F.plainAttrs_list PySem.F.slot_list_append PySem.F.type_list_append FO ?_ ?_)|exists yJ,I0|exists OpS,Ef,N1|exists (mMt eB tS _ _),(C1 RA PySem.F.slot_dict_pop PySem.F.type_dict_pop Lc ?_ ?_)|exists (mCB gA _),(oI Ga PyProof.Rows.Boot.«sorted» ?_ (hb:=mbL))|exists (FN eB nC _),(N2 RA PySem.F.slot_dict_items PySem.F.type_dict_items Ir ?_)|exists (mJn PySem.Str.empty _),(AO (SEs.cons (AM (wI 1)) (SEs.cons CO (SEs.cons (AM (wI 2)) SEs.nil))))|exists (mJn PySem.Str.empty _),(AO (SEs.cons (AM (wI 2)) (SEs.cons CO (SEs.cons (AM (wI 3)) (SEs.cons CO (SEs.cons (AM (wI 4)) SEs.nil))))))|exists (C9 _ _ _),(Jk Z.MG_WRITERS Z.GT_WRITERS (by unfold nE nF;repeat' first|exact Gq|refine Jj (by ac_nf) (by decide) ?_) ?_ ?_)|exists (mUn (Gn _) _),(L' Z.MG_FORMS Z.GT_FORMS ?_)|exists (uT _ _ _ _ _),(Mv ?_ ?_ ?_ ?_ ?_)|exists (mC _),(jC Z.GC_MOST_HAND)|exists (mMt bG lU _ _),(C1 Qa Q5 PySem.F.type_str_startswith Gg ?_ ?_)|exists (mC _),(jC Z.GC_MOST_FIGURES)|exists (mCB AJ _),(kH L8 PyProof.Rows.Boot.«int» ?_ (hb:=mbL))|exists (mUn fO _),(C7 ?_ mbL mbL)|exists (mC _),(jC Z.GC_MOST_KEY)|exists (mC (.tup _)),(Gd Z.MG_KINDS Z.GT_KINDS)|exists (mC _),(jC Z.GC_LAST_STEP)|exists (mC _),(jC Z.GC_MOST_PLACES)|exists (mC _),(jC Z.GC_MOST_SIGNS)|exists SSt,(Er _ _ _),(Nl nd ?_)|exists (mC _),(jC Z.GC_MOST_WORD)|exists OpS,vIs,Od|exists (mC PV.non),Mh|exists (C9 _ _ _),(Jk Z.MG_READERS Z.GT_READERS (by unfold nI nJ;repeat' first|exact Gq|refine Jj (by ac_nf) (by decide) ?_) ?_ ?_)|exists (mUn (Gm _) _),(IH Z.MG_FORMS Z.GT_FORMS ?_)|exists (mMt eB Ax _ _),(C1 RA P5 PySem.F.type_dict_get N3 ?_ ?_)|exists (mCB wO _),(kH L0 PyProof.Rows.Boot.«dict» ?_ (hb:=mbL))|exists ST,(aP _),(Mt ?_)|exists SSt,eD,Nf|unfold tU|unfold pW|unfold tW|unfold pX|unfold tZ|unfold eI|unfold rQ)
local macro_rules|`(tactic|and_intros)=>`(tactic|intro _ _ _ _ _ _ us hl;rcases us with _|⟨_,_|⟨_,_|⟨_,_|⟨_,_|⟨_,_|⟨_,_⟩⟩⟩⟩⟩⟩<;>first|rfl|cases hl)
local macro_rules|`(tactic|exists $e:ident)=>`(tactic|(refine dfM Z (by decide +kernel) (by and_intros) (by decide +kernel) λ_ _ _ _ _ _ _ nd=>?_;(conv=>arg 4;whnf);unfold $e;ac_rfl))|`(tactic|exists $a,$b,$c,$d:ident)=>`(tactic|(refine $a Z $b $c (by decide +kernel) (by and_intros) λ_ _ _ _ _ _ _ nd=>?_;(conv=>arg 4;whnf);unfold $d;ac_rfl))|`(tactic|exists $e,$f)=>`(tactic|((with_reducible show SE _ _ _ _ $e);refine $f))|`(tactic|exists $k,$e,$f)=>`(tactic|((with_reducible show $k _ _ _ _ $e);refine $f))
local macro_rules|`(tactic|ac_nf)=>`(tactic|first|exact J2 Z|exact Lm Z|exact Hc Z|exact J3 Z|exact J4 Z|exact Ln Z|exact Lo Z|exact Hd Z|exact J5 Z|exact Nw Z|exact Lp Z|exact uK Z|exact Lq Z|exact Lr Z|exact Bf Z|exact Bg Z|exact zT Z|exact vD Z|exact Bh Z|exact Bi Z|exact zU Z|exact vE Z|exact Bj Z|exact zV Z|exact J6 Z|exact vF Z|exact vG Z|exact Bk Z|exact vH Z|exact Bl Z|exact Cw Z|exact Bm Z|exact Bn Z|exact EJ Z|exact Cy Z|exact qG Z|exact Bo Z|exact Bp Z|exact Bq Z|exact zW Z|exact vI Z|exact zX Z|exact zY Z|exact zZ Z|exact Br Z|exact A0 Z|exact Bs Z|exact A1 Z|exact Cz Z|exact Ls Z)
theorem J2:tC P w K mg base cl 1 "_law_drawn" 56 ["_law_cell","_law_place_here","_law_number_here"] 2 aJ:=by
 exists yU
theorem Lm:tC P w K mg base cl 2 "_law_hand" 57 ["_law_cell","_law_place_here","_law_hand_here","_law_step"] 2 jD:=by
 exists Cb
theorem Hc:tC P w K mg base cl 2 "_law_number" 58 ["_law_cell","_law_place_here"] 2 dB:=by
 exists tV
theorem J3:tC P w K mg base cl 3 "_law_thing" 59 ["_law_cell","_law_place_here"] 2 rP:=by
 exists yV
theorem J4:tC P w K mg base cl 3 "_law_place" 60 ["_law_cell","_law_place_here","_law_steps","_law_many","_law_hand_here","_law_k","_law_side"] 2 jE:=by
 exists yW
theorem Ln:tC P w K mg base cl 4 "_law_pair" 61 ["_law_cell","_law_place_here"] 2 yX:=by
 exists Cc
theorem Lo:tC P w K mg base cl 5 "_law_spot" 62 ["_law_cell","_law_key","_law_k"] 1 yY:=by
 exists Cd
theorem Hd:tC P w K mg base cl 2 "_law_amount" 63 ["_law_cell"] 1 tY:=by
 exists tX
theorem J5:tC P w K mg base cl 2 "_law_signs" 64 ["_law_cell","_law_some","_law_signs_here","_law_k"] 1 zA:=by
 exists yZ
theorem Nw:tC P w K mg base cl 6 "_law_act" 65 ["_law_cell","_law_way","_law_thing_here","_law_kinds","_law_under","_law_side","_law_many","_law_ends"] 1 Dk:=by
 exists Gy
theorem Lp:tC P w K mg base cl 7 "_law_deed" 66 ["_law_cell","_law_name","_law_seen","_law_k"] 1 Cf:=by
 exists Ce
theorem uK:tC P w K mg base cl 1 "_law_place_text" 67 ["_law_place_here","_law_found","_law_side","_law_hand_here","_law_number_here","_law_sign"] 1 cL:=by
 exists dQ
theorem Lq:tC P w K mg base cl 2 "_law_part" 68 ["_law_part_here"] 1 dR:=by
 exists kO
theorem Lr:tC P w K mg base cl 3 "_law_text" 69 ["_law_deed_here","_law_name","_law_seen","_law_act_here","_law_texts"] 1 Ci:=by
 exists Cg
theorem Bf:tC P w K mg base cl 1 "name_text" 41 ["name","hand","n"] 1 cM:=by
 exists kQ
theorem Bg:tC P w K mg base cl 2 "seen_text" 42 ["seen"] 1 kR:=by
 exists gB
theorem zT:tC P w K mg base cl 1 "plain_text" 40 ["text"] 1 dS:=by
 exists jF
theorem vD:tC P w K mg base cl 1 "number_text" 39 ["number"] 1 dC:=by
 exists gR
theorem Bh:tC P w K mg base cl 1 "side_text" 43 ["side"] 1 eS:=by
 exists kT
theorem Bi:tC P w K mg base cl 2 "step_text" 44 ["step","side","hand","n","k"] 1 kW:=by
 exists kU
theorem zU:tC P w K mg base cl 3 "place_text" 45 ["place"] 1 cR:=by
 exists fF
theorem vE:tC P w K mg base cl 4 "places_text" 46 ["places"] 1 gW:=by
 exists gU
theorem Bj:tC P w K mg base cl 4 "spot_text" 47 ["spot"] 1 gD:=by
 exists gC
theorem zV:tC P w K mg base cl 5 "parts_text" 49 ["parts","form"] 2 jH:=by
 exists jG
theorem J6:tC P w K mg base cl 6 "shown" 52 ["deed","name","seen","act"] 1 zC:=by
 exists zB
theorem vF:tC P w K mg base cl 1 "check_signs" 15 ["text"] 1 gY:=by
 exists gX
theorem vG:tC P w K mg base cl 1 "check_drawn" 16 ["text","signs","most"] 3 bQ:=by
 exists gZ
theorem Bk:tC P w K mg base cl 2 "read_hand" 21 ["text"] 1 eU:=by
 exists kX
theorem vH:tC P w K mg base cl 2 "read_number" 17 ["text","number"] 1 eQ:=by
 exists hJ
theorem Bl:tC P w K mg base cl 3 "read_from" 18 ["least","text","number"] 2 gE:=by
 exists kY
theorem Cw:tC P w K mg base cl 4 "read_nth" 20 ["text"] 1 fX:=by
 exists nG
theorem Bm:tC P w K mg base cl 5 "read_name" 26 ["text","hand","dot","n"] 1 cN:=by
 exists kZ
theorem Bn:tC P w K mg base cl 6 "read_seen" 28 ["text","pairs","hands"] 1 lA:=by
 exists gF
theorem EJ:tC P w K mg base cl 4 "read_at" 19 ["text"] 1 iL:=by
 exists pY
theorem Cy:tC P w K mg base cl 2 "read_key" 23 ["text"] 1 jI:=by
 exists nH
theorem qG:tC P w K mg base cl 5 "read_key_or_at" 36 ["text"] 1 iN:=by
 exists iM
theorem Bo:tC P w K mg base cl 1 "read_kind" 24 ["text"] 1 lC:=by
 exists lB
theorem Bp:tC P w K mg base cl 1 "read_side" 29 ["text"] 1 eV:=by
 exists gG
theorem Bq:tC P w K mg base cl 5 "read_step" 30 ["text","parts","side","hand","n","k"] 1 lE:=by
 exists lD
theorem zW:tC P w K mg base cl 6 "read_place" 31 ["text","parts"] 1 dU:=by
 exists jJ
theorem vI:tC P w K mg base cl 7 "read_places" 33 ["text","parts"] 1 hV:=by
 exists hU
theorem zX:tC P w K mg base cl 1 "read_signs" 25 ["text"] 1 jL:=by
 exists jK
theorem zY:tC P w K mg base cl 7 "read_under" 32 ["text"] 1 fH:=by
 exists fG
theorem zZ:tC P w K mg base cl 1 "check_pair" 34 ["under","side"] 2 fI:=by
 exists jM
theorem Br:tC P w K mg base cl 8 "read_spot" 35 ["text","ahead","blank","behind","under","side"] 1 gI:=by
 exists gH
theorem A0:tC P w K mg base cl 6 "read_thing" 27 ["text"] 1 fK:=by
 exists fJ
theorem Bs:tC P w K mg base cl 2 "read_word" 22 ["text"] 1 lG:=by
 exists lF
theorem A1:tC P w K mg base cl 9 "read_parts" 38 ["text","form","parts"] 2 jO:=by
 exists jN
theorem Cz:tC P w K mg base cl 10 "read_act" 54 ["text","word","act"] 1 nL:=by
 exists nK
theorem Ls:tC P w K mg base cl 11 "read" 53 ["text","parts","name","seen"] 1 zD:=by
 exists Cj
theorem Nx:tC P w K mg base cl 12 "law" 70 ["_law_script","_law_cell","_law_deed_here","_law_due","_law_found"] 1 GA:=by
 exists Gz
end
def spL(K:z9):Sp:=λvs H Q _=>∃(a:Addr)(ns:List Int),vs=[.ref a]/\F6 H/\SqL K H a (ns.map V.int)/\ns.length<=63/\(∀x∈ns,OY x<=1048576)/\∀H',Q (.bl true) H'
theorem all_mk{l:PySem.W.OpenLaw}{w:World}{K:z9}{h:Heap}{mg:Str->Option Value}{fa fM gO cV lQ cW:Addr}(X:K.In h)(G:h.Ns Pq mg)(xa:mg "law" = some (.ref fa))(hbn:∀x∈bsL,mg x=none)
  (ds:DsL K dL)
  (dr:∃u,PU K Pq "FIGURES" = some (some u)/\CV (.str "0123456789") u)
  {bp:Array DictEntry} {cv:Nat} (J7:PU K Pq "FORMS" = some (some (.ref fM))) (ib:K.lookup fM=some ⟨.type "dict",none,.dict bp cv,#[]⟩) (gn:GEg w.params (gtR K) dE bp.toList) (g9:(fM == QI)=false)
  {ak:Array Value} {cg:Nat} {fu:Array (Option Value)} (J8:PU K Pq "KINDS" = some (some (.ref gO))) (ia:K.lookup gO=some ⟨.type "tuple",none,.seq ak cg,fu⟩) (ic:aI [.str "map",.str "row",.str "count",.str "choice",.str "bag",.str "text"] ak.toList) (g8:ak.size<=OR)
  (cu:∃u,PU K Pq "LAST_STEP" = some (some u)/\CV (.int 11) u)
  (d9:∃u,PU K Pq "LETTERS" = some (some u)/\CV (.str "abcdefghijklmnopqrstuvwxyz") u)
  (bj:∃u,PU K Pq "MOST_FIGURES" = some (some u)/\CV (.int 40) u)
  (cy:∃u,PU K Pq "MOST_HAND" = some (some u)/\CV (.int 8) u)
  (c7:∃u,PU K Pq "MOST_KEY" = some (some u)/\CV (.int 12) u)
  (br:∃u,PU K Pq "MOST_PLACES" = some (some u)/\CV (.int 40) u)
  (bz:∃u,PU K Pq "MOST_SIGNS" = some (some u)/\CV (.int 12) u)
  (cq:∃u,PU K Pq "MOST_WORD" = some (some u)/\CV (.int 8) u)
  {ar:Array DictEntry} {bf:Nat} (EK:PU K Pq "READERS" = some (some (.ref cV))) (fc:K.lookup cV=some ⟨.type "dict",none,.dict ar bf,#[]⟩) (d7:GEg w.params (λx v=>PU K Pq x=some (some v)) nI ar.toList) (fb:(cV == QI)=false)
  {au:Array Value} {dm:Nat} {gv:Array (Option Value)} (Lu:PU K Pq "ROOT" = some (some (.ref lQ))) (i9:K.lookup lQ=some ⟨.type "tuple",none,.seq au dm,gv⟩) (j0:aI [.str "",.int (0)] au.toList) (jo:au.size<=OR)
  {aq:Array DictEntry} {bg:Nat} (EL:PU K Pq "WRITERS" = some (some (.ref cW))) (dw:K.lookup cW=some ⟨.type "dict",none,.dict aq bg,#[]⟩) (eu:GEg w.params (λx v=>PU K Pq x=some (some v)) nE aq.toList) (e9:(cW == QI)=false)
  : ∃fd:Q9,(∀(s:Shared)(v:Value),BindsTo s fd ⟨[v],[]⟩ [("_law_script",v)])/\∀base:Heap,K.In base->base.Ns Pq mg->iC l.prog w K mg base CX0 12 fa fd ["_law_script"] (spL K):=by
 have Z:∀b,ZZ l.prog b w K mg (λ_=>none) fM gO cV lQ cW:=λ_=>⟨hbn,⟨_,X,G⟩,ds,(let ⟨u,a,b⟩:=dr;⟨u,PN X G a,b⟩),⟨g9,by decide,bp,cv,ib,gn⟩,PN X G J7,PN X G J8,⟨_,ak,cg,[.str "map",.str "row",.str "count",.str "choice",.str "bag",.str "text"],ia,rfl,rfl,g8,ic,rfl,rfl⟩,(let ⟨u,a,b⟩:=cu;⟨u,PN X G a,b⟩),(let ⟨u,a,b⟩:=d9;⟨u,PN X G a,b⟩),(let ⟨u,a,b⟩:=bj;⟨u,PN X G a,b⟩),(let ⟨u,a,b⟩:=cy;⟨u,PN X G a,b⟩),(let ⟨u,a,b⟩:=c7;⟨u,PN X G a,b⟩),(let ⟨u,a,b⟩:=br;⟨u,PN X G a,b⟩),(let ⟨u,a,b⟩:=bz;⟨u,PN X G a,b⟩),(let ⟨u,a,b⟩:=cq;⟨u,PN X G a,b⟩),⟨fb,by decide,ar,bf,fc,GEg.imp (λx v h=>PN X G h) d7⟩,PN X G EK,PN X G Lu,⟨_,au,dm,[.str "",.int (0)],i9,rfl,rfl,jo,j0,rfl,rfl⟩,⟨e9,by decide,aq,bg,dw,GEg.imp (λx v h=>PN X G h) eu⟩,PN X G EL⟩;obtain⟨f,a,oc,kV,doc,pm,cdv,ct,od,an,osl,l',c,k⟩:=(Z h).ds.at (x:="law") (i:=70) (by decide +kernel);cases xa.symm.trans (PN X G a)
 refine⟨_,λs v=>.of_eq (fd:=QF "law" "law" (dO (top 70)) (cQ (top 70)) (bD (top 70)) .none kV doc pm an cdv ct) rfl,λbase _ _=>?_⟩;obtain⟨_,F⟩:=Nx (Z base);have q:fA K "law" = fa:=by rw[fA,a]
 rw[q,dA,l']at F;refine F.imp λvs H Q E hh=>?_;obtain⟨a,ns,rfl,hO,hS,hl,lx,hq⟩:=hh;exact KG (C:=cC w K (λ_=>none)) hO hS (main ns hl lx) hq
theorem walk{l:PySem.W.OpenLaw}{q:Program}{loose:List Str}{XP:(Str->Option Value)->Heap->Prop}{YP:World->Heap->Prop}{d:DefRec}{K:Params->z9}(hn:l.most=some 63)(mw:d.params.defaults=[])
  (hY:∀(w:World)(h:Heap),YP w h->(K w.params).In h)
  (F:∀(w:World)(mg:Str->Option Value)(fa:Addr)(h:Heap),(K w.params).In h->h.Ns Pq mg->mg d.name=some (.ref fa)->
   ∃fd:Q9,(∀(s:Shared)(u:Value),BindsTo s fd ⟨[u],[]⟩ [("_law_script",u)])/\∀base:Heap,(K w.params).In base->base.Ns Pq mg->iC l.prog w (K w.params) mg base CX0 12 fa fd ["_law_script"] (spL (K w.params))):
  PySem.W.WalkO q loose XP YP l.row.toRowW d [] (λf vs=>PySem.call f vs):=
 L2.walk_ofB (n:=63) (k:=12) (x:="_law_script") (CX:=λ_=>CX0) (sp:=λw=>spL (K w.params)) hn (by decide) mw ⟨rfl,by decide,by decide,rfl⟩ hY F (λw H a ns hl lx hO hS=>⟨a,ns,rfl,hO,hS,hl,lx,λ_=>rfl⟩) λ_ _ _ _ _ z=>z
end K91
open PySem PySem.W PyProof.Rows
namespace PySem.W.Fast
theorem tw10007899455546279741:True:=⟨⟩
theorem tw4684358341990199805:True:=⟨⟩
theorem tw17886414570899782233:True:=⟨⟩
theorem tw6327359267720631235:True:=⟨⟩
theorem tw1454429675858567000:True:=⟨⟩
theorem tw6118023818092857554:True:=⟨⟩
theorem tw3135832160692623226:True:=⟨⟩
theorem tw17833020130230593402:True:=⟨⟩
theorem tw1448937993159330330:True:=⟨⟩
theorem tw11841848234204987783:True:=⟨⟩
theorem tw3957747013195461055:True:=⟨⟩
theorem tw13402768160219795943:True:=⟨⟩
theorem tw6581130238170953459:True:=⟨⟩
theorem tw3224439819250001370:True:=⟨⟩
theorem tw18174063776176343414:True:=⟨⟩
theorem tw1844403427226698789:True:=⟨⟩
theorem tw18351131171381035577:True:=⟨⟩
theorem tw17750673721596896744:True:=⟨⟩
theorem tw10094393487198052846:True:=⟨⟩
theorem tw17060368455652560912:True:=⟨⟩
theorem tw7227643598970042754:True:=⟨⟩
theorem tw10742342435784913933:True:=⟨⟩
theorem tw8268226124354699792:True:=⟨⟩
theorem tw12178177708961366671:True:=⟨⟩
theorem tw3687789935697932592:True:=⟨⟩
theorem tw467823504351157737:True:=⟨⟩
theorem tw18434712430809155373:True:=⟨⟩
theorem tw6571210699606108788:True:=⟨⟩
theorem tw8712068992102759380:True:=⟨⟩
theorem tw15102227508899904082:True:=⟨⟩
theorem tw9301758861995733113:True:=⟨⟩
theorem tw10358175126232077129:True:=⟨⟩
theorem tw1477353143186655350:True:=⟨⟩
theorem tw4401219080399476691:True:=⟨⟩
theorem tw372184717675250578:True:=⟨⟩
theorem tw2875205779999214665:True:=⟨⟩
theorem tw11051230324621487740:True:=⟨⟩
theorem tw17991648438909804066:True:=⟨⟩
theorem tw10848460470506500072:True:=⟨⟩
theorem tw6464325426221682043:True:=⟨⟩
theorem tw17384460815357064716:True:=⟨⟩
theorem tw502703695027881521:True:=⟨⟩
theorem tw12618582997891273218:True:=⟨⟩
theorem tw3251926720630995657:True:=⟨⟩
theorem tw10785440709053167411:True:=⟨⟩
theorem tw14110099855416329726:True:=⟨⟩
theorem tw3660014054168743974:True:=⟨⟩
theorem tw10460467125261530017:True:=⟨⟩
theorem tw2461696279348946742:True:=⟨⟩
theorem tw6796028620522778741:True:=⟨⟩
theorem tw16256608450846528040:True:=⟨⟩
theorem tw1723494732124949887:True:=⟨⟩
theorem tw4276877172995256727:True:=⟨⟩
theorem tw8528901982868028675:True:=⟨⟩
theorem tw9791434441048484183:True:=⟨⟩
theorem tw11463579720190133311:True:=⟨⟩
theorem tw14740434645352016296:True:=⟨⟩
theorem tw17633111328139849179:True:=⟨⟩
theorem tw11093731273338941030:True:=⟨⟩
theorem tw8505765713881524379:True:=⟨⟩
theorem tw13942606124287138653:True:=⟨⟩
theorem tw2423635123802160312:True:=⟨⟩
theorem tw2621741721037564954:True:=⟨⟩
theorem tw17929246029221082075:True:=⟨⟩
theorem tw9915986010832152956:True:=⟨⟩
theorem tw3215316811875837357:True:=⟨⟩
theorem tw17937486017760900905:True:=⟨⟩
theorem tw15105371715057114854:True:=⟨⟩
theorem tw12501122769059220912:True:=⟨⟩
theorem tw3078068614817113666:True:=⟨⟩
theorem tw7286837689637562832:True:=⟨⟩
theorem tw6601317086921738705:True:=⟨⟩
theorem tw11741296663599116801:True:=⟨⟩
theorem tw659315051958586529:True:=⟨⟩
theorem tw4950439282368396796:True:=⟨⟩
theorem tw10835085525988871816:True:=⟨⟩
theorem tw13351473504277957624:True:=⟨⟩
theorem tw9884418485139394539:True:=⟨⟩
theorem tw11155612431283764608:True:=⟨⟩
theorem tw17739615318369220486:True:=⟨⟩
theorem tw15539594148240029355:True:=⟨⟩
theorem tw2694280383559098829:True:=⟨⟩
theorem tw2833946399060929577:True:=⟨⟩
theorem tw11107992210752600195:True:=⟨⟩
theorem tw13807653798476710550:True:=⟨⟩
theorem tw4211631162961442479:True:=⟨⟩
theorem tw11724941643074900853:True:=⟨⟩
theorem tw14538264632528838130:True:=⟨⟩
theorem tw13755537046954290130:True:=⟨⟩
theorem tw9697024730362331195:True:=⟨⟩
theorem tw11969871603641657910:True:=⟨⟩
theorem tw2017754020618003971:True:=⟨⟩
theorem tw9198110013799712415:True:=⟨⟩
theorem tw13738502004688699417:True:=⟨⟩
theorem tw8104881428027317755:True:=⟨⟩
theorem tw10693666949668001825:True:=⟨⟩
theorem tw15603093474770744401:True:=⟨⟩
theorem tw17930202165503854047:True:=⟨⟩
theorem tw3162798178377082604:True:=⟨⟩
theorem tw2045526916483436050:True:=⟨⟩
theorem tw5179818556497309551:True:=⟨⟩
theorem tw9887014405537488359:True:=⟨⟩
theorem tw16274167356919223955:True:=⟨⟩
theorem tw7915550288409538297:True:=⟨⟩
theorem tw182740203895984098:True:=⟨⟩
theorem tw291871349927561820:True:=⟨⟩
theorem tw16340077898109091584:True:=⟨⟩
theorem tw4252561784239101254:True:=⟨⟩
theorem tw6650845079896535132:True:=⟨⟩
theorem tw14742710016661869498:True:=⟨⟩
theorem tw17420173050935297288:True:=⟨⟩
theorem tw5376797759941972986:True:=⟨⟩
theorem tw11233659412825336956:True:=⟨⟩
theorem tw15611364284481104353:True:=⟨⟩
theorem tw17019424131284956388:True:=⟨⟩
theorem tw16570113002595028734:True:=⟨⟩
theorem tw1461419475802750848:True:=⟨⟩
theorem tw14598124783314712128:True:=⟨⟩
theorem tw16382137969356848117:True:=⟨⟩
theorem tw3308479662108662505:True:=⟨⟩
theorem tw9849262377652620796:True:=⟨⟩
theorem tw8929641878866270108:True:=⟨⟩
theorem tw4429125154704986701:True:=⟨⟩
theorem tw955010799255649221:True:=⟨⟩
theorem tw9770836773125736358:True:=⟨⟩
theorem tw3699830562747838089:True:=⟨⟩
theorem tw7781015127408085607:True:=⟨⟩
theorem tw4661313140147161114:True:=⟨⟩
theorem tw7985360832788014781:True:=⟨⟩
theorem tw1885851284407977382:True:=⟨⟩
theorem tw777175542614606604:True:=⟨⟩
theorem tw4218549978403876508:True:=⟨⟩
theorem tw2038565459854823965:True:=⟨⟩
theorem tw4321410247228632832:True:=⟨⟩
theorem tw14535998703448530250:True:=⟨⟩
theorem tw6804313805249427818:True:=⟨⟩
theorem tw5557689929099075793:True:=⟨⟩
theorem tw5355800532867893054:True:=⟨⟩
theorem tw4627791013062585848:True:=⟨⟩
theorem tw17255416320632398819:True:=⟨⟩
theorem tw7204052056849352273:True:=⟨⟩
theorem tw14805034709728339945:True:=⟨⟩
theorem tw17536469151677495235:True:=⟨⟩
theorem tw7449719236219965840:True:=⟨⟩
theorem tw18048566382521116406:True:=⟨⟩
theorem tw2606916530103751096:True:=⟨⟩
theorem tw11173203073581911829:True:=⟨⟩
theorem tw3296490088780784015:True:=⟨⟩
theorem tw11743846952318240025:True:=⟨⟩
theorem tw3937709825941544422:True:=⟨⟩
theorem tw7768224829028066715:True:=⟨⟩
theorem tw5931218473610133968:True:=⟨⟩
theorem tw562508805074315766:True:=⟨⟩
theorem tw6516902309438101371:True:=⟨⟩
theorem tw8121556807461608241:True:=⟨⟩
theorem tw638135728833862975:True:=⟨⟩
theorem tw13454913327673435386:True:=⟨⟩
theorem tw15779923760527387305:True:=⟨⟩
theorem tw16496202747798293359:True:=⟨⟩
theorem tw11008179225664309180:True:=⟨⟩
theorem tw5340360628720901464:True:=⟨⟩
theorem tw15411025844518233212:True:=⟨⟩
theorem tw5023625060031396766:True:=⟨⟩
theorem tw10392125434726840651:True:=⟨⟩
theorem tw2503697901867440822:True:=⟨⟩
theorem tw4350867249158686565:True:=⟨⟩
theorem tw2561678414618563674:True:=⟨⟩
theorem tw11370068709784087835:True:=⟨⟩
theorem tw7465601653565303726:True:=⟨⟩
theorem tw18073994872541454399:True:=⟨⟩
theorem tw10647945161098982063:True:=⟨⟩
theorem tw114681984433599293:True:=⟨⟩
theorem tw10266883830107791904:True:=⟨⟩
theorem tw15534585205239624040:True:=⟨⟩
theorem tw12802603903506309273:True:=⟨⟩
theorem tw1557547143953080763:True:=⟨⟩
theorem tw11607721083330868169:True:=⟨⟩
theorem tw12961871399407383400:True:=⟨⟩
theorem tw3652182922130334653:True:=⟨⟩
theorem tw5122952226154378181:True:=⟨⟩
theorem tw16168253993722020501:True:=⟨⟩
theorem tw11729107404882834570:True:=⟨⟩
theorem tw16533040167533935742:True:=⟨⟩
theorem tw14723559057883719520:True:=⟨⟩
theorem tw15783321974956812424:True:=⟨⟩
theorem tw14823754268398108166:True:=⟨⟩
theorem tw15682127864339351635:True:=⟨⟩
theorem tw2049251296587846778:True:=⟨⟩
theorem tw16006978478948166690:True:=⟨⟩
theorem tw693336378309653124:True:=⟨⟩
theorem tw15512094015033338847:True:=⟨⟩
theorem tw14201498153279535635:True:=⟨⟩
theorem tw3322304157250372067:True:=⟨⟩
theorem tw6881375392341625878:True:=⟨⟩
theorem tw4918424725749984150:True:=⟨⟩
theorem tw12942832001781256036:True:=⟨⟩
theorem tw12560956855982638006:True:=⟨⟩
theorem tw1052029475991000417:True:=⟨⟩
theorem tw16369927530557045661:True:=⟨⟩
theorem tw7283893625423348730:True:=⟨⟩
theorem tw13057716498958112450:True:=⟨⟩
theorem tw17081813393583325077:True:=⟨⟩
theorem tw7878095631282540887:True:=⟨⟩
theorem tw15932253545028190385:True:=⟨⟩
theorem tw8504281035125972199:True:=⟨⟩
theorem tw6826831142234902079:True:=⟨⟩
theorem tw8669904719710949466:True:=⟨⟩
theorem tw16045660011103846560:True:=⟨⟩
theorem tw18005520620195356869:True:=⟨⟩
theorem tw14090106317427020243:True:=⟨⟩
theorem tw9061278679195288217:True:=⟨⟩
theorem tw14651427241061533968:True:=⟨⟩
theorem tw8702521229550976813:True:=⟨⟩
theorem tw12782524987388327882:True:=⟨⟩
theorem tw4529365471904425448:True:=⟨⟩
theorem tw16640988632916940009:True:=⟨⟩
theorem tw11687556239815732406:True:=⟨⟩
theorem tw16090449586414348509:True:=⟨⟩
theorem tw15184363567107386079:True:=⟨⟩
theorem tw2838174134943192847:True:=⟨⟩
theorem tw14483934187469897128:True:=⟨⟩
theorem tw7200844584706439300:True:=⟨⟩
theorem tw11072841694898131598:True:=⟨⟩
theorem tw6591703175220720724:True:=⟨⟩
theorem tw9649149908780750440:True:=⟨⟩
theorem tw11926146380182465824:True:=⟨⟩
theorem tw7628680570138395197:True:=⟨⟩
theorem tw16627288791619783478:True:=⟨⟩
theorem tw7785497890758034254:True:=⟨⟩
theorem tw3640289233119421102:True:=⟨⟩
theorem tw5518564783366860849:True:=⟨⟩
theorem tw516697067478128584:True:=⟨⟩
theorem tw920150935854818830:True:=⟨⟩
theorem tw5358605929465487365:True:=⟨⟩
theorem tw11562734639368183652:True:=⟨⟩
theorem tw10080967019020988531:True:=⟨⟩
theorem tw12823136773836030983:True:=⟨⟩
theorem tw15176782078273716221:True:=⟨⟩
theorem tw16250082786729119025:True:=⟨⟩
theorem tw11000134484240304404:True:=⟨⟩
theorem tw6684086498980691400:True:=⟨⟩
theorem tw7759272221646504317:True:=⟨⟩
theorem tw15940787561632683913:True:=⟨⟩
theorem tw9324575925727546225:True:=⟨⟩
theorem tw16089586175659272090:True:=⟨⟩
theorem tw9666808095080809030:True:=⟨⟩
theorem tw17539259351536151888:True:=⟨⟩
theorem tw1039399271954864553:True:=⟨⟩
theorem tw14509387786414812951:True:=⟨⟩
theorem tw18003111710740237850:True:=⟨⟩
theorem tw3735161070088503970:True:=⟨⟩
theorem tw2914353072029350629:True:=⟨⟩
theorem tw13048763499886393334:True:=⟨⟩
theorem tw1229972348828486201:True:=⟨⟩
theorem tw17126134468919894872:True:=⟨⟩
theorem tw10603451103199943227:True:=⟨⟩
theorem tw9769675860739305288:True:=⟨⟩
theorem tw2106362389641868090:True:=⟨⟩
theorem tw17195763032933032590:True:=⟨⟩
theorem tw14735099135799768429:True:=⟨⟩
theorem tw4595797938074055157:True:=⟨⟩
theorem tw4203768442092663991:True:=⟨⟩
theorem tw13473902404366537224:True:=⟨⟩
theorem tw5430812586500792747:True:=⟨⟩
theorem tw2046753123861430321:True:=⟨⟩
theorem tw17886504601937626591:True:=⟨⟩
theorem tw17608890201596628120:True:=⟨⟩
theorem tw12834233059187488528:True:=⟨⟩
theorem tw15467256289181734460:True:=⟨⟩
theorem tw13762954779297190639:True:=⟨⟩
theorem tw8929542203554338449:True:=⟨⟩
theorem tw7260506542272607873:True:=⟨⟩
theorem tw1359747339569679768:True:=⟨⟩
theorem tw9934437055877266848:True:=⟨⟩
theorem tw6657670711492498031:True:=⟨⟩
theorem tw6301855389151810997:True:=⟨⟩
theorem tw10693140240579868700:True:=⟨⟩
theorem tw5223966768053207280:True:=⟨⟩
theorem tw12662434943839692040:True:=⟨⟩
theorem tw8225238758479753543:True:=⟨⟩
theorem tw2190540740520709993:True:=⟨⟩
theorem tw7445727323711797022:True:=⟨⟩
theorem tw4476633908473805294:True:=⟨⟩
theorem tw11795891529755362478:True:=⟨⟩
theorem tw11618811252997696523:True:=⟨⟩
theorem tw14861093507356087574:True:=⟨⟩
theorem tw9464977879864959601:True:=⟨⟩
theorem tw16675128091373511023:True:=⟨⟩
theorem tw12493710603492133754:True:=⟨⟩
theorem tw929416202185762737:True:=⟨⟩
theorem tw7263146812164356771:True:=⟨⟩
theorem tw9018172822146810698:True:=⟨⟩
theorem tw4654546598949807041:True:=⟨⟩
theorem tw3889164514902709658:True:=⟨⟩
theorem tw6937113393173878052:True:=⟨⟩
theorem tw6104047504971378188:True:=⟨⟩
theorem tw15929587848758379073:True:=⟨⟩
theorem tw1969993146436972347:True:=⟨⟩
theorem tw13559972065791774387:True:=⟨⟩
theorem tw13207798941424461593:True:=⟨⟩
theorem tw15468034815407540214:True:=⟨⟩
theorem tw4550636293783717904:True:=⟨⟩
theorem tw3177946907641665373:True:=⟨⟩
theorem tw3085892767179920357:True:=⟨⟩
theorem tw4238780661210601979:True:=⟨⟩
theorem tw3782734815579318414:True:=⟨⟩
theorem tw7675438988338952677:True:=⟨⟩
theorem tw12183346451814568437:True:=⟨⟩
theorem tw4592930319481851085:True:=⟨⟩
theorem tw13584314536455403320:True:=⟨⟩
theorem tw8701634927379240494:True:=⟨⟩
theorem tw11267656539261474422:True:=⟨⟩
theorem tw4840745189046833017:True:=⟨⟩
theorem tw13142357740739287092:True:=⟨⟩
theorem tw5386915779301992114:True:=⟨⟩
theorem tw4402423396994131029:True:=⟨⟩
theorem tw9643718337106426553:True:=⟨⟩
theorem tw17558924736293188230:True:=⟨⟩
theorem tw5272072523698958189:True:=⟨⟩
theorem tw2979373519851412655:True:=⟨⟩
theorem tw12150118737426365275:True:=⟨⟩
theorem tw1544233752058721931:True:=⟨⟩
theorem tw13788112020301115890:True:=⟨⟩
theorem tw2814413429137402974:True:=⟨⟩
theorem tw836291656597611466:True:=⟨⟩
theorem tw5977986370420626039:True:=⟨⟩
theorem tw4098591204317194148:True:=⟨⟩
theorem tw3306778519643706833:True:=⟨⟩
theorem tw3447789526526680609:True:=⟨⟩
theorem tw16255487463167352399:True:=⟨⟩
theorem tw14262580054416440961:True:=⟨⟩
theorem tw12668779416945637501:True:=⟨⟩
theorem tw6061510847329070810:True:=⟨⟩
theorem tw7150000098795683760:True:=⟨⟩
theorem tw6157764269046165360:True:=⟨⟩
theorem tw17299109850847443946:True:=⟨⟩
theorem tw8731948140213876849:True:=⟨⟩
theorem tw2150691230846682056:True:=⟨⟩
theorem tw3137361806313316476:True:=⟨⟩
theorem tw11775492717868645623:True:=⟨⟩
theorem tw6215060301246861912:True:=⟨⟩
theorem tw11654213939367152554:True:=⟨⟩
theorem tw10956023890665983132:True:=⟨⟩
theorem tw14088882724480373629:True:=⟨⟩
theorem tw12286176723309340383:True:=⟨⟩
theorem tw1093108288826273889:True:=⟨⟩
theorem tw6918886426546148661:True:=⟨⟩
theorem tw16325793740967248279:True:=⟨⟩
theorem tw12848374478794672106:True:=⟨⟩
theorem tw7544286016787974760:True:=⟨⟩
theorem tw4783165517792682223:True:=⟨⟩
theorem tw534820625104795843:True:=⟨⟩
theorem tw10180424912739876959:True:=⟨⟩
theorem tw16234339220462010525:True:=⟨⟩
theorem tw15645871165531044756:True:=⟨⟩
theorem tw11850159151504806284:True:=⟨⟩
theorem tw7601355237295284973:True:=⟨⟩
theorem tw9932309850870271705:True:=⟨⟩
theorem tw9816564873963845610:True:=⟨⟩
theorem tw9870070165600289049:True:=⟨⟩
theorem tw6372732807449662798:True:=⟨⟩
theorem tw10766079108302462568:True:=⟨⟩
end PySem.W.Fast
end
set_option maxRecDepth 100000 in
set_option maxHeartbeats 0 in
theorem PySem.Challenge.cw_copymeet_k91_a_deed_as_a_text_holds : PySem.Challenge.rw_copymeet_k91_a_deed_as_a_text.Holds := by
 w_on; o_law; k_head; (case hw=>w_witness2)
 k_fill
 refine K91.walk (l:=PySem.Challenge.rw_copymeet_k91_a_deed_as_a_text) rfl rfl (fun w h Y=>PySem.W.kIn_of Y) ?F
 case F=>
  intro w mg fa h KX G hmg
  have hbn:∀ x∈K91.bsL,mg x=none:=fun x hx=>by
   iterate 12 (rcases List.mem_cons.mp hx with rfl | hx; · exact PySem.W.mg_none_of KX G (by k_is))
   cases hx
  refine' K91.all_mk KX G hmg hbn ?h0 ?h1 ?h2 ?h3 ?h4 ?h5 ?h6 ?h7 ?h8 ?h9 ?h10 ?h11 ?h12 ?h13 ?h14 ?h15 ?h16 ?h17 ?h18 ?h19 ?h20 ?h21 ?h22 ?h23 ?h24 ?h25 ?h26 ?h27 ?h28 ?h29
  (case h0=>repeat' first | exact trivial | refine ⟨⟨_,by k_is,_,_,_,_,_,_,_,_,_,by k_is,by k_is,by k_is⟩,?_⟩)
  (case h2=>k_is)
  (case h3=>k_is)
  (case h6=>k_is)
  (case h7=>k_is)
  (case h18=>k_is)
  (case h19=>k_is)
  (case h22=>k_is)
  (case h23=>k_is)
  (case h26=>k_is)
  (case h27=>k_is)
  (case h1=>exact ⟨_,by k_is,_,rfl⟩)
  (case h4=>exact ⟨rfl,⟨_,rfl⟩,⟨_,rfl,L2.gt_mk (vs:=[.str "kind",.str "thing",.str "spot"]) (by k_is) (.cons ⟨_,rfl⟩ (.cons ⟨_,rfl⟩ (.cons ⟨_,rfl⟩ .nil))) (by decide +kernel) rfl⟩,rfl,⟨_,rfl⟩,⟨_,rfl,L2.gt_mk (vs:=[.str "thing",.str "thing",.str "spot"]) (by k_is) (.cons ⟨_,rfl⟩ (.cons ⟨_,rfl⟩ (.cons ⟨_,rfl⟩ .nil))) (by decide +kernel) rfl⟩,rfl,⟨_,rfl⟩,⟨_,rfl,L2.gt_mk (vs:=[.str "thing"]) (by k_is) (.cons ⟨_,rfl⟩ .nil) (by decide +kernel) rfl⟩,rfl,⟨_,rfl⟩,⟨_,rfl,L2.gt_mk (vs:=[.str "thing",.str "number"]) (by k_is) (.cons ⟨_,rfl⟩ (.cons ⟨_,rfl⟩ .nil)) (by decide +kernel) rfl⟩,rfl,⟨_,rfl⟩,⟨_,rfl,L2.gt_mk (vs:=[.str "thing",.str "number"]) (by k_is) (.cons ⟨_,rfl⟩ (.cons ⟨_,rfl⟩ .nil)) (by decide +kernel) rfl⟩,rfl,⟨_,rfl⟩,⟨_,rfl,L2.gt_mk (vs:=[.str "thing",.str "number"]) (by k_is) (.cons ⟨_,rfl⟩ (.cons ⟨_,rfl⟩ .nil)) (by decide +kernel) rfl⟩,rfl,⟨_,rfl⟩,⟨_,rfl,L2.gt_mk (vs:=[.str "thing",.str "number"]) (by k_is) (.cons ⟨_,rfl⟩ (.cons ⟨_,rfl⟩ .nil)) (by decide +kernel) rfl⟩,rfl,⟨_,rfl⟩,⟨_,rfl,L2.gt_mk (vs:=[.str "thing",.str "under",.str "side",.str "signs"]) (by k_is) (.cons ⟨_,rfl⟩ (.cons ⟨_,rfl⟩ (.cons ⟨_,rfl⟩ (.cons ⟨_,rfl⟩ .nil)))) (by decide +kernel) rfl⟩,rfl,⟨_,rfl⟩,⟨_,rfl,L2.gt_mk (vs:=[.str "thing",.str "places"]) (by k_is) (.cons ⟨_,rfl⟩ (.cons ⟨_,rfl⟩ .nil)) (by decide +kernel) rfl⟩,rfl,⟨_,rfl⟩,⟨_,rfl,L2.gt_mk (vs:=[.str "thing",.str "place",.str "place",.str "word"]) (by k_is) (.cons ⟨_,rfl⟩ (.cons ⟨_,rfl⟩ (.cons ⟨_,rfl⟩ (.cons ⟨_,rfl⟩ .nil)))) (by decide +kernel) rfl⟩,rfl,⟨_,rfl⟩,⟨_,rfl,L2.gt_mk (vs:=[.str "thing",.str "place",.str "place",.str "word"]) (by k_is) (.cons ⟨_,rfl⟩ (.cons ⟨_,rfl⟩ (.cons ⟨_,rfl⟩ (.cons ⟨_,rfl⟩ .nil)))) (by decide +kernel) rfl⟩,rfl,⟨_,rfl⟩,⟨_,rfl,L2.gt_mk (vs:=[.str "nth",.str "nth"]) (by k_is) (.cons ⟨_,rfl⟩ (.cons ⟨_,rfl⟩ .nil)) (by decide +kernel) rfl⟩,rfl,⟨_,rfl⟩,⟨_,rfl,L2.gt_mk (vs:=[]) (by k_is) .nil (by decide +kernel) rfl⟩,trivial⟩)
  (case h5=>decide +kernel)
  (case h8=>exact (.cons ⟨_,rfl⟩ (.cons ⟨_,rfl⟩ (.cons ⟨_,rfl⟩ (.cons ⟨_,rfl⟩ (.cons ⟨_,rfl⟩ (.cons ⟨_,rfl⟩ .nil)))))))
  (case h9=>decide +kernel)
  (case h10=>exact ⟨_,by k_is,_,rfl⟩)
  (case h11=>exact ⟨_,by k_is,_,rfl⟩)
  (case h12=>exact ⟨_,by k_is,_,rfl⟩)
  (case h13=>exact ⟨_,by k_is,_,rfl⟩)
  (case h14=>exact ⟨_,by k_is,_,rfl⟩)
  (case h15=>exact ⟨_,by k_is,_,rfl⟩)
  (case h16=>exact ⟨_,by k_is,_,rfl⟩)
  (case h17=>exact ⟨_,by k_is,_,rfl⟩)
  (case h20=>exact ⟨rfl,⟨_,rfl⟩,(by show PySem.W.nsIn _ _ _=_; k_is),rfl,⟨_,rfl⟩,(by show PySem.W.nsIn _ _ _=_; k_is),rfl,⟨_,rfl⟩,(by show PySem.W.nsIn _ _ _=_; k_is),rfl,⟨_,rfl⟩,(by show PySem.W.nsIn _ _ _=_; k_is),rfl,⟨_,rfl⟩,(by show PySem.W.nsIn _ _ _=_; k_is),rfl,⟨_,rfl⟩,(by show PySem.W.nsIn _ _ _=_; k_is),rfl,⟨_,rfl⟩,(by show PySem.W.nsIn _ _ _=_; k_is),rfl,⟨_,rfl⟩,(by show PySem.W.nsIn _ _ _=_; k_is),rfl,⟨_,rfl⟩,(by show PySem.W.nsIn _ _ _=_; k_is),rfl,⟨_,rfl⟩,(by show PySem.W.nsIn _ _ _=_; k_is),rfl,⟨_,rfl⟩,(by show PySem.W.nsIn _ _ _=_; k_is),rfl,⟨_,rfl⟩,(by show PySem.W.nsIn _ _ _=_; k_is),rfl,⟨_,rfl⟩,(by show PySem.W.nsIn _ _ _=_; k_is),rfl,⟨_,rfl⟩,(by show PySem.W.nsIn _ _ _=_; k_is),rfl,⟨_,rfl⟩,(by show PySem.W.nsIn _ _ _=_; k_is),trivial⟩)
  (case h21=>decide +kernel)
  (case h24=>exact (.cons ⟨_,rfl⟩ (.cons ⟨_,rfl⟩ .nil)))
  (case h25=>decide +kernel)
  (case h28=>exact ⟨rfl,⟨_,rfl⟩,(by show PySem.W.nsIn _ _ _=_; k_is),rfl,⟨_,rfl⟩,(by show PySem.W.nsIn _ _ _=_; k_is),rfl,⟨_,rfl⟩,(by show PySem.W.nsIn _ _ _=_; k_is),rfl,⟨_,rfl⟩,(by show PySem.W.nsIn _ _ _=_; k_is),rfl,⟨_,rfl⟩,(by show PySem.W.nsIn _ _ _=_; k_is),rfl,⟨_,rfl⟩,(by show PySem.W.nsIn _ _ _=_; k_is),rfl,⟨_,rfl⟩,(by show PySem.W.nsIn _ _ _=_; k_is),rfl,⟨_,rfl⟩,(by show PySem.W.nsIn _ _ _=_; k_is),rfl,⟨_,rfl⟩,(by show PySem.W.nsIn _ _ _=_; k_is),rfl,⟨_,rfl⟩,(by show PySem.W.nsIn _ _ _=_; k_is),rfl,⟨_,rfl⟩,(by show PySem.W.nsIn _ _ _=_; k_is),trivial⟩)
  (case h29=>decide +kernel)
