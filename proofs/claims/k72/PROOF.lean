import PyProof.Rows.All
import Wide.All
import OpenK.AllK
import Wide.FinOn
import Lean
import PyProof.EqAt
import PyProof.EqKinds
import PyProof.TupleCall
import PyProof.NeKinds
import KE.KDictOf
import PyProof.AttrMissHeap
import PyProof.WalksMore
import PyProof.MeetsDict
import KE.KDictList
import KE.KRevIter
import PyProof.DictItemsLoops
import PyProof.DictWalks
import KE.KSortTup
import KE.KDictSum
import PyProof.SumAny
import PyProof.Conv_int_bool
import PyProof.Conv_int
import KE.KRevSl
import PyProof.MeetsStr
import PyProof.StrCalls3
import PyProof.Rows.TupDisplay
import PyProof.ZipIter
import PyProof.Draws
import PyProof.EnumMake
import PySem.Challenge.RW_copymeet_k72_lost_with_their_ring
set_option compiler.extract_closed false
open PySem renaming wpAny_bind->yw,wpAny_pure->yy,sizeLine->zk,starEach->zx,compareOp->z8,Spec->Pa,wpAny_newObj_type->Pc,wpAny_call_entry->Pg,sizeLine_eq->Pj,wpAny_callSpecial?_slot->Px,cellsFrom->Pz,wpAny_holding->PF,binaryOp->PK,mainGlobals->PM,wpAny_dictEntries->PN,sysModules->PR,wpAny_dictEpoch->PZ,foldedSetIterable->P4,wpAny_Call_Name_kw->P9,FuncData->Qe,wpAny_specialOf->Qr,wpAny_typeNameOfWhole_itemiter->Qt,wpAny_mono->Qu,wpAny_typeNameOfWhole_valiter->Qw,wpAny_typeNameOfWhole_keyiter->Qx,wpAny_truthy_bool->Qz,assignEach->QG,attributeBase->QJ,tupleKind_room_in1->QM,slot_dict_contains->QQ,wpAny_typeNameOf_itemiter->QS,wpAny_passesOwn->QU,wpAny_typeNameOf_valiter->QZ,wpAny_typeNameOf_keyiter->Q2,bootBuiltins->Q3,mem_of_lookup->Q6,DictEntry->Ra,wpAny_setField->Rf,NameKind->Ri,call_meetsIn->Rm,wpAny_attempt->Rx,wpAny_fieldsOf->RF,firstArgMember->RG,wpAny_forIn_list->RM,wpAny_field->RN,swapsWith->RS
open List renaming getElem?_eq_some_iff->yx,length_map->za,mem_cons_of_mem->zc,mem_cons_self->zd,size_toArray->ze,prefix_rfl->zf,mem_append_right->zh,getElem?_map->zo,all_eq_true->zp,mem_cons->zq,map_cons->zt,lookup_cons->zw,mem_map->z9,range->Io,mem_append_left->OX,mem_singleton->OY,mem_append->OZ,getElem?_eq_getElem->Pe,map_map->Pm,mem_of_getElem?->Pn,prefix_append->Pp,map_append->Pq,getElem?_set_ne->Pr,length_cons->Pt,getElem?_append_left->PC,pairwise_cons->PJ,length_append->PP,getElem?_set_self->PU,getElem?_cons_succ->Qa,getD_eq_getElem?_getD->Qf,map_congr_left->Ql,pairwise_map->Qm,nodup_append->Qn,nodup_cons->Qq,ext_getElem?->QA,length_set->QC,find?_cons->QD,getElem?_append_right->QF,all_cons->QL,getElem?_eq_none->QP,length_range->QY,toArray->Q4,any_cons->Q7,length_take->Q8,length_drop->Q9,take_length->Rb,replicate->Re,take_of_length_le->Rh,append_nil->Rk,length_nil->Rl,take_add_one->Ry,getElem_mem->RL,map_eq_nil_iff->RP,lookup->RU
open PySem.W renaming Frag->yz,findIn->Pv,kia_one->Py,emptyDict->P5,fnOf->Qd,keepIn->Qo,instObj->QB,mg_of->Rv,plainGet->RI,codeIn->RW
open PySem.Heap renaming get?_push_of_some->y0,get?_push_size->zj,lt_size->zl,SameBut->QI,get?_update_self->QK,get?_push_ne->QX,size_push->RB,size_update->RK
open Nat renaming le_refl->zb,lt_of_lt_of_le->zr,zero_le->zz,ne_of_lt->z7,le_trans->Ph,lt_irrefl->P3,lt_or_eq_of_le->Qc,le_succ->Qv,not_lt_zero->QE,le_of_lt->QH,lt_succ_self->RJ,ne_of_gt->RQ
open PySem.Str renaming ofString->zg
open Bool renaming false_ne_true->zi,and_eq_true->z0,false_eq_true->Pb,eq_iff_iff->P8,beq_eq_decide_eq->Rt
open PySem.Value renaming none->zm,ref->Pf
open Option.some renaming inj->zy
open Option renaming map_eq_some_iff->z6,isSome_map->Qk,isSome_iff_exists->QV,isSome_some->Rj,map_some->Ru
open PySem.Obj renaming mapSeq->Pd,mapFields->Qy,data_mapFields->QO,isFreed_of_fields->Rr
open PySem.Builtin.Dict_items renaming ownsTuple->Pi
open PySem.Heap.SameBut renaming update->Pk
open PySem.NameKind renaming free->Po,cell->RT
open PyProof.Rows renaming slot_tuple_getitem->Pu,listUpdate_at->QN,mirror_perm->Rp,get?_update_seq->Rq
open PySem.Paired renaming length->Pw
open PySem.F renaming slot_dict_itemiterator_next->PB,slot_dict_valueiterator_next->PQ,slot_dict_get->P6,slot_dict_keyiterator_next->P7,entry_dict_get->Qg,slot_NoneType_hash->RA
open PySem.Builtin.Tuple renaming tupleHashOf->PD,tupleExact->QW,tupleItemsOf->Rz
open Ne renaming symm->PY
open Classical renaming propDecidable->Qb
open Array renaming getElem?_eq_none->Qh,getElem?_eq_getElem->Qp
open False renaming elim->Qi
open True renaming intro->Qj
open PySem.Builtin.Dict renaming showsAll->Qs
open PySem.Builtin.Slice renaming slicePlaces->QR,sliceAdjust->RC
open Sum renaming inr->QT
open Int renaming toNat_natCast->Q1
open List.Nodup renaming length_le_of_subset->Q5
open PySem.Calls renaming callWith_builtin->Rg
open PySem.Builtin.Str renaming strSliceIndices->Rn
open Array.Perm renaming refl->Ro
open List.Perm renaming eq_of_pairwise->RR
set_option Elab.async false
set_option linter.all false
set_option maxRecDepth 1000000
set_option maxHeartbeats 4000000
set_option bootstrap.genMatcherCode false
set_option hygiene false
noncomputable section
set_option genSizeOf false
local macro_rules|`(tactic|omega)=>`(tactic|lia)
local macro_rules|`(def $i:declId $s:optDeclSig $v:declVal)=>`(noncomputable def $i:declId $s:optDeclSig $v:declVal)
set_option tactic.hygienic false
namespace L2
open PySem PySem.Spec PyProof.Rows
abbrev Key:=Sum Int Str
def qB:Key->Value->Bool
 |.inl k,v=>Value.isInt k v
 |.inr x,v=>Value.isStrOf x v
def IW(w:World):Key->Int
 |.inl k=>hashInt k
 |.inr x=>hashStr w x
theorem bC:∀{k:Key}{v:Value},qB k v=true->(∃i t,k=Sum.inl i/\v=Value.int i t)\/(∃x t,k=QT x/\v=Value.str x t)
 |.inl i,v,h=>by
  obtain⟨t,e⟩:=Value.isInt_shape (k:=i) (v:=v) h;exact .inl ⟨i,t,rfl,e⟩
 |.inr x,v,h=>by
  obtain⟨t,e⟩:=Value.isStrOf_shape (x:=x) (v:=v) h;exact .inr ⟨x,t,rfl,e⟩
theorem Cr(i:Int)(t:Tok):qB (.inl i) (.int i t)=true:=by simp[qB,Value.isInt]
theorem Cs(x:Str)(t:Tok):qB (.inr x) (.str x t)=true:=by simp[qB,Value.isStrOf]
theorem IX(a b:Int):decide ((Sum.inl a:Key)=Sum.inl b)=(a == b):=by
 by_cases e:a=b
 ·subst e;simp
 ·have h:¬ (Sum.inl a:Key)=Sum.inl b:=λq=>e (Sum.inl.inj q);rw[decide_eq_false h];exact(beq_eq_false_iff_ne.mpr e).symm
theorem IY(a b:Str):decide ((QT a:Key)=QT b)=decide (a=b):=by
 by_cases e:a=b
 ·subst e;simp
 ·have h:¬ (QT a:Key)=QT b:=λq=>e (Sum.inr.inj q);rw[decide_eq_false h,decide_eq_false e]
theorem IZ(a:Int)(b:Str):decide ((Sum.inl a:Key)=QT b)=false:=decide_eq_false (λq=>nomatch q)
theorem J1(a:Str)(b:Int):decide ((QT a:Key)=Sum.inl b)=false:=decide_eq_false (λq=>nomatch q)
def bF(prog:Program)(w:World):PySem.KeyKind prog w Key where
 is:=qB
 hash:=IW w
 inj:=λv a b ha hb=>by
  rcases bC ha with⟨i,t,rfl,rfl⟩|⟨x,t,rfl,rfl⟩
  ·rcases bC hb with⟨j,u,rfl,e⟩|⟨y,u,rfl,e⟩
   ·injection e with e1 _;rw[e1]
   ·exact nomatch e
  ·rcases bC hb with⟨j,u,rfl,e⟩|⟨y,u,rfl,e⟩
   ·exact nomatch e
   ·injection e with e1 _;rw[e1]
 byValue:=λk v h=>by
  rcases bC h with⟨i,t,rfl,rfl⟩|⟨x,t,rfl,rfl⟩ <;> rfl
 pyHash:=λhv h=>by
  rcases bC hv with⟨i,t,rfl,rfl⟩|⟨x,t,rfl,rfl⟩
  ·exact wpAny_pyHash_int h
  ·exact wpAny_pyHash_str h
 eqBool:=λhu hv h=>by
  rcases bC hu with⟨i,t,rfl,rfl⟩|⟨x,t,rfl,rfl⟩
  ·rcases bC hv with⟨j,u,rfl,rfl⟩|⟨y,u,rfl,rfl⟩
   ·rw[IX]at h;exact wpAny_eqBool_int h
   ·rw[IZ]at h;exact SeqAt.EqAt.int_str i t y u _ _ _ _ h
  ·rcases bC hv with⟨j,u,rfl,rfl⟩|⟨y,u,rfl,rfl⟩
   ·rw[J1]at h;exact SeqAt.EqAt.str_int x t j u _ _ _ _ h
   ·rw[IY]at h;exact wpAny_eqBool_str h
 «strs»:=λk x t v h=>by
  rcases bC h with⟨i,u,rfl,e⟩|⟨y,u,rfl,e⟩
  ·exact nomatch e
  ·injection e with e1 _;subst e1;cases v <;> rfl
theorem zE(prog:Program)(w:World)(i:Int)(t:Tok):(bF prog w).is (.inl i) (.int i t)=true:=Cr i t
theorem zF(prog:Program)(w:World)(x:Str)(t:Tok):(bF prog w).is (.inr x) (.str x t)=true:=Cs x t
inductive V where
 |non|bl (b:Bool)|int (i:Int)|str (x:Str)|byt (b:Array UInt8)|flt (b:UInt64)|ref (a:Addr)|ty (n:String)
 deriving DecidableEq
def RelV:V->Value->Prop
 |.non,u=>u=zm
 |.bl b,u=>u=Value.bool b
 |.int i,u=>∃t,u=Value.int i t
 |.str x,u=>∃t,u=Value.str x t
 |.byt b,u=>∃t,u=Value.bytes b t
 |.flt b,u=>∃t,u=Value.float b t
 |.ref a,u=>u=Pf a
 |.ty n,u=>u=Value.type n
abbrev aJ:List V->List Value->Prop:=Paired RelV
variable{us:List Value}
theorem aJ.length{xs:List V}(r:aJ xs us):xs.length=us.length:=Pw r
theorem aJ.get:∀{xs:List V}{us:List Value}{i:Nat}{x:V},aJ xs us->xs[i]?=some x->∃u,us[i]?=some u/\RelV x u
 |_,_,_,_,.nil,e=>by simp at e
 |_,_,0,_,.cons r _,e=>by simp at e;subst e;exact⟨_,rfl,r⟩
 |_,_,i+1,x,.cons _ t,e=>by
  obtain⟨u,h1,h2⟩:=aJ.get (i:=i) (x:=x) t (by simpa using e)
  exact⟨u,by simpa using h1,h2⟩
variable{u:Value}
theorem aJ.set{x:V}(r:RelV x u):∀{xs:List V}{us:List Value}(i:Nat),aJ xs us->aJ (xs.set i x) (us.set i u)
 |_,_,_,.nil=>.nil
 |_,_,0,.cons _ t=>.cons r t
 |_,_,i+1,.cons q t=>.cons q (aJ.set r i t)
theorem aJ.append:∀{xs ys:List V}{us ws:List Value},aJ xs us->aJ ys ws->aJ (xs++ys) (us++ws)
 |_,_,_,_,.nil,s=>s
 |_,_,_,_,.cons r t,s=>.cons r (aJ.append t s)
theorem aJ.take:∀{xs:List V}{us:List Value}(n:Nat),aJ xs us->aJ (xs.take n) (us.take n)
 |_,_,0,_=>.nil
 |_,_,_+1,.nil=>.nil
 |_,_,n+1,.cons r t=>.cons r (aJ.take n t)
theorem aJ.drop:∀{xs:List V}{us:List Value}(n:Nat),aJ xs us->aJ (xs.drop n) (us.drop n)
 |_,_,0,r=>r
 |_,_,_+1,.nil=>.nil
 |_,_,n+1,.cons _ t=>aJ.drop n t
def jF:Option V->Option Value->Prop
 |some v,some u=>RelV v u
 |none,none=>True
 |_,_=>False
def KV{κ:Type}:List (κ×V)->List (κ×Value)->Prop:=Paired λ(p:κ×V)(q:κ×Value)=>p.1=q.1/\RelV p.2 q.2
def kV:Key->V
 |.inl i=>.int i
 |.inr x=>.str x
inductive HO where
 /-- a list -/
 |lst (xs:List V)
 /-- a tuple (never changes) -/
 |tup (xs:List V)
 /-- a dict whose keys are ints and texts;one whose keys are tuples of ints and texts (the empty one is both) -/
 |dK (kvs:List (Key×V))|dT (kvs:List (List Key×V))
 /-- a set of ints: its members,its size -/
 |set (S:Int->Bool) (n:Nat)
 /-- an instance of the class at C,its dict at dx,its attributes -/
 |ins (C dx:Addr) (fs:List (Str×V))
 /-- the dict of the instance at x -/
 |own (x:Addr)
 /-- the dict of an exception -/
 |xd (fs:List (Str×V))
 /-- a bound method,f of x -/
 |met (f x:Addr)
 /-- a range object lo,lo+1,.. below hi -/
 |rng (lo hi:Int)
 /-- a thing that is known to the object (the script;a dict while a loop walks it): read,never written while it is so -/
 |frz (o:Obj) (u:HO)
 /-- a code object's table -/
 |tbl (ps:Array Value)
 /-- any other thing,by what is true of its one object (a def of one's own: SetO a S n:=HO.ext λh=>..) -/
 |ext (φ:Heap->Prop)
abbrev Hp:=Addr->Option HO
def upd(H:Hp)(a:Addr)(o:HO):Hp:=λb=>if b=a then some o else H b
variable{H:Hp}{a:Addr}{o:HO}
theorem aL:upd H a o a=some o:=by unfold upd;rw[if_pos rfl]
theorem aH{b:Addr}(h:b≠a):upd H a o b=H b:=by unfold upd;rw[if_neg h]
theorem Lb{b:Addr}{u:HO}(h:H a=some o)(h':H b=some u)(d:o≠u):a≠b:=by
 intro e;subst e;rw[h]at h';exact d (zy h')
theorem cI{b:Addr}(h:H a=some o)(h':H b=none):a≠b:=by
 intro e;subst e;rw[h]at h';cases h'
def oQ(h:Heap)(a:Addr)(items:Array Value):Prop:=∃o,h.get? a=some o/\o.cls=.type "tuple" /\ (∃n,o.data=.seq items n)/\o.dict=none
variable{items:Array Value}
theorem oQ.is{h:Heap}(x:oQ h a items):PyProof.Rows.IsTup h a items:=let ⟨o,h1,h2,h3,_⟩:=x;⟨o,h1,h2,h3⟩
theorem oQ.lt{h:Heap}(x:oQ h a items):a<h.objs.size:=let ⟨_,h1,_⟩:=x;zl h1
theorem oQ.new(h:Heap)(items:Array Value):oQ (h.push { cls:=.type "tuple",data:=.seq items 0 }) h.objs.size items:=⟨_,zj _ rfl,rfl,⟨_,rfl⟩,rfl⟩
section
variable(P:Program)(w:World)
def bH(H:Hp)(h:Heap)(a:Addr):HO->Prop
 |.lst xs=>xs.length<=zk/\∃(its:List Value)(n:Nat),aJ xs its/\h.get? a=some { cls:=.type "list",data:=.seq its.toArray n }
 |.tup xs=>xs.length<=zk/\∃its:List Value,aJ xs its/\oQ h a its.toArray
 |.dK kvs=>kvs.length<=zk/\(a == PR)=false/\∃vs,KV kvs vs/\h.DictOf (bF P w) a vs
 | .dT kvs=>kvs.length<=zk/\(a == PR)=false/\∃ xs:List (List Key×Addr×Value),
   Paired (λ(p:List Key×V)(q:List Key×Addr×Value)=>p.1=q.1/\H q.2.1=some (.tup (p.1.map kV))/\RelV p.2 q.2.2) kvs xs/\
   ∃o es ep,h.get? a=some o/\o.ExactDict/\o.data=.dict es ep/\es.toList=xs.map (entryOfKey (tupleKind (bF P w)))/\(xs.map (·.1)).Nodup
 |.set S n=>h.SetOf (intKind P w) a S n
 | .ins C dx fs=>H dx=some (.own a)/\fs.length<=1000/\dx≠a/\h.get? a=some (QB C dx)/\
   ∃mA,h.Ns1 dx mA/\(∀f,jF (fs.lookup f) (mA f))/\PySem.Within mA (fs.map (·.1))
 |.own _=>∃o,h.get? a=some o
 |.xd fs=>∃mA,h.Ns1 a mA/\∀f,jF (fs.lookup f) (mA f)
 |.rng lo hi=>∃t u v,h.get? a=some { cls:=.type "range",data:=.fields #[.int lo t,.int hi u,.int 1 v] }
 |.frz o u=>h.get? a=some o/\bH H h a u
 |.tbl ps=>h.get? a=some { cls:=.none,data:=.fields ps }
 |.met f x=>h.get? a=some (PySem.W.methodObj (.ref f) (.ref x))
 |.ext φ=>φ h/\(∃o,h.get? a=some o)/\∀h1 h2:Heap,φ h1->(∀o,h1.get? a=some o->h2.get? a=some o)->φ h2
def HOk(H:Hp)(h:Heap):Prop:=∀a o,H a=some o->bH P w H h a o
end
variable{P:Program}{w:World}
theorem bH.lt{h:Heap}(x:bH P w H h a o):a<h.objs.size:=by
 cases o with
 |lst xs=>obtain⟨_,_,_,_,e⟩:=x;exact zl e
 |tup xs=>obtain⟨_,_,_,p⟩:=x;exact oQ.lt p
 |dK kvs=>obtain⟨_,_,_,_,o,_,_,e,_⟩:=x;exact zl e
 |dT kvs=>obtain⟨_,_,_,_,o,_,_,e,_⟩:=x;exact zl e
 |set S n=>obtain⟨o,_,_,_,e,_⟩:=x;exact zl e
 |ins C dx fs=>obtain⟨_,_,_,e,_⟩:=x;exact zl e
 |own y=>obtain⟨_,e⟩:=x;exact zl e
 |xd fs=>obtain⟨_,⟨_,_,_,e,_⟩,_⟩:=x;exact zl e
 |rng lo hi=>obtain⟨_,_,_,e⟩:=x;exact zl e
 |frz ob u=>obtain⟨e,_⟩:=x;exact zl e
 |tbl ps=>exact zl (show h.get? a=some _ from x)
 |met f y=>exact zl (show h.get? a=some _ from x)
 |ext φ=>obtain⟨_,⟨_,e⟩,_⟩:=x;exact zl e
theorem Paired.mapP{α β:Type}{F G:α->β->Prop}:∀{l₁:List α}{l₂:List β},Paired F l₁ l₂->(∀a b,F a b->G a b)->Paired G l₁ l₂
 |_,_,.nil,_=>.nil
 |_,_,.cons r t,f=>.cons (f _ _ r) (Paired.mapP t f)
variable{H':Hp}{h':Heap}
theorem bH.stay{h:Heap}(x:bH P w H h a o)(k:∀b u,(b=a\/H b=some (.own a))->h.get? b=some u->h'.get? b=some u)(ho:∀b,H b=some (.own a)->H' b=some (.own a))(ht:∀b xs,H b=some (.tup xs)->H' b=some (.tup xs)):bH P w H' h' a o:=by
 induction o with
 |lst xs=>obtain⟨z,its,n,r,e⟩:=x;exact⟨z,its,n,r,k _ _ (.inl rfl) e⟩
 |tup xs=>obtain⟨z,its,r,ob,e,c⟩:=x;exact⟨z,its,r,ob,k _ _ (.inl rfl) e,c⟩
 |dK kvs=>obtain⟨z,y,vs,r,ob,es,ep,e,c⟩:=x;exact⟨z,y,vs,r,ob,es,ep,k _ _ (.inl rfl) e,c⟩
 |dT kvs=>
  obtain⟨z,y,xs,r,ob,es,ep,e,c⟩:=x;exact⟨z,y,xs,Paired.mapP r λp q z=>⟨z.1,ht _ _ z.2.1,z.2.2⟩,ob,es,ep,k _ _ (.inl rfl) e,c⟩
 |set S n=>obtain⟨ob,es,ep,t,e,c⟩:=x;exact⟨ob,es,ep,t,k _ _ (.inl rfl) e,c⟩
 |ins C dx fs=>
  obtain⟨d,z,ne,e,mA,⟨od,es,ep,e2,c⟩,r⟩:=x;exact⟨ho _ d,z,ne,k _ _ (.inl rfl) e,mA,⟨od,es,ep,k _ _ (.inr d) e2,c⟩,r⟩
 |own y=>obtain⟨ob,e⟩:=x;exact⟨ob,k _ _ (.inl rfl) e⟩
 |xd fs=>obtain⟨mA,⟨od,es,ep,e,c⟩,r⟩:=x;exact⟨mA,⟨od,es,ep,k _ _ (.inl rfl) e,c⟩,r⟩
 |rng lo hi=>obtain⟨t,u,v,e⟩:=x;exact⟨t,u,v,k _ _ (.inl rfl) e⟩
 |frz ob u ih=>obtain⟨e,q⟩:=x;exact⟨k _ _ (.inl rfl) e,ih q⟩
 |tbl ps=>
  have e:h.get? a=some { cls:=.none,data:=.fields ps }:=x
  show h'.get? a=some { cls:=.none,data:=.fields ps }
  exact k a _ (.inl rfl) e
 |met f y=>
  have e:h.get? a=some (PySem.W.methodObj (.ref f) (.ref y)):=x
  show h'.get? a=some (PySem.W.methodObj (.ref f) (.ref y))
  exact k a _ (.inl rfl) e
 |ext φ=>obtain⟨p,⟨o,e⟩,st⟩:=x;exact⟨st _ _ p λo q=>k _ _ (.inl rfl) q,⟨o,k _ _ (.inl rfl) e⟩,st⟩
theorem HOk.lt{h:Heap}(x:HOk P w H h)(e:H a=some o):a<h.objs.size:=(x a o e).lt
theorem HOk.fresh{h:Heap}(x:HOk P w H h)(e:h.objs.size<=a):H a=none:=by
 cases q:H a with
 |none=>rfl
 |some u=>exact absurd (zr (x.lt q) e) (P3 _)
theorem HOk.kept{h:Heap}(x:HOk P w H h)(k:∀b u,h.get? b=some u->h'.get? b=some u):HOk P w H h':=λa o e=>
 (x a o e).stay (λb u _ q=>k b u q) (λ_ q=>q) λ_ _ q=>q
theorem HOk.laid{h:Heap}(x:HOk P w H h)(k:∀b u,h.get? b=some u->h'.get? b=some u)(hp:h.objs.size<=a)(new:bH P w (upd H a o) h' a o):HOk P w (upd H a o) h':=λb u e=>by
 have hn:=x.fresh hp
 by_cases hb:b=a
 ·subst hb;rw[aL]at e;cases e;exact new
 ·rw[aH hb]at e;exact(x b u e).stay (λc v _ q=>k c v q) (λc q=>by rw[aH (cI q hn)];exact q) λc xs q=>by rw[aH (cI q hn)];exact q
def Rd(H:Hp)(a:Addr)(u:HO):Prop:=H a=some u\/∃o,H a=some (.frz o u)
theorem Rd.ok{h:Heap}{u:HO}(r:Rd H a u)(x:HOk P w H h):bH P w H h a u:=by
 rcases r with r|⟨o,r⟩
 ·exact x a u r
 ·obtain⟨_,q⟩:=x a _ r;exact q
def Mut:Option HO->Prop
 |some (.lst _)=>True
 |some (.dK _)=>True
 |some (.dT _)=>True
 |some (.set _ _)=>True
 |some (.ins _ _ _)=>True
 |some (.ext _)=>True
 |_=>False
section
variable{h:Heap}{x e:Addr}{o':HO}
theorem HOk.write(ok:HOk P w H h)(mu:Mut (H x))(he:e=x\/H e=some (.own x))(k:∀b u,b≠e->h.get? b=some u->h'.get? b=some u)(j7:∃u,h'.get? e=some u)
  (new:bH P w (upd H x o') h' x o'):HOk P w (upd H x o') h':=λb u q=>by
 have kx:∀c y,H c=some (.own y)->c≠x:=λc y r z=>by subst z;rw[r]at mu;exact mu
 have qu:∀c xs,H c=some (.tup xs)->c≠x:=λc xs r z=>by subst z;rw[r]at mu;exact mu
 by_cases hb:b=x
 ·subst hb;rw[aL]at q;cases q;exact new
 ·rw[aH hb]at q
  by_cases hbe:b=e
  ·have q':H b=some (.own x):=by
    rcases he with z|z
    ·exact absurd (hbe.trans z) hb
    ·rw[hbe];exact z
   rw[q]at q';cases q';obtain⟨v,hv⟩:=j7;exact⟨v,by rw[hbe];exact hv⟩
  ·refine(ok b u q).stay (λc v hc r=>k c v ?_ r) (λc r=>by rw[aH (kx c b r)];exact r) λc xs r=>by rw[aH (qu c xs r)];exact r
   rcases hc with rfl|hc
   ·exact hbe
   ·rintro rfl;rcases he with z|z
    ·exact kx c b hc z
    ·rw[hc]at z;cases z;exact hb rfl
end
structure Un(fs ex:List Addr)(H H':Hp)(h h':Heap):Prop where
 keep:∀b o,h.get? b=some o->H b=none->b∉fs->b∉ex->h'.get? b=some o
 slot:∀b o,h.get? b=some o->H b=none->b∈fs->b∉ex->∃sl,h'.get? b=some { o with slots:=sl }
 free:∀b o,h.get? b=some o->H b=none->b∉ex->H' b=none
 there:∀b o,h.get? b=some o->b∉ex->∃o',h'.get? b=some o'
 tups:∀b xs,H b=some (.tup xs)->H' b=some (.tup xs)
 frzs:∀b o u,H b=some (.frz o u)->H' b=some (.frz o u)
 tbls:∀b ps,H b=some (.tbl ps)->∃more,H' b=some (.tbl (ps++more))
variable{H1:Hp}{ex:List Addr}{ob:Obj}
section
variable{fs t9 ex':List Addr}{h h1 h2:Heap}{x e:Addr}
theorem Un.any(u:Un fs ex H H1 h h1){b:Addr}(q:h.get? b=some ob)(n:H b=none)(hx:b∉ex):∃sl,h1.get? b=some { ob with slots:=sl }:=by
 by_cases hb:b∈fs
 ·exact u.slot b ob q n hb hx
 ·exact⟨ob.slots,u.keep b ob q n hb hx⟩
theorem Un.kept(k:∀b u,h.get? b=some u->h'.get? b=some u):Un fs ex H H h h':=
 ⟨λb ob q _ _ _=>k b ob q,λb ob q _ _ _=>⟨ob.slots,k b ob q⟩,λ_ _ _ n _=>n,λb ob q _=>⟨ob,k b ob q⟩,λ_ _ q=>q,λ_ _ _ q=>q,λ_ ps q=>⟨#[],by rw[q];simp⟩⟩
theorem Un.refl:Un fs ex H H h h:=Un.kept λ_ _ q=>q
theorem Un.laid(k:∀b u,h.get? b=some u->h'.get? b=some u)(hp:h.objs.size<=a)(hn:H a=none):Un fs ex H (upd H a o) h h' where
 keep:=λb u q _ _ _=>k b u q
 slot:=λb u q _ _ _=>⟨u.slots,k b u q⟩
 free:=λb u q n _=>by rw[aH (z7 (zr (zl q) hp))];exact n
 there:=λb u q _=>⟨u,k b u q⟩
 tups:=λb xs q=>by rw[aH (cI q hn)];exact q
 frzs:=λb u xs q=>by rw[aH (cI q hn)];exact q
 tbls:=λb ps q=>⟨#[],by rw[aH (cI q hn),q];simp⟩
theorem Un.write(mu:Mut (H x))(he:e=x\/H e=some (.own x))(k:∀b u,b≠e->h.get? b=some u->h'.get? b=some u)(j7:∃u,h'.get? e=some u):Un fs ex H (upd H x o) h h':=by
 have hx:∀b,H b=none->b≠x:=λb n z=>by subst z;rw[n]at mu;exact mu
 have hb:∀b,H b=none->b≠e:=λb n z=>by
  subst z;rcases he with r|r
  ·exact hx b n r
  ·rw[n]at r;cases r
 have hm:∀b u,H b=some u->¬ Mut (some u)->b≠x:=λb u q nm z=>by subst z;rw[q]at mu;exact nm mu
 refine⟨λb u q n _ _=>k b u (hb b n) q,λb u q n _ _=>⟨u.slots,k b u (hb b n) q⟩,λb u q n _=>by rw[aH (hx b n)];exact n,λb u q _=>?_,
  λb xs q=>by rw[aH (hm b _ q λz=>z)];exact q,λb u xs q=>by rw[aH (hm b _ q λz=>z)];exact q,λb ps q=>⟨#[],by rw[aH (hm b _ q λz=>z),q];simp⟩⟩
 by_cases hbe:b=e
 ·subst hbe;exact j7
 ·exact⟨u,k b u hbe q⟩
end
def trk(h:Heap)(H:Hp):List Addr:=(Io h.objs.size).filter λa=>(H a).isSome
def wO(h:Heap)(H:Hp):Heap:=PySem.W.hideAll h (trk h H)
theorem Ct(h:Heap)(H:Hp):(wO h H).objs.size=h.objs.size:=PySem.W.hideAll_size _ _
theorem DC{h:Heap}{b:Addr}{o:Obj}(e:h.get? b=some o)(n:H b=none):(wO h H).get? b=some o:=
 PySem.W.hideAll_get _ e λhm=>by
  have q:(H b).isSome=true:=(List.mem_filter.mp hm).2;rw[n]at q;simp at q
theorem Gc{h:Heap}{b:Addr}{o:Obj}(e:(wO h H).get? b=some o):h.get? b=some o/\H b=none:=by
 have e':h.get? b=some o:=PySem.W.of_hideAll (trk h H) e;refine⟨e',?_⟩;cases q:H b with
 |none=>rfl
 |some x=>
  have hm:b∈trk h H:=List.mem_filter.mpr ⟨List.mem_range.mpr (zl e'),by simp[q]⟩;have z:(wO h H).get? b=none:=PySem.W.hideAll_none (trk h H) hm;rw[z]at e;cases e
def Gd(g h:Heap)(L:Addr):List (Addr×Obj):=(Io h.objs.size).filterMap λa=>if a=L\/(g.get? a).isSome=true then none else(h.get? a).map λo=>(a,o)
def rest(g h:Heap)(L d:Addr):List (Addr×Obj):=(Gd g h L).filter λp=>decide (p.1≠d)
structure Mod(K:yz)(mg:Str->Option Value)(base:Heap):Prop where
 kin:K.In base
 glob:base.Ns PM mg
 blt:∃mb,base.Ns builtinsNs mb/\∀x:Str,x≠"__name__" -> mb x=Q3 x
 nolimit:base.NoLimit
structure Cx where
 prog:Program
 w:World
 K:yz
 mg:Str->Option Value
 base:Heap
 A:Around
 N:List Str
 s₀:Shared
 H₀:Hp
 env:Env
 outer:List Env
 stack:List Env
 ex:List Addr
 fn:Str->Bool
 calm:Bool
 pn:List (Addr×Obj)
 xe:Value->Shared->Prop
def frs(l:List Env):List Addr:=l.filterMap (·.frame)
abbrev Cx.fs(X:Cx):List Addr:=frs X.outer
def Vis(sc:Scope)(x:Str):Prop:=sc.names.lookup x=some .local\/sc.names.lookup x=some .cell\/sc.names.lookup x=some .free
def Loc(sc:Scope)(x:Str):Prop:=sc.names.lookup x=some .local\/sc.names.lookup x=some .cell
def Look(env:Env)(h:Heap)(m:Str->Option Value)(x:Str)(u:Value):Prop:=
 (env.kindOf x=some .local/\m x=some u)\/((env.kindOf x=some .cell\/env.kindOf x=some .free)/\∃c,env.cells.lookup x=some c/\h.IsCell c (some u))
structure Cx.Ok(X:Cx):Prop where
 mod:Mod X.K X.mg X.base
 kind:X.env.scope.kind=.function
 glob:X.env.globals=PM
 blt:X.env.builtins=builtinsNs
 above:X.s₀.heap.objs.size<=X.env.locals
 inj:∀x y c,X.env.cells.lookup x=some c->X.env.cells.lookup y=some c->x=y
 has:∀x,(X.env.kindOf x=some .cell\/X.env.kindOf x=some .free)->∃c,X.env.cells.lookup x=some c
 cab:∀x c,X.fn x=true->X.env.cells.lookup x=some c->X.s₀.heap.objs.size<=c
 hd:X.calm=true->X.A.handled=none
 frames:X.A.frames=some X.stack
 stk:X.stack=X.outer\/(X.stack=X.env::X.outer/\X.env.frame=some X.env.locals)
 exf:∀b∈X.ex,b≠X.env.locals/\∀x c,X.env.cells.lookup x=some c->c≠b
 bs:∀b o,X.base.get? b=some o->X.s₀.heap.get? b=some o/\X.H₀ b=none
 bsz:X.base.objs.size<=X.s₀.heap.objs.size
 noex:∀b o,X.base.get? b=some o->b∉X.ex
 exfs:∀b∈X.ex,b∉X.fs
 funs:X.s₀.heap.FunFrames X.base X.outer
 frf:∀b∈X.fs,X.H₀ b=none
structure Inv(X:Cx)(pins:List (Addr×Obj))(σ:List (Option V))(H:Hp)(s:Shared):Prop where
 ok:X.Ok
 os:s.os=X.s₀.os
 bare:AllBare s.gens
 base:Un X.fs X.ex X.H₀ H X.s₀.heap s.heap
 loc:∃m,s.heap.Ns X.env.locals m/\∀(i:Nat)(x:Str)(v:V),X.N[i]?=some x->σ[i]?=some (some v)->Vis X.env.scope x->∃u,RelV v u/\Look X.env s.heap m x u
 cell:∀x c,X.env.cells.lookup x=some c->∃v,s.heap.IsCell c v
 free:H X.env.locals=none
 freeC:∀x c,X.env.cells.lookup x=some c->H c=none
 pin:∀p∈X.pn++pins,s.heap.get? p.1=some p.2/\H p.1=none/\p.1≠X.env.locals/\p.1∉X.fs/\∀v,p.2.data≠.cell v
 hok:HOk X.prog X.w H s.heap
 len:σ.length=X.N.length
variable{X:Cx}
theorem Cx.Ok.nofr(ok:X.Ok){b:Addr}{o:Obj}(e:X.base.get? b=some o):b∉X.fs:=λhb=>by
 have:=(ok.funs.mem hb).1;rw[e]at this;cases this
variable{pins:List (Addr×Obj)}{s:Shared}
theorem Inv.bs{σ:List (Option V)}(I:Inv X pins σ H s):∀b o,X.base.get? b=some o->s.heap.get? b=some o/\H b=none:=λb o e=>
 ⟨I.base.keep b o (I.ok.bs b o e).1 (I.ok.bs b o e).2 (I.ok.nofr e) (I.ok.noex b o e),I.base.free b o (I.ok.bs b o e).1 (I.ok.bs b o e).2 (I.ok.noex b o e)⟩
theorem Inv.bk{σ:List (Option V)}(I:Inv X pins σ H s):∀b o,X.base.get? b=some o->s.heap.get? b=some o:=λb o e=>(I.bs b o e).1
theorem Inv.mod{σ:List (Option V)}(I:Inv X pins σ H s):Mod X.K X.mg X.base:=I.ok.mod
theorem Inv.kIn{σ:List (Option V)}(I:Inv X pins σ H s):X.K.In s.heap:=I.ok.mod.kin.keeps I.bk
theorem Inv.lt{σ:List (Option V)}(I:Inv X pins σ H s):X.env.locals<s.heap.objs.size:=let ⟨_,hn,_⟩:=I.loc;hn.lt
theorem Inv.sz{σ:List (Option V)}(I:Inv X pins σ H s):X.s₀.heap.objs.size<=s.heap.objs.size:=Ph I.ok.above (QH I.lt)
theorem Inv.nofs{σ:List (Option V)}(I:Inv X pins σ H s)(h:s.heap.objs.size<=a):a∉X.fs:=λhb=>by
 obtain⟨_,o,ho,_⟩:=I.ok.funs.mem hb;exact absurd (zr (zl ho) (Ph I.sz h)) (P3 _)
theorem Inv.cne{σ:List (Option V)}(I:Inv X pins σ H s):∀x c,X.env.cells.lookup x=some c->c≠X.env.locals:=λx c e z=>by
 obtain⟨v,o,ho,hd⟩:=I.cell x c e;obtain⟨m,⟨o',es,ep,dr,gi,_⟩,_⟩:=I.loc;rw[z,dr]at ho;cases ho;rw[gi]at hd;cases hd
theorem Inv.funs{σ:List (Option V)}(I:Inv X pins σ H s):s.heap.FunFrames X.base X.outer:=by
 have all:∀(l:List Env),(∀b∈frs l,b∈X.fs)->X.s₀.heap.FunFrames X.base l->s.heap.FunFrames X.base l:=by
  intro l
  induction l with
  |nil=>intro _ _;trivial
  |cons env r ih=>
   intro hs hl;obtain⟨hk,⟨L,o,hf,hn,ho,hd⟩,hr⟩:=hl;have hL:L∈X.fs:=hs L (by unfold frs;rw[List.filterMap_cons,hf];exact zd);obtain⟨sl,e⟩:=I.base.slot L o ho (I.ok.frf L hL) hL λz=>I.ok.exfs L z hL;exact⟨hk,⟨L,_,hf,hn,e,hd⟩,ih (λb hb=>hs b (by unfold frs;rw[List.filterMap_cons,hf];exact zc _ hb)) hr⟩
 exact all X.outer (λ_ hb=>hb) I.ok.funs
theorem Inv.stack{σ:List (Option V)}(I:Inv X pins σ H s):s.heap.FunFrames X.base X.stack:=by
 rcases I.ok.stk with e|⟨e,hf⟩
 ·rw[e];exact I.funs
 ·rw[e];obtain⟨m,hn,_⟩:=I.loc;refine .cons (by rw[I.ok.kind];decide) hf hn ?_ I.funs;exact Heap.get?_none_of_le (Ph I.ok.bsz I.ok.above)
theorem Inv.stkSub{σ:List (Option V)}(I:Inv X pins σ H s):∀b∈frs X.stack,b∈X.env.locals::X.fs:=λb hb=>by
 rcases I.ok.stk with e|⟨e,hf⟩
 ·rw[e]at hb;exact zc _ hb
 ·rw[e]at hb;unfold frs at hb;rw[List.filterMap_cons,hf]at hb;exact hb
theorem Inv.stkFree{σ:List (Option V)}(I:Inv X pins σ H s):∀b∈frs X.stack,H b=none:=λb hb=>by
 rcases zq.mp (I.stkSub b hb) with e|hb
 ·rw[e];exact I.free
 ·obtain⟨_,o,ho,_⟩:=I.ok.funs.mem hb;exact I.base.free b o ho (I.ok.frf b hb) λz=>I.ok.exfs b z hb
variable{ch:List Addr}{d':Drawn}{g':Array GenState}{t':Nat}
theorem Inv.step{σ:List (Option V)}(I:Inv X pins σ H s)(fh:∀b∈ch,(b∈X.ex\/X.s₀.heap.objs.size<=b)/\b≠X.env.locals/\(∀x c,X.env.cells.lookup x=some c->c≠b)/\∀p∈X.pn++pins,p.1≠b)(keep:∀b o,b≠X.env.locals->b∉X.fs->b∉ch->s.heap.get? b=some o->H b=none->h'.get? b=some o)(slot:∀b o,b≠X.env.locals->b∈X.fs->b∉ch->s.heap.get? b=some o->H b=none->∃sl,h'.get? b=some { o with slots:=sl })(free:∀b o,b∉ch->s.heap.get? b=some o->H b=none->H' b=none)(there:∀b o,b∉ch->s.heap.get? b=some o->∃o',h'.get? b=some o')(tups:∀b xs,H b=some (.tup xs)->H' b=some (.tup xs))(frzs:∀b o u,H b=some (.frz o u)->H' b=some (.frz o u))(tbls:∀b ps,H b=some (.tbl ps)->∃more,H' b=some (.tbl (ps++more)))(ns:∀m,s.heap.Ns X.env.locals m->h'.Ns X.env.locals m)(hok:HOk X.prog X.w H' h')(hg:AllBare g'):
  Inv X pins σ H' { s with heap:=h',gens:=g',drawn:=d',toks:=t' }:=by
 have vi:∀b o,X.s₀.heap.get? b=some o->b≠X.env.locals:=λb o e=>z7 (zr (zl e) I.ok.above);have oe:∀b o,X.s₀.heap.get? b=some o->b∉X.ex->b∉ch:=λb o e hx hb=>by
  rcases(fh b hb).1 with z|z
  ·exact hx z
  ·exact absurd (zr (zl e) z) (P3 _)
 have cellK:∀x c,X.env.cells.lookup x=some c->∀v,s.heap.IsCell c v->h'.IsCell c v:=λx c e v ⟨o,ho,hd⟩=>by
  have kg:c∉ch:=λz=>(fh c z).2.2.1 x c e rfl
  by_cases hc:c∈X.fs
  ·obtain⟨sl,q⟩:=slot c o (I.cne x c e) hc kg ho (I.freeC x c e);exact⟨_,q,hd⟩
  ·exact⟨o,keep c o (I.cne x c e) hc kg ho (I.freeC x c e),hd⟩
 refine⟨I.ok,I.os,hg,⟨λb o e n hb hx=>?_,λb o e n hb hx=>?_,λb o e n hx=>?_,λb o e hx=>?_,λb xs e=>tups b xs (I.base.tups b xs e),λb o xs e=>frzs b o xs (I.base.frzs b o xs e),λb ps e=>?_⟩,?_,λx c e=>?_,?_,λx c e=>?_,λp hp=>?_,hok,I.len⟩
 ·exact keep b o (vi b o e) hb (oe b o e hx) (I.base.keep b o e n hb hx) (I.base.free b o e n hx)
 ·obtain⟨sl,e1⟩:=I.base.slot b o e n hb hx;obtain⟨yo,e2⟩:=slot b _ (vi b o e) hb (oe b o e hx) e1 (I.base.free b o e n hx);exact⟨yo,e2⟩
 ·obtain⟨o',e1⟩:=I.base.there b o e hx;exact free b o' (oe b o e hx) e1 (I.base.free b o e n hx)
 ·obtain⟨o',e1⟩:=I.base.there b o e hx;exact there b o' (oe b o e hx) e1
 ·obtain⟨m1,e1⟩:=I.base.tbls b ps e;obtain⟨m2,e2⟩:=tbls b _ e1;exact⟨m1++m2,by rw[e2,Array.append_assoc]⟩
 ·obtain⟨m,hn,hl⟩:=I.loc;refine⟨m,ns m hn,λi x v e1 e2 e3=>?_⟩;obtain⟨u,r,l⟩:=hl i x v e1 e2 e3;refine⟨u,r,?_⟩;rcases l with l|⟨k,c,e,z⟩
  ·exact .inl l
  ·exact .inr ⟨k,c,e,cellK x c e _ z⟩
 ·obtain⟨v,z⟩:=I.cell x c e;exact⟨v,cellK x c e v z⟩
 ·obtain⟨m,⟨o,_,_,ho,_⟩,_⟩:=I.loc;exact free _ o (λz=>(fh _ z).2.1 rfl) ho I.free
 ·obtain⟨v,o,ho,hd⟩:=I.cell x c e;exact free c o (λz=>(fh c z).2.2.1 x c e rfl) ho (I.freeC x c e)
 ·obtain⟨e,n,ne,nf,d⟩:=I.pin p hp;have kg:p.1∉ch:=λz=>(fh p.1 z).2.2.2 p hp rfl;exact⟨keep p.1 p.2 ne nf kg e n,free p.1 p.2 kg e n,ne,nf,d⟩
theorem Inv.un{σ:List (Option V)}(I:Inv X pins σ H s)(u:Un X.fs [] H H' s.heap h')(hok:HOk X.prog X.w H' h'):Inv X pins σ H' { s with heap:=h',toks:=t' }:=by
 obtain⟨m,⟨o,es,ep,ho,r⟩,_⟩:=id I.loc;obtain⟨sl,hL⟩:=u.any ho I.free (by simp);exact I.step (g':=s.gens) (d':=s.drawn) (ch:=[]) (λ_ z=>nomatch z) (λb o _ hb _ e n=>u.keep b o e n hb (by simp)) (λb o _ hb _ e n=>u.slot b o e n hb (by simp)) (λb o _ e n=>u.free b o e n (by simp)) (λb o _ e=>u.there b o e (by simp)) u.tups u.frzs u.tbls (λm' hm=>by
  obtain⟨o',nc,jq,dr,r'⟩:=hm;rw[ho]at dr;cases dr;exact⟨_,nc,jq,hL,r'⟩) hok I.bare
theorem Inv.call{σ:List (Option V)}(I:Inv X pins σ H s)(u:Un (frs X.stack) ch H H' s.heap h')(hok:HOk X.prog X.w H' h')(hg:AllBare g')(fh:∀b∈ch,(b∈X.ex\/X.s₀.heap.objs.size<=b)/\b≠X.env.locals/\(∀x c,X.env.cells.lookup x=some c->c≠b)/\∀p∈X.pn++pins,p.1≠b):
  Inv X pins σ H' { s with heap:=h',gens:=g',drawn:=d',toks:=t' }:=by
 obtain⟨m,⟨o,es,ep,ho,r⟩,_⟩:=id I.loc;obtain⟨sl,hL⟩:=u.any ho I.free λz=>(fh _ z).2.1 rfl;exact I.step (ch:=ch) fh (λb o hL hb hc e n=>u.keep b o e n (λz=>(zq.mp (I.stkSub b z)).elim hL hb) hc) (λb o _ _ hc e n=>u.any e n hc) (λb o hc e n=>u.free b o e n hc) (λb o hc e=>u.there b o e hc) u.tups u.frzs u.tbls (λm' hm=>by
  obtain⟨o',nc,jq,dr,r'⟩:=hm;rw[ho]at dr;cases dr;exact⟨_,nc,jq,hL,r'⟩) hok hg
variable{it:Addr}
theorem Inv.turned{σ:List (Option V)}(I:Inv X pins σ H s)(k:∀b o,b≠it->s.heap.get? b=some o->h'.get? b=some o)(hn:H it=none)(hL:it≠X.env.locals)(h1:it∈X.ex\/X.s₀.heap.objs.size<=it)(h2:∀x c,X.env.cells.lookup x=some c->c≠it)(h3:∀p∈X.pn++pins,p.1≠it):Inv X pins σ H { s with heap:=h',toks:=t' }:=by
 have my:∀b u,H b=some u->b≠it:=λb u e z=>by rw[z,hn]at e;cases e
 refine I.step (g':=s.gens) (d':=s.drawn) (ch:=[it]) (λb hb=>?_) (λb o _ _ hc e _=>k b o (λz=>hc (by simp[z])) e) (λb o _ _ hc e _=>⟨o.slots,k b o (λz=>hc (by simp[z])) e⟩) (λ_ _ _ _ n=>n)
  (λb o hc e=>⟨o,k b o (λz=>hc (by simp[z])) e⟩) (λ_ _ e=>e) (λ_ _ _ e=>e) (λb ps e=>⟨#[],by rw[e];simp⟩) (λm hm=>?_) (λb u e=>?_) I.bare
 ·have e:b=it:=by simpa using hb
  subst e;exact⟨h1,hL,h2,h3⟩
 ·obtain⟨o,es,ep,ho,r⟩:=hm;exact⟨o,es,ep,k _ o (PY hL) ho,r⟩
 ·refine(I.hok b u e).stay (λc v hc q=>k c v ?_ q) (λ_ q=>q) λ_ _ q=>q;rcases hc with z|z
  ·rw[z];exact my b u e
  ·exact my c _ z
theorem Inv.tok{σ:List (Option V)}(I:Inv X pins σ H s)(t:Nat):Inv X pins σ H { s with toks:=t }:=I.un (h':=s.heap) (t':=t) Un.refl I.hok
theorem Inv.kept{σ:List (Option V)}(I:Inv X pins σ H s)(k:∀b u,s.heap.get? b=some u->h'.get? b=some u):Inv X pins σ H { s with heap:=h',toks:=t' }:=I.un (Un.kept k) (I.hok.kept k)
theorem Inv.laid{σ:List (Option V)}(I:Inv X pins σ H s)(k:∀b u,s.heap.get? b=some u->h'.get? b=some u)(hp:s.heap.objs.size<=a)(new:bH X.prog X.w (upd H a o) h' a o):
  Inv X pins σ (upd H a o) { s with heap:=h',toks:=t' }:=I.un (Un.laid k hp (I.hok.fresh hp)) (I.hok.laid k hp new)
theorem Inv.write{σ:List (Option V)}{x e:Addr}(I:Inv X pins σ H s)(mu:Mut (H x))(he:e=x\/H e=some (.own x))(k:∀b u,b≠e->s.heap.get? b=some u->h'.get? b=some u)(j7:∃u,h'.get? e=some u)(new:bH X.prog X.w (upd H x o) h' x o):Inv X pins σ (upd H x o) { s with heap:=h',toks:=t' }:=I.un (Un.write mu he k j7) (I.hok.write mu he k j7 new)
variable{cf:List (Addr×Obj)}
theorem Inv.pins_of{σ:List (Option V)}(I:Inv X pins σ H s)(h:∀p∈cf,s.heap.get? p.1=some p.2/\H p.1=none/\p.1≠X.env.locals/\p.1∉X.fs/\∀v,p.2.data≠.cell v):Inv X cf σ H s:=
 ⟨I.ok,I.os,I.bare,I.base,I.loc,I.cell,I.free,I.freeC,λp hp=>(OZ.mp hp).elim (λz=>I.pin p (OX _ z)) (h p),I.hok,I.len⟩
variable{N:List Str}{i j:Nat}{x:Str}
theorem zG(hN:N.Nodup)(a:N[i]?=some x)(b:N[j]?=some x):i=j:=by
 obtain⟨h1,e1⟩:=yx.mp a;obtain⟨h2,e2⟩:=yx.mp b;exact(List.getElem_inj hN).mp (e1.trans e2.symm)
variable{A:Around}{E:Value->Shared->Prop}{M:Model}{v:V}
theorem uO{σ:List (Option V)}{Q:Unit->Shared->Prop}(I:Inv X pins σ H s)(hN:X.N.Nodup)(hi:X.N[i]?=some x)(hx:Loc X.env.scope x)(r:RelV v u)(h:∀s',Inv X pins (σ.set i (some v)) H s'->(∃a,QI a s.heap s'.heap/\(a=X.env.locals\/X.env.cells.lookup x=some a))->Q () s')(hf:X.fn x=true\/X.env.scope.names.lookup x=some .local:=by first|exact .inl rfl|exact .inr rfl|assumption):wpAny M A (storeName X.env x u) Q E s:=by
 obtain⟨m,hn,hl⟩:=id I.loc;have qx:(X.env.scope.kind == .class || (X.env.scope.kind == .module&&X.env.locals != X.env.globals))=false:=by rw[I.ok.kind];rfl
 have sm:i<σ.length:=by rw[I.len];exact(yx.mp hi).1
 have cne:=I.cne;have tracked:∀{a:Addr}{h':Heap},(∃o,s.heap.get? a=some o/\H a=none)->QI a s.heap h'->HOk X.prog X.w H h':=λ{a h'} ha hs b ob e=>by
  obtain⟨_,_,ir⟩:=ha;refine(I.hok b ob e).stay (λc w' hc q=>(hs.2 c ?_).trans q) (λ_ q=>q) λ_ _ q=>q;rintro rfl;rcases hc with rfl|hc
  ·rw[ir]at e;cases e
  ·rw[ir]at hc;cases hc
 rcases hx with hk|hk
 ·refine wpAny_storeName_local hk hn (λh' o5 hs=>?_) qx;obtain⟨oL,_,_,ie,_⟩:=id hn;refine h _ ⟨I.ok,I.os,I.bare,⟨λb o e n hb hx=>?_,λb o e n hb hx=>?_,I.base.free,λb o e hx=>?_,I.base.tups,I.base.frzs,I.base.tbls⟩,⟨_,o5,λj y v' e1 e2 e3=>?_⟩,λy c e=>?_,I.free,I.freeC,λp hp=>?_,tracked ⟨oL,ie,I.free⟩ hs,by simpa using I.len⟩ ⟨_,hs,.inl rfl⟩
  ·exact(hs.2 b (z7 (zr (zl e) I.ok.above))).trans (I.base.keep b o e n hb hx)
  ·obtain⟨sl,e1⟩:=I.base.slot b o e n hb hx;exact⟨sl,(hs.2 b (z7 (zr (zl e) I.ok.above))).trans e1⟩
  ·obtain⟨o',e1⟩:=I.base.there b o e hx;exact⟨o',(hs.2 b (z7 (zr (zl e) I.ok.above))).trans e1⟩
  ·by_cases hj:j=i
   ·subst hj;rw[hi]at e1;cases e1;rw[PU sm]at e2;cases e2
    exact⟨u,r,.inl ⟨hk,by simp⟩⟩
   ·rw[Pr (PY hj)]at e2;obtain⟨u',r',q⟩:=hl j y v' e1 e2 e3;refine⟨u',r',?_⟩;rcases q with⟨k,e⟩|⟨k,c,e,z⟩
    ·refine .inl ⟨k,?_⟩;have:y≠x:=λe=>hj (zG hN e1 (e▸hi));simp[this,e]
    ·exact .inr ⟨k,c,e,z.sameBut hs (cne y c e)⟩
  ·obtain⟨w',z⟩:=I.cell y c e;exact⟨w',z.sameBut hs (cne y c e)⟩
  ·obtain⟨e,n,ne,nf,d⟩:=I.pin p hp;exact⟨(hs.2 p.1 ne).trans e,n,ne,nf,d⟩
 ·have rf:X.fn x=true:=by
   rcases hf with z|z
   ·exact z
   ·rw[z]at hk;cases hk
  obtain⟨c,hc⟩:=I.ok.has x (.inl hk);obtain⟨w',z⟩:=I.cell x c hc;refine wpAny_storeName_cell I.ok.kind hk hc z (λh' nu hs=>?_);obtain⟨oc,fq,r6⟩:=id z;refine h { s with heap:=h' } ⟨I.ok,I.os,I.bare,⟨λb o e n hb hx=>?_,λb o e n hb hx=>?_,I.base.free,λb o e hx=>?_,I.base.tups,I.base.frzs,I.base.tbls⟩,⟨m,hn.sameBut hs (PY (cne x c hc)),λj y v' e1 e2 e3=>?_⟩,λy c' e=>?_,I.free,I.freeC,λp hp=>?_,tracked ⟨oc,fq,I.freeC x c hc⟩ hs,by simpa using I.len⟩ ⟨c,hs,.inr hc⟩
  ·exact(hs.2 b (z7 (zr (zl e) (I.ok.cab x c rf hc)))).trans (I.base.keep b o e n hb hx)
  ·obtain⟨sl,e1⟩:=I.base.slot b o e n hb hx;exact⟨sl,(hs.2 b (z7 (zr (zl e) (I.ok.cab x c rf hc)))).trans e1⟩
  ·obtain⟨o',e1⟩:=I.base.there b o e hx;exact⟨o',(hs.2 b (z7 (zr (zl e) (I.ok.cab x c rf hc)))).trans e1⟩
  ·by_cases hj:j=i
   ·subst hj;rw[hi]at e1;cases e1;rw[PU sm]at e2;cases e2
    exact⟨u,r,.inr ⟨.inl hk,c,hc,nu⟩⟩
   ·rw[Pr (PY hj)]at e2;obtain⟨u',r',q⟩:=hl j y v' e1 e2 e3;refine⟨u',r',?_⟩;rcases q with q|⟨k,c',e,z'⟩
    ·exact .inl q
    ·refine .inr ⟨k,c',e,z'.sameBut hs ?_⟩;rintro rfl;exact hj (zG hN e1 (I.ok.inj _ _ _ e hc▸hi))
  ·by_cases hcc:c'=c
   ·subst hcc;exact⟨_,nu⟩
   ·obtain⟨w2,z2⟩:=I.cell y c' e;exact⟨w2,z2.sameBut hs hcc⟩
  ·obtain⟨e,n,ne,nf,d⟩:=I.pin p hp;refine⟨(hs.2 p.1 ?_).trans e,n,ne,nf,d⟩;intro q;rw[q,fq]at e;have q':oc=p.2:=zy e;exact d w' (by rw[<-q'];exact r6)
theorem zH{σ:List (Option V)}{Q:Unit->Shared->Prop}(I:Inv X pins σ H s)(hN:X.N.Nodup)(hi:X.N[i]?=some x)(hx:Loc X.env.scope x)(r:RelV v u)(h:∀s',Inv X pins (σ.set i (some v)) H s'->Q () s')(hf:X.fn x=true\/X.env.scope.names.lookup x=some .local:=by first|exact .inl rfl|exact .inr rfl|assumption):wpAny M A (storeName X.env x u) Q E s:=
 uO I hN hi hx r (λs' I' _=>h s' I') hf
variable{s':Shared}
theorem Inv.call'{σ:List (Option V)}(I:Inv X pins σ H s)(ho:s'.os=s.os)(u:Un (frs X.stack) ch H H' s.heap s'.heap)(hok:HOk X.prog X.w H' s'.heap)(hg:AllBare s'.gens)(fh:∀b∈ch,(b∈X.ex\/X.s₀.heap.objs.size<=b)/\b≠X.env.locals/\(∀x c,X.env.cells.lookup x=some c->c≠b)/\∀p∈X.pn++pins,p.1≠b):Inv X pins σ H' s':=by
 obtain⟨h',g',d',t',o'⟩:=s';have e:o'=s.os:=ho;subst e;exact I.call (g':=g') (t':=t') (d':=d') u hok hg fh
abbrev XK:=Value->Option Addr->Hp->Prop
abbrev St:=List (Option V)
abbrev VK:=V->Hp->Prop
abbrev TE:=St->Hp->VK->Prop
abbrev TT:=St->Hp->(Bool->Hp->Prop)->Prop
abbrev TA:=St->Hp->(List V->Hp->Prop)->Prop
structure Ends where
 nx:St->Hp->Prop
 rt:VK
 bk:St->Hp->Prop:=λ_ _=>False
 ct:St->Hp->Prop:=λ_ _=>False
abbrev TS:=Ends->St->Hp->Prop
def EP(X:Cx)(pins:List (Addr×Obj))(σ:St)(Q:VK)(u:Value)(s':Shared):Prop:=∃v H',Inv X pins σ H' s'/\RelV v u/\Q v H'
def TP(X:Cx)(pins:List (Addr×Obj))(σ:St)(Q:Bool->Hp->Prop)(b:Bool)(s':Shared):Prop:=∃H',Inv X pins σ H' s'/\Q b H'
def AP(X:Cx)(pins:List (Addr×Obj))(σ:St)(Q:List V->Hp->Prop)(us:List Value)(s':Shared):Prop:=∃vs H',Inv X pins σ H' s'/\aJ vs us/\Q vs H'
def SP(X:Cx)(pins:List (Addr×Obj))(D:Ends)(f:Flow)(s':Shared):Prop:=
 match f with
 |.next=>∃σ' H',Inv X pins σ' H' s'/\D.nx σ' H'
 |.brk=>∃σ' H',Inv X pins σ' H' s'/\D.bk σ' H'
 |.cont=>∃σ' H',Inv X pins σ' H' s'/\D.ct σ' H'
 |.ret u=>∃v σ' H',Inv X pins σ' H' s'/\RelV v u/\D.rt v H'
def PE(X:Cx)(e:Expr)(t:TE):Prop:=
 ∀(pins:List (Addr×Obj))(s:Shared)(σ:St)(H:Hp)(Q:VK),Inv X pins σ H s->t σ H Q->wpAny (model X.prog X.w) X.A (eval e X.env) (EP X pins σ Q) X.xe s
def PT(X:Cx)(e:Expr)(t:TT):Prop:=
 ∀(pins:List (Addr×Obj))(s:Shared)(σ:St)(H:Hp)(Q:Bool->Hp->Prop),Inv X pins σ H s->t σ H Q->wpAny (model X.prog X.w) X.A (isTrue e X.env (eval e X.env)) (TP X pins σ Q) X.xe s
def PW(X:Cx)(e:Expr)(t:TT):Prop:=
 ∀(whole:Sem Value)(pins:List (Addr×Obj))(s:Shared)(σ:St)(H:Hp)(Q:Bool->Hp->Prop),Inv X pins σ H s->t σ H Q->wpAny (model X.prog X.w) X.A (isTrue e X.env whole) (TP X pins σ Q) X.xe s
variable{e:Expr}
theorem PW.pt{t:TT}(h:PW X e t):PT X e t:=h _
def PA(X:Cx)(es:List Expr)(t:TA):Prop:=
 ∀(pos:Pos)(pins:List (Addr×Obj))(s:Shared)(σ:St)(H:Hp)(Q:List V->Hp->Prop),Inv X pins σ H s->t σ H Q->wpAny (model X.prog X.w) X.A (spliced (backTo pos (zx es X.env))) (AP X pins σ Q) X.xe s
def PS(X:Cx)(st:Stmt)(t:TS):Prop:=
 ∀(pins:List (Addr×Obj))(s:Shared)(σ:St)(H:Hp)(D:Ends),Inv X pins σ H s->t D σ H->wpAny (model X.prog X.w) X.A (exec st X.env) (SP X pins D) X.xe s
def PSs(X:Cx)(st:List Stmt)(t:TS):Prop:=
 ∀(pins:List (Addr×Obj))(s:Shared)(σ:St)(H:Hp)(D:Ends),Inv X pins σ H s->t D σ H->wpAny (model X.prog X.w) X.A (execs st X.env) (SP X pins D) X.xe s
theorem thn{α:Type}{t:Sem α}{Q Q':α->Shared->Prop}(h:wpAny M A t Q E s)(hQ:∀a s,Q a s->Q' a s):wpAny M A t Q' E s:=Qu h hQ λ_ _ x=>x
variable{pos:Pos}{Q:Value->Shared->Prop}{σ:St}{tA:TT}{pd:TT}{ta:TE}
section
def NK(i:Nat):TE:=λσ H Q=>∃v,σ[i]?=some (some v)/\Q v H
def tC(v:V):TE:=λ_ H Q=>Q v H
theorem J2(hN:X.N[i]?=some x)(hv:Vis X.env.scope x)(hd:(x == ("__debug__" : Str))=false:=by decide)(d9:(x == ("__classdict__" : Str))=false:=by decide):PE X (.Name x pos) (NK i):=by
 intro pins s σ H Q I h;obtain⟨v,e,h⟩:=h;obtain⟨m,hn,hl⟩:=I.loc;obtain⟨u,r,l⟩:=hl i x v hN e hv;have fin:EP X pins σ Q u s:=⟨v,H,I,r,h⟩;rcases l with⟨hk,hm⟩|⟨hk,c,hc,c5⟩
 ·exact wpAny_Name (wpAny_loadName_local I.ok.kind hk hn hm fin) hd
 ·rcases hk with hk|hk
  ·exact wpAny_Name (wpAny_loadName_cell I.ok.kind hk hc c5 fin) hd
  ·exact wpAny_Name (wpAny_loadName_free I.ok.kind hk hc c5 fin d9) hd
theorem J3{i j pos}:PE X (.Constant (.int i) j pos) (tC (.int i)):=λ_ _ _ H _ I h=>wpAny_Constant_int ⟨.int i,H,I.tok _,⟨_,rfl⟩,h⟩
theorem Lc{b j pos}:PE X (.Constant (.bool b) j pos) (tC (.bl b)):=λ_ _ _ H _ I h=>Constant_bool ⟨.bl b,H,I,rfl,h⟩
theorem J4{j pos}:PE X (.Constant .none j pos) (tC .non):=λ_ _ _ H _ I h=>Constant_none ⟨.non,H,I,rfl,h⟩
theorem J5{x j pos}:PE X (.Constant (.str x) j pos) (tC (.str x)):=λ_ _ _ H _ I h=>Calls.Constant_str ⟨.str x,H,I.tok _,⟨_,rfl⟩,h⟩
def Gl(X:Cx)(x:Str):Prop:=X.env.kindOf x=some .globalImplicit
theorem iE(I:Inv X pins σ H s)(hg:Gl X x)(hm:X.mg x=some u)(h:Q u s)(hd:(x == ("__debug__" : Str))=false:=by decide):wpAny (model X.prog X.w) X.A (eval (.Name x pos) X.env) Q E s:=
 Calls.Name_function_global I.ok.kind hg (Calls.loadGlobal_global (by rw[I.ok.glob];exact I.mod.glob.keeps I.bk) hm h) hd
theorem oR(I:Inv X pins σ H s)(hg:Gl X x)(hm:X.mg x=none)(hv:Q3 x=some u)(h:Q u s)(hn:x≠"__name__" := by decide)(hd:(x == ("__debug__" : Str))=false:=by decide):wpAny (model X.prog X.w) X.A (eval (.Name x pos) X.env) Q E s:=by
 obtain⟨mb,h1,h2⟩:=I.mod.blt;exact Calls.Name_function_global I.ok.kind hg (Calls.loadGlobal_builtin (by rw[I.ok.glob];exact I.mod.glob.keeps I.bk) hm (by rw[I.ok.blt];exact h1.keeps I.bk) ((h2 x hn).trans hv) h) hd
theorem Ge(hg:Gl X x)(hm:X.mg x=some u)(r:RelV v u)(hd:(x == ("__debug__" : Str))=false:=by decide):PE X (.Name x pos) (tC v):=
 λ_ _ _ H _ I h=>iE I hg hm ⟨v,H,I,r,h⟩ hd
theorem Gf(hg:Gl X x)(hm:X.mg x=none)(hv:Q3 x=some u)(r:RelV v u)(hn:x≠"__name__" := by decide)(hd:(x == ("__debug__" : Str))=false:=by decide):PE X (.Name x pos) (tC v):=
 λ_ _ _ H _ I h=>oR I hg hm hv ⟨v,H,I,r,h⟩ hn hd
variable{a b:Expr}{tb:TE}{rest:List Expr}
def NL(t u:TT):TT:=λσ H Q=>t σ H λc H1=>if c=true then u σ H1 Q else Q false H1
def tOr(t u:TT):TT:=λσ H Q=>t σ H λc H1=>if c=true then Q true H1 else u σ H1 Q
def NM(t:TT):TT:=λσ H Q=>t σ H λc H1=>Q (!c) H1
theorem Gg(ha:PT X a tA):PW X (.BoolOp .And [a] pos) tA:=by
 intro wh pins s σ H Q I h;refine isTrue_and (thn (ha pins s σ H Q I h) λc s1 e=>?_);cases c with
 |true=>exact isTrue_and_nil e
 |false=>exact e
theorem J6(ha:PT X a tA):PW X (.BoolOp .Or [a] pos) tA:=by
 intro wh pins s σ H Q I h;refine isTrue_or (thn (ha pins s σ H Q I h) λc s1 e=>?_);cases c with
 |false=>exact isTrue_or_nil e
 |true=>exact e
theorem J7(ha:PT X a tA)(hb:PW X (.BoolOp .And (b::rest) pos) pd):PW X (.BoolOp .And (a::b::rest) pos) (NL tA pd):=by
 intro wh pins s σ H Q I h;refine isTrue_and (thn (ha pins s σ H _ I h) λc s1 ⟨H1,I1,q1⟩=>?_);cases c with
 |true=>exact hb wh pins s1 σ H1 Q I1 q1
 |false=>exact⟨H1,I1,q1⟩
theorem Ld(ha:PT X a tA)(hb:PW X (.BoolOp .Or (b::rest) pos) pd):PW X (.BoolOp .Or (a::b::rest) pos) (tOr tA pd):=by
 intro wh pins s σ H Q I h;refine isTrue_or (thn (ha pins s σ H _ I h) λc s1 ⟨H1,I1,q1⟩=>?_);cases c with
 |true=>exact⟨H1,I1,q1⟩
 |false=>exact hb wh pins s1 σ H1 Q I1 q1
theorem J8(ha:PT X a tA):PT X (.UnaryOp .Not a pos) (NM tA):=by
 intro pins s σ H Q I h;exact isTrue_not (ha pins s σ H (λc H1=>Q (!c) H1) I h)
theorem J9{op}{t:TE}(h:PE X a t):PE X (.BoolOp op [a] pos) t:=λpins s σ H Q I hw=>BoolOp_one (h pins s σ H Q I hw)
def tIf(t:TT)(ta tb:TE):TE:=λσ H Q=>t σ H λc H1=>if c=true then ta σ H1 Q else tb σ H1 Q
theorem DE{c:Expr}(hc:PT X c tA)(ha:PE X a ta)(hb:PE X b tb):PE X (.IfExp c a b pos) (tIf tA ta tb):=by
 intro pins s σ H Q I h;refine wpAny_IfExp (thn (hc pins s σ H _ I h) λd s1 ⟨H1,I1,q1⟩=>?_);cases d with
 |true=>exact ha pins s1 σ H1 Q I1 q1
 |false=>exact hb pins s1 σ H1 Q I1 q1
end
def SqL(K:yz)(H:Hp)(a:Addr)(xs:List V):Prop:=
 Rd H a (.lst xs)\/
  ∃(o:Obj)(its:Array Value)(n:Nat),K.lookup a=some o/\o.cls=.type "list" /\ o.dict=none/\o.data=.seq its n/\its.size<=zk/\aJ xs its.toList
def SqT(K:yz)(H:Hp)(a:Addr)(xs:List V):Prop:=
 Rd H a (.tup xs)\/
  ∃(o:Obj)(its:Array Value)(n:Nat),K.lookup a=some o/\o.cls=.type "tuple" /\ o.data=.seq its n/\its.size<=zk/\aJ xs its.toList/\o.dict=none
def NN:Value->Option V
 |.none=>some .non
 |.bool b=>some (.bl b)
 |.int i _=>some (.int i)
 |.str x _=>some (.str x)
 |.bytes b _=>some (.byt b)
 |.float b _=>some (.flt b)
 |.ref a=>some (.ref a)
 |.type n=>some (.ty n)
 |_=>none
theorem RelV.abs{x:V}(r:RelV x u):NN u=some x:=by
 cases x with
 |non=>cases r;rfl
 |bl _=>cases r;rfl
 |int _=>obtain⟨t,rfl⟩:=r;rfl
 |str _=>obtain⟨t,rfl⟩:=r;rfl
 |byt _=>obtain⟨t,rfl⟩:=r;rfl
 |flt _=>obtain⟨t,rfl⟩:=r;rfl
 |ref _=>cases r;rfl
 |ty _=>cases r;rfl
variable{y:V}
theorem RelV.inj{x:V}(r:RelV x u)(q:RelV y u):x=y:=zy (r.abs.symm.trans q.abs)
theorem aJ.inj:∀{xs ys:List V}{us:List Value},aJ xs us->aJ ys us->xs=ys
 |_,_,_,.nil,.nil=>rfl
 |_,_,_,.cons r t,.cons r' t'=>by rw[r.inj r',aJ.inj t t']
variable{K:yz}
theorem SqL.of{xs:List V}(h:H a=some (.lst xs)):SqL K H a xs:=.inl (.inl h)
theorem SqT.of{xs:List V}(h:H a=some (.tup xs)):SqT K H a xs:=.inl (.inl h)
theorem Inv.list{xs:List V}(I:Inv X pins σ H s)(h:SqL X.K H a xs):∃its:List Value,aJ xs its/\PlainL s.heap a its.toArray/\xs.length<=zk:=by
 rcases h with h|⟨o,its,n,hk,hc,hd,hs,hz,r⟩
 ·obtain⟨z,its,n,r,e⟩:=h.ok I.hok;exact⟨its,r,⟨_,n,e,rfl,rfl,rfl⟩,z⟩
 ·refine⟨its.toList,r,⟨o,n,I.kIn a o hk,hc,hd,by simpa using hs⟩,?_⟩
  have e:=r.length;simp only[Array.length_toList]at e;omega
theorem Inv.tuple{xs:List V}(I:Inv X pins σ H s)(h:SqT X.K H a xs):∃its:List Value,aJ xs its/\IsTup s.heap a its.toArray/\xs.length<=zk:=by
 rcases h with h|⟨o,its,n,hk,hc,hs,hz,r,_⟩
 ·obtain⟨z,its,r,p⟩:=h.ok I.hok;exact⟨its,r,p.is,z⟩
 ·refine⟨its.toList,r,⟨o,I.kIn a o hk,hc,n,by simpa using hs⟩,?_⟩
  have e:=r.length;simp only[Array.length_toList]at e;omega
theorem Inv.list_inj{xs:List V}{ys:List V}(I:Inv X pins σ H s)(h:SqL X.K H a xs)(h':SqL X.K H a ys):xs=ys:=by
 obtain⟨its,r,⟨o,n,e,_,_,d⟩,_⟩:=I.list h;obtain⟨its',r',⟨o',n',e',_,_,d'⟩,_⟩:=I.list h';rw[e]at e';cases e';rw[d]at d';injection d' with d1 _;have:its=its':=by simpa using congrArg Array.toList d1
 subst this;exact r.inj r'
theorem Inv.tuple_inj{xs:List V}{ys:List V}(I:Inv X pins σ H s)(h:SqT X.K H a xs)(h':SqT X.K H a ys):xs=ys:=by
 obtain⟨its,r,⟨o,e,_,n,d⟩,_⟩:=I.tuple h;obtain⟨its',r',⟨o',e',_,n',d'⟩,_⟩:=I.tuple h';rw[e]at e';cases e';rw[d]at d';injection d' with d1 _;have:its=its':=by simpa using congrArg Array.toList d1
 subst this;exact r.inj r'
abbrev Cx.wish(X:Cx)(E:Value->Shared->Prop):Cx:={ X with xe:=E }
abbrev Cx.nox(X:Cx):Cx:=X.wish λ_ _=>False
theorem Cx.Ok.wish(ok:X.Ok)(E:Value->Shared->Prop):(X.wish E).Ok:=
 ⟨ok.mod,ok.kind,ok.glob,ok.blt,ok.above,ok.inj,ok.has,ok.cab,ok.hd,ok.frames,ok.stk,ok.exf,ok.bs,ok.bsz,ok.noex,ok.exfs,ok.funs,ok.frf⟩
theorem Cx.Ok.unwish(ok:(X.wish E).Ok):X.Ok:=
 ⟨ok.mod,ok.kind,ok.glob,ok.blt,ok.above,ok.inj,ok.has,ok.cab,ok.hd,ok.frames,ok.stk,ok.exf,ok.bs,ok.bsz,ok.noex,ok.exfs,ok.funs,ok.frf⟩
theorem Inv.wish(I:Inv X pins σ H s)(E:Value->Shared->Prop):Inv (X.wish E) pins σ H s:=⟨I.ok.wish E,I.os,I.bare,I.base,I.loc,I.cell,I.free,I.freeC,I.pin,I.hok,I.len⟩
theorem Inv.unwish(I:Inv (X.wish E) pins σ H s):Inv X pins σ H s:=⟨I.ok.unwish,I.os,I.bare,I.base,I.loc,I.cell,I.free,I.freeC,I.pin,I.hok,I.len⟩
theorem SP.unwish{D:Ends}{f:Flow}(h:SP (X.wish E) pins D f s'):SP X pins D f s':=by
 cases f with
 |next=>obtain⟨σ',H',I,q⟩:=h;exact⟨σ',H',I.unwish,q⟩
 |brk=>obtain⟨σ',H',I,q⟩:=h;exact⟨σ',H',I.unwish,q⟩
 |cont=>obtain⟨σ',H',I,q⟩:=h;exact⟨σ',H',I.unwish,q⟩
 |ret u=>obtain⟨v,σ',H',I,r,q⟩:=h;exact⟨v,σ',H',I.unwish,r,q⟩
theorem PSs.nox{st:List Stmt}{t:TS}(h:PSs X.nox st t):PSs X st t:=λpins s σ H D I hw=>
 Qu (h pins s σ H D (I.wish _) hw) (λ_ _ q=>q.unwish) λ_ _ z=>Qi z
variable{st:Stmt}{te:TE}{tc:TT}
section
variable{rest:List Stmt}{t u:TS}
def Le:TS:=λD σ H=>D.nx σ H
def NO(t u:TS):TS:=λD σ H=>t { D with nx:=u D } σ H
theorem Gh:PSs X [] Le:=λ_ _ σ H _ I h=>wpAny_execs_nil ⟨σ,H,I,h⟩
theorem DF(h1:PS X st t)(h2:PSs X rest u):PSs X (st::rest) (NO t u):=by
 intro pins s σ H D I h;refine wpAny_execs_cons (thn (h1 pins s σ H { D with nx:=u D } I h) λf s1 q=>?_);cases f with
 |next=>
  obtain⟨σ',H',I',q⟩:=q;exact h2 pins s1 σ' H' D I' q
 |ret v=>exact q
 |brk=>exact q
 |cont=>exact q
theorem Gi(h1:PS X st t):PSs X [st] t:=by
 intro pins s σ H D I h;refine wpAny_execs_cons (thn (h1 pins s σ H D I h) λf s1 q=>?_);cases f with
 |next=>exact wpAny_execs_nil q
 |ret v=>exact q
 |brk=>exact q
 |cont=>exact q
def Lf:TS:=λD σ H=>D.ct σ H
theorem zI:PS X (.Continue pos) Lf:=λ_ _ σ H _ I h=>wpAny_Continue ⟨σ,H,I,h⟩
theorem Inv.quiet(I:Inv X pins σ H s):interactive X.env=false:=by simp[interactive,I.ok.kind]
def Lg(te:TE):TS:=λD σ H=>te σ H λ_ H1=>D.nx σ H1
theorem Gj(he:PE X e te)(hs:RS e none pos.line X.env=pure false:=by rfl):PS X (.Expr e pos) (Lg te):=by
 intro pins s σ H D I h;exact wpAny_Expr_any (thn (he pins s σ H _ I h) λv s1 ⟨x,H1,I1,r1,q1⟩=>⟨σ,H1,I1,q1⟩) I.quiet hs
def NP(te:TE):TS:=λD σ H=>te σ H D.rt
theorem J'(he:PE X e te):PS X (.Return (some e) pos) (NP te):=by
 intro pins s σ H D I h;exact wpAny_Return_some (thn (he pins s σ H _ I h) λv s1 ⟨x,H1,I1,r1,q1⟩=>⟨x,σ,H1,I1,r1,q1⟩)
def NQ(c:TT)(t u:TS):TS:=λD σ H=>c σ H λb H1=>if b=true then t D σ H1 else u D σ H1
theorem Lh{c:Expr}{a b:List Stmt}(hc:PT X c tc)(ha:PSs X a t)(hb:PSs X b u):PS X (.If c a b pos) (NQ tc t u):=by
 intro pins s σ H D I h;refine wpAny_If (thn (hc pins s σ H _ I h) λd s1 ⟨H1,I1,q1⟩=>?_);cases d with
 |true=>exact ha pins s1 σ H1 D I1 q1
 |false=>exact hb pins s1 σ H1 D I1 q1
end
abbrev TG:=V->St->Hp->(St->Hp->Prop)->Prop
abbrev TGs:=List V->St->Hp->(St->Hp->Prop)->Prop
def PG(X:Cx)(target:Expr)(t:TG):Prop:=
 ∀(pins:List (Addr×Obj))(s:Shared)(σ:St)(H:Hp)(v:V)(u:Value)(Q:St->Hp->Prop),Inv X pins σ H s->RelV v u->t v σ H Q->
  wpAny (model X.prog X.w) X.A (assign target X.env u) (λ_ s'=>∃σ' H',Inv X pins σ' H' s'/\Q σ' H') X.xe s
def PGs(X:Cx)(ts:List Expr)(t:TGs):Prop:=
 ∀(pins:List (Addr×Obj))(s:Shared)(σ:St)(H:Hp)(vs:List V)(us:List Value)(Q:St->Hp->Prop),Inv X pins σ H s->aJ vs us->t vs σ H Q->
  wpAny (model X.prog X.w) X.A (assignInOrder ((QG ts X.env).map (·.2)) us) (λ_ s'=>∃σ' H',Inv X pins σ' H' s'/\Q σ' H') X.xe s
abbrev NR:=V->V->V->Hp->(Hp->Prop)->Prop
def NS(X:Cx)(t:NR):Prop:=
 ∀(pins:List (Addr×Obj))(s:Shared)(σ:St)(H:Hp)(o i v:V)(ov iv u:Value)(Q:Hp->Prop),Inv X pins σ H s->RelV o ov->RelV i iv->RelV v u->t o i v H Q->
  wpAny (model X.prog X.w) X.A (setItem ov iv u) (λ_ s'=>∃H',Inv X pins σ H' s'/\Q H') X.xe s
def DG(i:Nat):TG:=λv σ H Q=>Q (σ.set i (some v)) H
theorem Gk(hN:X.N.Nodup)(hi:X.N[i]?=some x)(hx:Loc X.env.scope x)(hf:X.fn x=true\/X.env.scope.names.lookup x=some .local:=by first|exact .inl rfl|exact .inr rfl|assumption):PG X (.Name x pos) (DG i):=by
 intro pins s σ H v u Q I r h;exact wpAny_assign_Name (zH I hN hi hx r (λs' I'=>⟨_,H,I',h⟩) hf)
def NT:TGs:=λvs σ H Q=>vs=[]/\Q σ H
def Li(t:TG)(u:TGs):TGs:=λvs σ H Q=>∃v r,vs=v::r/\t v σ H λσ' H'=>u r σ' H' Q
theorem Gm:PGs X [] NT:=by
 intro pins s σ H vs us Q I r h;obtain⟨e,h⟩:=h;subst e;cases r
 exact assignInOrder_nil ⟨σ,H,I,h⟩
variable{es:List Expr}
theorem DH{t:TG}{u:TGs}(h1:PG X e t)(h2:PGs X es u)(hs:(QG (e::es) X.env).map (·.2)=assign e X.env::(QG es X.env).map (·.2):=by rfl):PGs X (e::es) (Li t u):=by
 intro pins s σ H vs us Q I r h;obtain⟨v,vr,e1,h⟩:=h;subst e1;cases r with
 |cons r rr=>
  rw[hs];refine assignInOrder_cons (thn (h1 pins s σ H _ _ _ I r h) λ_ s1 ⟨σ1,H1,I1,q1⟩=>?_);exact h2 pins s1 σ1 H1 _ _ Q I1 rr q1
def Lj(K:yz)(n:Nat)(t:TGs):TG:=λv σ H Q=>∃a xs,v=.ref a/\SqT K H a xs/\xs.length=n/\t xs σ H Q
variable{n:Nat}
theorem Ja{k:Nat}{t:TGs}(hc:X.calm=true)(h:PGs X es t)(hn:(QG es X.env).length=n:=by rfl)(cg:(QG es X.env).findIdx? (·.1)=none:=by rfl):PG X (.Tuple es k pos) (Lj X.K n t):=by
 intro pins s σ H v u Q I r hw;obtain⟨a,xs,e1,hq,hl,hw⟩:=hw;subst e1;cases r
 obtain⟨its,rv,ht,hz⟩:=I.tuple hq;refine assign_Tuple_tuple (I.ok.hd hc) ht (by simp[hn,<-hl,rv.length]) cg λh' hx=>?_;have I1:Inv X pins σ H { s with heap:=h' }:=I.kept (t':=s.toks) λb o e=>hx b o (z7 (zl e)) e;exact h pins _ σ H xs _ Q I1 (by simpa using rv) hw
def Jb(te:TE)(g:TG):TS:=λD σ H=>te σ H λx H1=>g x σ H1 D.nx
variable{tg:Expr}
theorem Jc{g:TG}(he:PE X e te)(hg:PG X tg g)(hs:swapsWithSole [tg] e pos.line X.env=pure false:=by rfl)(hw:swappedStores [tg] e X.env=pure none:=by rfl)(h1:(QG [tg] X.env).map (·.2)=[assign tg X.env]:=by rfl):PS X (.Assign [tg] e pos) (Jb te g):=by
 intro pins s σ H D I h;refine wpAny_Assign_stores (thn (he pins s σ H _ I h) λv s1 hz=>?_) hs hw;obtain⟨x,H1,I1,r1,q1⟩:=hz;rw[h1];exact thn (hg pins s1 σ H1 x v _ I1 r1 q1) λ_ s2 q=>q
variable{pos':Pos}
theorem Jd(hN:X.N.Nodup)(hi:X.N[i]?=some x)(hx:Loc X.env.scope x)(he:PE X e te)(hs:RS e (some (.Name x pos')) pos.line X.env=pure false:=by rfl)(hf:X.fn x=true\/X.env.scope.names.lookup x=some .local:=by first|exact .inl rfl|exact .inr rfl|assumption):
  PS X (.Assign [.Name x pos'] e pos) (Jb te (DG i)):=by
 intro pins s σ H D I h;refine wpAny_Assign_Name (thn (he pins s σ H _ I h) λv s1 hz=>?_) hs;obtain⟨y,H1,I1,r1,q1⟩:=hz;exact zH I1 hN hi hx r1 (λs2 I2=>⟨_,H1,I2,q1⟩) hf
def Je(c:TT)(tb:TS):TS:=λD σ H=>∃W:Nat->St->Hp->Prop,(∃m,W m σ H)/\∀m σ H,W m σ H->
 c σ H λb H1=>if b=true then ∃N:St->Hp->Prop,(∀σ' H',N σ' H'->∃m',m'<m/\W m' σ' H')/\tb { D with nx:=N,ct:=N,bk:=D.nx } σ H1 else D.nx σ H1
variable{body:List Stmt}
theorem DK{c:Expr}{tb:TS}(hp:PassesOwn (model X.prog X.w) X.A X.env X.xe)(hc:PT X c tc)(hb:PSs X body tb):PS X (.While c body [] pos) (Je tc tb):=by
 intro pins s σ H D I h;obtain⟨W,⟨m0,w0⟩,turn⟩:=h;refine wpAny_While (codeAny_whileLoop (λn s'=>∃σ' H',Inv X pins σ' H' s'/\W n σ' H') ?_ m0 ⟨σ,H,I,w0⟩);rintro n s1 ⟨σ1,H1,I1,w1⟩;refine QU hp (thn (hc pins s1 σ1 H1 _ I1 (turn n σ1 H1 w1)) λb s2 ⟨H2,I2,q2⟩=>?_);cases b with
 |true=>
  obtain⟨N,hN,q2⟩:=q2;rw[if_pos rfl];refine QU hp (thn (hb pins s2 σ1 H2 _ I2 q2) λf s3 q3=>?_);cases f with
  |next=>
   obtain⟨σ3,H3,I3,n3⟩:=q3;obtain⟨m',hm,w3⟩:=hN σ3 H3 n3;exact⟨m',hm,σ3,H3,I3,w3⟩
  |cont=>
   obtain⟨σ3,H3,I3,n3⟩:=q3;obtain⟨m',hm,w3⟩:=hN σ3 H3 n3;exact⟨m',hm,σ3,H3,I3,w3⟩
  |brk=>exact q3
  |ret v=>exact q3
 |false=>
  rw[if_neg zi];exact wpAny_execs_nil ⟨σ1,H2,I2,q2⟩
structure It where
 go:Nat->Hp->Prop
 yld:Nat->Hp->V->Hp->Prop
 stop:Nat->Hp->Prop
def zJ(X:Cx)(pins:List (Addr×Obj))(H:Hp)(b:Addr):Prop:=
 H b=none/\b≠X.env.locals/\b∉X.fs/\(b∈X.ex\/X.s₀.heap.objs.size<=b)/\(∀x c,X.env.cells.lookup x=some c->c≠b)/\∀p∈X.pn++pins,p.1≠b
theorem Inv.fpOk{b:Addr}(I:Inv X pins σ H s)(hb:s.heap.objs.size<=b)(hn:H' b=none):zJ X pins H' b:=by
 refine⟨hn,RQ (zr I.lt hb),I.nofs hb,.inr (Ph I.sz hb),λx c e z=>?_,λp hp z=>?_⟩
 ·obtain⟨v,q⟩:=I.cell x c e;exact absurd (zr q.lt (by rw[z];exact hb)) (P3 _)
 ·exact absurd (zr (zl (I.pin p hp).1) (by rw[z];exact hb)) (P3 _)
structure Turn(P:Program)(w:World)(K:yz)(tg:Expr)(J:It)(fp:List Addr)(it:Addr)(tn:Nat->Heap->Prop):Prop where
 mem:it∈fp
 obj:∀i h,tn i h->∀b∈fp,∃o,h.get? b=some o/\∀v,o.data≠.cell v
 keep:∀i h h',tn i h->(∀b∈fp,∀o,h.get? b=some o->h'.get? b=some o)->tn i h'
 item:∀(X:Cx),X.prog=P->X.w=w->X.K=K->X.calm=true->∀(i:Nat)(pins:List (Addr×Obj))(s:Shared)(σ:St)(H:Hp)(E:Value->Shared->Prop),Inv X pins σ H s->(∀b∈fp,zJ X pins H b)->tn i s.heap->J.go i H->
  wpAny (model P w) X.A (pyNext (.ref it)) (λr s1=>∃u,r=some u/\
   wpAny (model P w) X.A (letOwnedTupleGo tg (.ref it) u) (λ_ s2=>∃x H',Inv X pins σ H' s2/\RelV x u/\J.yld i H x H'/\tn (i+1) s2.heap/\∀b∈fp,H' b=none) E s1) E s
 done:∀(X:Cx),X.prog=P->X.w=w->X.K=K->X.calm=true->∀(i:Nat)(pins:List (Addr×Obj))(s:Shared)(σ:St)(H:Hp)(E:Value->Shared->Prop),Inv X pins σ H s->(∀b∈fp,zJ X pins H b)->tn i s.heap->J.stop i H->
  wpAny (model P w) X.A (pyNext (.ref it)) (λr s1=>r=none/\Inv X pins σ H s1) E s
 self:∀(A:Around)(i:Nat)(s:Shared)(Q:Value->Shared->Prop)(E:Value->Shared->Prop),tn i s.heap->Q (.ref it) s->wpAny (model P w) A (pyIter (.ref it)) Q E s
abbrev TI:=St->Hp->(It->Hp->Prop)->Prop
def PIE(X:Cx)(pins:List (Addr×Obj))(σ:St)(tg:Expr)(R:It->Hp->Prop)(qr:Value)(s2:Shared):Prop:=
 ∃(it:Addr)(fp:List Addr)(tn:Nat->Heap->Prop)(J:It)(H':Hp),qr=.ref it/\Inv X pins σ H' s2/\Turn X.prog X.w X.K tg J fp it tn/\tn 0 s2.heap/\(∀b∈fp,zJ X pins H' b)/\R J H'
def PI(X:Cx)(tg iter:Expr)(wi:TI):Prop:=
 ∀(pins:List (Addr×Obj))(s:Shared)(σ:St)(H:Hp)(R:It->Hp->Prop),Inv X pins σ H s->wi σ H R->
  wpAny (model X.prog X.w) X.A (eval iter X.env) (λv s1=>wpAny (model X.prog X.w) X.A (pyIter v) (PIE X pins σ tg R) X.xe s1) X.xe s
theorem zK{o:Obj}{n:String}{vs:Array Value}{Q:Unit->Shared->Prop}(ho:s.heap.get? it=some o)(hc:o.cls=.type n)(hd:o.data=.fields vs)(hn:["enumerate","zip","dict_itemiterator","dict_reverseitemiterator","odict_iterator","itertools.zip_longest","itertools.pairwise"].contains n=false)(hQ:Q () s):wpAny M A (letOwnedTupleGo tg (.ref it) u) Q E s:=by
 unfold letOwnedTupleGo;cases tg <;> first
  |exact yy hQ
  | (cases u <;> first
    |exact yy hQ
    | (refine yw (wpAny_load ho ?_)
       rw[hc,hd]
       show wpAny M A (if(["enumerate","zip","dict_itemiterator","dict_reverseitemiterator","odict_iterator","itertools.zip_longest","itertools.pairwise"].contains n&&vs[0]? == some (rawInt _))=true then _ else _) Q E s
       rw[if_neg (by intro h;rw[hn,Bool.false_and]at h;cases h)];exact yy hQ))
def Itl(K:yz)(a:Addr):It:=
 ⟨λi H=>∃xs x,SqL K H a xs/\xs[i]?=some x,λi H x H'=>H'=H/\∀xs,SqL K H a xs->xs[i]?=some x,λi H=>∃xs,SqL K H a xs/\xs.length<=i⟩
def Itt(K:yz)(a:Addr):It:=
 ⟨λi H=>∃xs x,SqT K H a xs/\xs[i]?=some x,λi H x H'=>H'=H/\∀xs,SqT K H a xs->xs[i]?=some x,λi H=>∃xs,SqT K H a xs/\xs.length<=i⟩
def Itr(lo:Int)(n:Nat):It:=⟨λi _=>i<n,λi H x H'=>H'=H/\x=.int (lo+i),λi _=>n<=i⟩
theorem uP(a it:Addr):Turn P w K tg (Itl K a) [it] it (λi h=>h.IsListIter it a i) where
 mem:=by simp
 obj:=λi h st b hb=>by
  have e:b=it:=by simpa using hb
  subst e;obtain⟨o,e,c,d⟩:=st;exact⟨o,e,λv z=>by rw[d]at z;cases z⟩
 keep:=λi h h' st k=>st.at λo e=>k it (by simp) o e
 item:=by
  intro X hP hw hK hc i pins s σ H E I hf st hg;subst hP hw hK;obtain⟨xs,x,hq,hx⟩:=hg;obtain⟨its,rv,p,hz⟩:=I.list hq;obtain⟨u,hu,ru⟩:=rv.get hx;obtain⟨f0,f1,f2,f3,f4,f5⟩:=hf it (by simp);refine wpAny_pyNext_list_item st p.isList (x:=u) (by simpa using hu) λh' bh sb=>?_
  have I1:Inv X pins σ H { s with heap:=h' }:=I.turned (t':=s.toks) (λb o hb e=>(sb.2 b hb).trans e) f0 f1 f3 f4 f5;obtain⟨o,e,c,d⟩:=id bh;exact⟨u,rfl,zK (s:={ s with heap:=h' }) e c d (by decide) ⟨x,H,I1,ru,⟨rfl,λys hy=>by rw[I.list_inj hy hq];exact hx⟩,bh,λb hb=>(hf b hb).1⟩⟩
 done:=by
  intro X hP hw hK hc i pins s σ H E I hf st hg;subst hP hw hK;obtain⟨xs,hq,hx⟩:=hg;obtain⟨its,rv,p,hz⟩:=I.list hq;obtain⟨f0,f1,f2,f3,f4,f5⟩:=hf it (by simp);have hl:=rv.length;exact wpAny_pyNext_list_end (I.ok.hd hc) st p.isList (by simp;omega) λh' eb=>⟨rfl,I.turned (t':=s.toks) (λb o hb e=>eb b o hb e) f0 f1 f3 f4 f5⟩
 self:=λ_ _ _ _ _ st h=>wpAny_pyIter_listiter st h
theorem AG(a it:Addr):Turn P w K tg (Itt K a) [it] it (λi h=>h.IsTupleIter it a i) where
 mem:=by simp
 obj:=λi h st b hb=>by
  have e:b=it:=by simpa using hb
  subst e;obtain⟨o,e,c,d⟩:=st;exact⟨o,e,λv z=>by rw[d]at z;cases z⟩
 keep:=λi h h' st k=>st.at λo e=>k it (by simp) o e
 item:=by
  intro X hP hw hK hc i pins s σ H E I hf st hg;subst hP hw hK;obtain⟨xs,x,hq,hx⟩:=hg;obtain⟨its,rv,p,hz⟩:=I.tuple hq;obtain⟨u,hu,ru⟩:=rv.get hx;obtain⟨f0,f1,f2,f3,f4,f5⟩:=hf it (by simp);refine wpAny_pyNext_tuple_item st (show s.heap.IsTuple a its.toArray from p) (x:=u) (by simpa using hu) λh' bh sb=>?_
  have I1:Inv X pins σ H { s with heap:=h' }:=I.turned (t':=s.toks) (λb o hb e=>(sb.2 b hb).trans e) f0 f1 f3 f4 f5;obtain⟨o,e,c,d⟩:=id bh;exact⟨u,rfl,zK (s:={ s with heap:=h' }) e c d (by decide) ⟨x,H,I1,ru,⟨rfl,λys hy=>by rw[I.tuple_inj hy hq];exact hx⟩,bh,λb hb=>(hf b hb).1⟩⟩
 done:=by
  intro X hP hw hK hc i pins s σ H E I hf st hg;subst hP hw hK;obtain⟨xs,hq,hx⟩:=hg;obtain⟨its,rv,p,hz⟩:=I.tuple hq;obtain⟨f0,f1,f2,f3,f4,f5⟩:=hf it (by simp);have hl:=rv.length;exact wpAny_pyNext_tuple_end (I.ok.hd hc) st (show s.heap.IsTuple a its.toArray from p) (by simp;omega) λh' eb=>⟨rfl,I.turned (t':=s.toks) (λb o hb e=>eb b o hb e) f0 f1 f3 f4 f5⟩
 self:=λ_ _ _ _ _ st h=>wpAny_pyIter_tupleiter st h
theorem AH(it:Addr)(lo:Int)(n:Nat):Turn P w K tg (Itr lo n) [it] it (λi h=>IsRangeIter h it (lo+(i:Nat)*1) ((n:Int)-(i:Nat)) 1) where
 mem:=by simp
 obj:=λi h st b hb=>by
  have e:b=it:=by simpa using hb
  subst e;exact⟨_,st,λv z=>by
   have z':Data.fields _=Data.cell v:=z;cases z'⟩
 keep:=λi h h' st k=>k it (by simp) _ st
 item:=by
  intro X hP hw hK hc i pins s σ H E I hf st hg;subst hP hw hK;obtain⟨f0,f1,f2,f3,f4,f5⟩:=hf it (by simp);have W:=Walks.range (prog:=X.prog) (w:=X.w) (I.ok.hd hc) it lo 1 n;refine W.item i s _ _ hg st λv h' tk hv bh kk=>?_;obtain⟨t,rfl⟩:=hv;have I1:Inv X pins σ H { s with heap:=h',toks:=tk }:=I.turned (λb o hb e=>kk b o (by simpa using hb) e) f0 f1 f3 f4 f5
  refine⟨_,rfl,zK (s:={ s with heap:=h',toks:=tk }) (n:="range_iterator") bh rfl rfl (by decide) ⟨.int (lo+i),H,I1,⟨t,?_⟩,⟨rfl,rfl⟩,bh,λb hb=>(hf b hb).1⟩⟩;rw[Int.mul_one]
 done:=by
  intro X hP hw hK hc i pins s σ H E I hf st hg;subst hP hw hK;obtain⟨f0,f1,f2,f3,f4,f5⟩:=hf it (by simp);exact wpAny_pyNext_range_end (I.ok.hd hc) st (by have:n<=i:=hg;omega) λh' eb=>⟨rfl,I.turned (t':=s.toks) (λb o hb e=>eb b o hb e) f0 f1 f3 f4 f5⟩
 self:=λ_ _ _ _ _ st h=>wpAny_pyIter_rangeiter st h
variable{R:It->Hp->Prop}{tk:Nat}
theorem DL{lo hi:Int}{t u v:Tok}(I:Inv X pins σ H s)(h1:-(2 ^ 62)<=lo)(h2:lo<2 ^ 62)(h3:-(2 ^ 62)<=hi)(h4:hi<2 ^ 62)(q:R (Itr lo (hi-lo).toNat) H):wpAny (model X.prog X.w) X.A (pyIter (.ref s.heap.objs.size)) (PIE X pins σ tg R) E { s with heap:=s.heap.push { cls:=.type "range",data:=.fields #[.int lo t,.int hi u,.int 1 v] },toks:=tk }:=by
 refine wpAny_pyIter_range (IsRange.new ..) (small_one h1 h2 h3 h4) ?_;have I1:Inv X pins σ H { s with heap:=s.heap.push { cls:=.type "range",data:=.fields #[.int lo t,.int hi u,.int 1 v] },toks:=tk }:=I.kept λb o e=>y0 _ e;refine⟨(s.heap.push { cls:=.type "range",data:=.fields #[.int lo t,.int hi u,.int 1 v] }).objs.size,[(s.heap.push { cls:=.type "range",data:=.fields #[.int lo t,.int hi u,.int 1 v] }).objs.size],_,_,H,rfl,
  I1.kept (t':=tk) λb o e=>y0 _ e,AH _ lo (hi-lo).toNat,?_,λb hb=>?_,q⟩
 ·have e1:lo+((0:Nat):Int)*1=lo:=by simp
  have e2:(((hi-lo).toNat:Nat):Int)-((0:Nat):Int)=Builtin.Range.rangeSize lo hi 1:=by rw[rangeSize_one];split <;> omega
  show IsRangeIter _ _ (lo+((0:Nat):Int)*1) ((((hi-lo).toNat:Nat):Int)-((0:Nat):Int)) 1
  rw[e1,e2];exact zj _ rfl
 ·have e:b=(s.heap.push { cls:=.type "range",data:=.fields #[.int lo t,.int hi u,.int 1 v] }).objs.size:=by simpa using hb
  subst e;exact I1.fpOk (zb _) (I1.hok.fresh (zb _))
def NU(wi:TI)(g:TG)(tb:TS):TS:=λD σ H=>wi σ H λJ H1=>∃W:Nat->Nat->St->Hp->Prop,(∃m,W 0 m σ H1)/\∀i m σ H,W i m σ H->
 (J.stop i H/\D.nx σ H)\/(J.go i H/\∃N:St->Hp->Prop,(∀σ' H',N σ' H'->∃m',m'<m/\W (i+1) m' σ' H')/\∀x H',J.yld i H x H'->g x σ H' λσ2 H2=>tb { D with nx:=N,ct:=N,bk:=D.nx } σ2 H2)
def rO(fp:List Addr)(h:Heap):List (Addr×Obj):=fp.filterMap λb=>(h.get? b).map λo=>(b,o)
theorem iF{fp:List Addr}{h:Heap}{b:Addr}{o:Obj}(hb:b∈fp)(e:h.get? b=some o):(b,o)∈rO fp h:=List.mem_filterMap.mpr ⟨b,hb,by rw[e];rfl⟩
theorem Cu{fp:List Addr}{h:Heap}{p:Addr×Obj}(hp:p∈rO fp h):p.1∈fp/\h.get? p.1=some p.2:=by
 obtain⟨b,hb,e⟩:=List.mem_filterMap.mp hp;cases q:h.get? b with
 |none=>rw[q]at e;cases e
 |some o=>
  rw[q]at e;have e':(b,o)=p:=zy e;subst e';exact⟨hb,q⟩
theorem Inv.pinned{fp:List Addr}(I:Inv X pins σ H s)(hf:∀b∈fp,zJ X pins H b)(ho:∀b∈fp,∃o,s.heap.get? b=some o/\∀v,o.data≠.cell v):Inv X (pins++rO fp s.heap) σ H s:=
 I.pins_of λp hp=>(OZ.mp hp).elim (λz=>I.pin p (zh _ z)) λz=>by
  obtain⟨hb,e⟩:=Cu z;obtain⟨f0,f1,f2,_⟩:=hf p.1 hb;obtain⟨o,e',d⟩:=ho p.1 hb;rw[e]at e';cases e';exact⟨e,f0,f1,f2,d⟩
theorem Inv.unpinned{pl:List (Addr×Obj)}(I:Inv X (pins++pl) σ H s):Inv X pins σ H s:=I.pins_of λp hp=>I.pin p (zh _ (OX _ hp))
variable{iter:Expr}{wi:TI}
theorem Jf{g:TG}{tb:TS}(hp:PassesOwn (model X.prog X.w) X.A X.env X.xe)(hc:X.calm=true)(hi:PI X tg iter wi)(hg:PG X tg g)(hb:PSs X body tb)(hs:∀x,P4 iter X.env x=pure x:=by intro _;rfl):PS X (.For tg iter body [] pos) (NU wi g tb):=by
 intro pins s σ H D I h;refine wpAny_For (thn (hi pins s σ H _ I h) λv s1 h1=>thn h1 λqr s2 h2=>?_) hs;obtain⟨it,fp,tn,J,H2,e,I2,T,n6,f2,W,⟨m0,w0⟩,turn⟩:=h2;subst e
 -- what stays true of the iterator's objects through the loop
 have jj:∀{H':Hp},(∀b∈fp,H' b=none)->∀b∈fp,zJ X pins H' b:=λhn b hb=>⟨hn b hb,(f2 b hb).2⟩;refine codeAny_forLoop_any (λn s'=>∃i σ' H',Inv X pins σ' H' s'/\tn i s'.heap/\(∀b∈fp,H' b=none)/\W i n σ' H') ?_ m0 ⟨0,σ,H2,I2,n6,λb hb=>(f2 b hb).1,w0⟩;rintro n s3 ⟨i,σ3,H3,I3,ng,ki,w3⟩;rcases turn i n σ3 H3 w3 with⟨stop,qn⟩|⟨go,N,hN,step⟩
 ·refine QU hp (thn (T.done X rfl rfl rfl hc i pins s3 σ3 H3 X.xe I3 (jj ki) ng stop) λr s4 ⟨hr,I4⟩=>?_);subst hr;exact wpAny_execs_nil ⟨σ3,H3,I4,qn⟩
 ·refine QU hp (thn (T.item X rfl rfl rfl hc i pins s3 σ3 H3 X.xe I3 (jj ki) ng go) λr s4 ⟨u,hr,h4⟩=>?_);subst hr;refine QU hp (thn h4 λ_ s5 hz=>?_);obtain⟨x,H5,I5,r5,y5,j6,f7⟩:=hz;have xr:=I5.pinned (jj f7) (T.obj _ _ j6);refine QU hp (thn (hg _ s5 σ3 H5 x u _ xr r5 (step x H5 y5)) λ_ s6 ⟨σ6,H6,I6,q6⟩=>?_);refine QU hp (thn (hb _ s6 σ6 H6 _ I6 q6) λf s7 q7=>?_);have again:∀{σ7:St}{H7:Hp},Inv X (pins++rO fp s5.heap) σ7 H7 s7->N σ7 H7->∃m,m<n/\∃i σ' H',Inv X pins σ' H' s7/\tn i s7.heap/\(∀b∈fp,H' b=none)/\W i m σ' H':=λ{σ7 H7} I7 n7=>by
   obtain⟨m',hm,w7⟩:=hN σ7 H7 n7;refine⟨m',hm,i+1,σ7,H7,I7.unpinned,T.keep _ _ _ j6 λb hb o e=>(I7.pin (b,o) (zh _ (zh _ (iF hb e)))).1,λb hb=>?_,w7⟩;obtain⟨o,e,d⟩:=T.obj _ _ j6 b hb;exact(I7.pin (b,o) (zh _ (zh _ (iF hb e)))).2.1
  cases f with
  |next=>obtain⟨σ7,H7,I7,n7⟩:=q7;exact again I7 n7
  |cont=>obtain⟨σ7,H7,I7,n7⟩:=q7;exact again I7 n7
  |brk=>obtain⟨σ7,H7,I7,q7⟩:=q7;exact⟨σ7,H7,I7.unpinned,q7⟩
  |ret v=>obtain⟨x7,σ7,H7,I7,r7,q7⟩:=q7;exact⟨x7,σ7,H7,I7.unpinned,r7,q7⟩
abbrev R2:=V->V->Hp->VK->Prop
def OpR(X:Cx)(f:Value->Value->Sem Value)(r:R2):Prop:=
 ∀(pins:List (Addr×Obj))(s:Shared)(σ:St)(H:Hp)(x y:V)(v u:Value)(Q:VK),Inv X pins σ H s->RelV x v->RelV y u->r x y H Q->
  wpAny (model X.prog X.w) X.A (f v u) (EP X pins σ Q) X.xe s
def UnR(X:Cx)(f:Value->Sem Value)(r:V->Hp->VK->Prop):Prop:=
 ∀(pins:List (Addr×Obj))(s:Shared)(σ:St)(H:Hp)(x:V)(v:Value)(Q:VK),Inv X pins σ H s->RelV x v->r x H Q->
  wpAny (model X.prog X.w) X.A (f v) (EP X pins σ Q) X.xe s
def bT(X:Cx)(f:Value)(r:List V->Hp->VK->Prop):Prop:=
 ∀(pins:List (Addr×Obj))(s:Shared)(σ:St)(H:Hp)(xs:List V)(us:List Value)(Q:VK),Inv X pins σ H s->aJ xs us->r xs H Q->
  wpAny (model X.prog X.w) X.A (call f us) (EP X pins σ Q) X.xe s
def NV(X:Cx)(r:V->Hp->(Bool->Hp->Prop)->Prop):Prop:=
 ∀(pins:List (Addr×Obj))(s:Shared)(σ:St)(H:Hp)(x:V)(v:Value)(Q:Bool->Hp->Prop),Inv X pins σ H s->RelV x v->r x H Q->
  wpAny (model X.prog X.w) X.A (truthy v) (TP X pins σ Q) X.xe s
def tOp(r:R2)(ta tb:TE):TE:=λσ H Q=>ta σ H λx H1=>tb σ H1 λy H2=>r x y H2 Q
def tUn(r:V->Hp->VK->Prop)(ta:TE):TE:=λσ H Q=>ta σ H λx H1=>r x H1 Q
def rI(C:Int->Int->Prop)(g:Int->Int->V):R2:=λx y H Q=>∃i j,x=.int i/\y=.int j/\C i j/\Q (g i j) H
def rI0(g:Int->Int->V):R2:=λx y H Q=>∃i j,x=.int i/\y=.int j/\Q (g i j) H
def rU(g:Int->V):V->Hp->VK->Prop:=λx H Q=>∃i,x=.int i/\Q (g i) H
variable{f:Value->Value->Sem Value}{g:Int->Int->Int}
section
variable{a b c:Expr}{tb tc:TE}
theorem Jg(ha:PE X a ta)(hb:PE X b tb){R:V->V->Hp->Prop}(I:Inv X pins σ H s)(h:ta σ H λx H1=>tb σ H1 λy H2=>R x y H2)(hf:∀v u s2 x y H2,Inv X pins σ H2 s2->RelV x v->RelV y u->R x y H2->wpAny (model X.prog X.w) X.A (f v u) Q X.xe s2):
  wpAny (model X.prog X.w) X.A (eval a X.env) (λv s₁=>wpAny (model X.prog X.w) X.A (eval b X.env) (λu s₂=>wpAny (model X.prog X.w) X.A (f v u) Q X.xe s₂) X.xe s₁) X.xe s:=by
 refine thn (ha pins s σ H _ I h) λv s1 hz=>?_;obtain⟨x,H1,I1,r1,q1⟩:=hz;refine thn (hb pins s1 σ H1 _ I1 q1) λu s2 hz=>?_;obtain⟨y,H2,I2,r2,q2⟩:=hz;exact hf v u s2 x y H2 I2 r1 r2 q2
theorem Lk{op:Operator}{r:R2}(ho:OpR X (PK op) r)(ha:PE X a ta)(hb:PE X b tb):PE X (.BinOp a op b pos) (tOp r ta tb):=by
 intro pins s σ H Q I h;exact wpAny_BinOp (Jg ha hb I h λv u s2 x y H2 I2 rx ry q=>ho pins s2 σ H2 x y v u Q I2 rx ry q)
theorem Ll{op:UnaryOp}{r:V->Hp->VK->Prop}(ho:UnR X (unaryOp op) r)(ha:PE X a ta):PE X (.UnaryOp op a pos) (tUn r ta):=by
 intro pins s σ H Q I h;exact UnaryOp_ (thn (ha pins s σ H _ I h) λv s1 ⟨x,H1,I1,r1,q1⟩=>ho pins s1 σ H1 x v Q I1 r1 q1)
theorem opI{C:Int->Int->Prop}(rule:∀(i j:Int)(t u:Tok)(s:Shared)(Q:Value->Shared->Prop)(E:Value->Shared->Prop),C i j->Q (.int (g i j) s.toks) { s with toks:=s.toks+1 }->wpAny (model X.prog X.w) X.A (f (.int i t) (.int j u)) Q E s):
  OpR X f (rI C λi j=>.int (g i j)):=by
 intro pins s σ H x y v u Q I rx ry h;obtain⟨i,j,rfl,rfl,hc,q⟩:=h;obtain⟨t,rfl⟩:=rx;obtain⟨t',rfl⟩:=ry;exact rule i j t t' s _ _ hc ⟨.int (g i j),H,I.tok _,⟨_,rfl⟩,q⟩
theorem Lm(rule:∀(i j:Int)(t u:Tok)(s:Shared)(Q:Value->Shared->Prop)(E:Value->Shared->Prop),Q (.int (g i j) s.toks) { s with toks:=s.toks+1 }->wpAny (model X.prog X.w) X.A (f (.int i t) (.int j u)) Q E s):
  OpR X f (rI0 λi j=>.int (g i j)):=by
 intro pins s σ H x y v u Q I rx ry h;obtain⟨i,j,rfl,rfl,q⟩:=h;obtain⟨t,rfl⟩:=rx;obtain⟨t',rfl⟩:=ry;exact rule i j t t' s _ _ ⟨.int (g i j),H,I.tok _,⟨_,rfl⟩,q⟩
theorem Ln{g:Int->Int->Bool}(rule:∀(i j:Int)(t u:Tok)(s:Shared)(Q:Value->Shared->Prop)(E:Value->Shared->Prop),Q (.bool (g i j)) s->wpAny (model X.prog X.w) X.A (f (.int i t) (.int j u)) Q E s):
  OpR X f (rI0 λi j=>.bl (g i j)):=by
 intro pins s σ H x y v u Q I rx ry h;obtain⟨i,j,rfl,rfl,q⟩:=h;obtain⟨t,rfl⟩:=rx;obtain⟨t',rfl⟩:=ry;exact rule i j t t' s _ _ ⟨.bl (g i j),H,I,rfl,q⟩
def DM(i j:Int):Prop:=0<j/\j<1073741824
def Cv(i j:Int):Prop:=0<=j/\j<=1000000/\i.natAbs<2 ^ 64
def zL(i j:Int):Prop:=(-(2 ^ 64)<i/\i<2 ^ 64)\/(-(2 ^ 64)<j/\j<2 ^ 64)
theorem zL.ok{i j:Int}(h:zL i j):IntMulOk i j:=by
 rcases h with⟨h1,h2⟩|⟨h1,h2⟩
 ·exact .of_left (intBits_le_64 h1 h2)
 ·exact .of_right (intBits_le_64 h1 h2)
theorem Jh:OpR X (PK .Add) (rI0 λi j=>.int (i+j)):=Lm λ_ _ _ _ _ _ _ q=>add_int q
theorem Ji:OpR X (PK .Sub) (rI0 λi j=>.int (i-j)):=Lm λ_ _ _ _ _ _ _ q=>sub_int q
theorem Jj:OpR X (PK .Mult) (rI zL λi j=>.int (i*j)):=opI λ_ _ _ _ _ _ _ hc q=>mul_int q hc.ok
theorem Gn:OpR X (PK .FloorDiv) (rI DM λi j=>.int (i/j)):=opI λi j _ _ _ _ _ hc q=>by
 have h1:(0:Int)<j:=hc.1;have h2:j<1073741824:=hc.2;exact floordiv_int (by omega) (by rw[Int.fdiv_eq_ediv_of_nonneg i (by omega)];exact q) (.inl (PyProof.noPylong_small (by omega)))
theorem Jk:OpR X (PK .Mod) (rI (λ_ j=>0<j) λi j=>.int (i%j)):=opI λi j _ _ _ _ _ hc q=>by
 have h1:(0:Int)<j:=hc;exact mod_int' (by omega) (by rw[Int.fmod_eq_emod_of_nonneg i (by omega)];exact q)
theorem Jl:OpR X (PK .Pow) (rI Cv λi j=>.int (i ^ j.toNat)):=opI λ_ _ _ _ _ _ _ hc q=>pow_int_small hc.1 hc.2.1 hc.2.2 q
theorem unI{f:Value->Sem Value}{g:Int->Int}
  (rule:∀(i:Int)(t:Tok)(s:Shared)(Q:Value->Shared->Prop)(E:Value->Shared->Prop),Q (.int (g i) s.toks) { s with toks:=s.toks+1 }->wpAny (model X.prog X.w) X.A (f (.int i t)) Q E s):
  UnR X f (rU λi=>.int (g i)):=by
 intro pins s σ H x v Q I rx h;obtain⟨i,rfl,q⟩:=h;obtain⟨t,rfl⟩:=rx;exact rule i t s _ _ ⟨.int (g i),H,I.tok _,⟨_,rfl⟩,q⟩
theorem Jm:UnR X (unaryOp .USub) (rU λi=>.int (-i)):=unI λ_ _ _ _ _ q=>neg_int q
end
theorem Gp{i j:Int}:decide (V.int i=V.int j)=(i == j):=by
 rw[P8];simp
theorem Gq{i j:Str}:decide (V.str i=V.str j)=(i == j):=by
 rw[P8];simp
variable{op:CmpOp}{its:List Value}
section
variable{a b c:Expr}{tb tc:TE}
theorem rP{Q:VK}{k k':Bool}(I:Inv X pins σ H s)(q:Q (.bl k) H)(e:k=k'):EP X pins σ Q (.bool k') s:=by
 subst e;exact⟨.bl k,H,I,rfl,q⟩
theorem Lo:OpR X (z8 .Lt) (rI0 λi j=>.bl (decide (i<j))):=Ln λ_ _ _ _ _ _ _ q=>lt_int q
theorem Lp:OpR X (z8 .Gt) (rI0 λi j=>.bl (decide (j<i))):=Ln λ_ _ _ _ _ _ _ q=>gt_int q
theorem Cw:OpR X (z8 .Lt) (λx y H Q=>∃i j,x=.str i/\y=.str j/\Q (.bl (decide (i.cps.toList<j.cps.toList))) H):=by
 intro pins s σ H x y v u Q I rx ry h;obtain⟨i,j,rfl,rfl,q⟩:=h;obtain⟨t,rfl⟩:=rx;obtain⟨t',rfl⟩:=ry;exact lt_str (rP I q rfl)
theorem Gr:OpR X (z8 .IsNot) (λx y H Q=>y=.non/\Q (.bl (!decide (x=.non))) H):=by
 intro pins s σ H x y v u Q I rx ry h;obtain⟨rfl,q⟩:=h;cases ry
 refine isnot_none_gen (rP I q ?_);cases x <;> first
  |(cases rx;rfl)
  |(obtain⟨t,rfl⟩:=rx;rfl)
theorem OpR.or{r r':R2}(h:OpR X f r)(h':OpR X f r'):OpR X f (λx y H Q=>r x y H Q\/r' x y H Q):=by
 intro pins s σ H x y v u Q I rx ry q;rcases q with q|q
 ·exact h pins s σ H x y v u Q I rx ry q
 ·exact h' pins s σ H x y v u Q I rx ry q
theorem DN(b:Expr)(h:op≠.In:=by decide)(h2:op≠.NotIn:=by decide):behindInMarks op b=false:=by
 have e1:(op == CmpOp.In)=false:=by cases op <;> first|rfl|exact absurd rfl h
 have e2:(op == CmpOp.NotIn)=false:=by cases op <;> first|rfl|exact absurd rfl h2
 cases b <;> simp[behindInMarks,e1,e2]
theorem Gu{r:R2}(ho:OpR X (z8 op) r)(ha:PE X a ta)(hb:PE X b tb)(hm:behindInMarks op b=false):PE X (.Compare a [op] [b] pos) (tOp r ta tb):=by
 intro pins s σ H Q I h;exact wpAny_Compare1 (Jg ha hb I h λv u s2 x y H2 I2 rx ry q=>ho pins s2 σ H2 x y v u Q I2 rx ry q) hm
def Gv(K:yz)(x:V)(H:Hp)(k:Bool):Prop:=
 match x with
 |.non=>k=false
 |.bl b=>k=b
 |.int i=>k=(i != 0)
 |.str y=>y.length<=zk/\k=((y.length:Int) != 0)
 |.byt y=>y.size<=zk/\k=((y.size:Int) != 0)
 |.ref p=>(∃xs,SqL K H p xs/\k=!xs.isEmpty)\/(∃xs,SqT K H p xs/\k=!xs.isEmpty)\/∃kvs,H p=some (.dK kvs)/\k=!kvs.isEmpty
 |_=>False
theorem AI{κ:Type}{kvs:List (κ×V)}{vs:List (κ×Value)}(r:KV kvs vs):(!vs.isEmpty)=!kvs.isEmpty:=by
 cases r <;> rfl
theorem rQ{xs:List V}(r:aJ xs its):(!its.toArray.isEmpty)=!xs.isEmpty:=by
 cases r <;> simp
theorem kX:(zk:Nat)<2 ^ 63:=by rw[Pj];decide
theorem DO:NV X (λx H Q=>∃k,Gv X.K x H k/\Q k H):=by
 intro pins s σ H x v Q I rx h;obtain⟨k,e,q⟩:=h;have hl:=kX;have hs:zk=16777216:=Pj;cases x with
 |non=>
  cases rx
  have e':k=false:=e;subst e';exact truthy_none ⟨H,I,q⟩
 |bl b=>
  cases rx
  have e':k=b:=e;subst e';exact Qz ⟨H,I,q⟩
 |int i=>
  obtain⟨t,rfl⟩:=rx;have e':k=(i != 0):=e;subst e';exact PySem.P.truthy_int ⟨H,I,q⟩
 |str y=>
  obtain⟨t,rfl⟩:=rx;obtain⟨hy,e'⟩:y.length<=zk/\k=((y.length:Int) != 0):=e;subst e';exact PySem.P.truthy_str (by omega) ⟨H,I.tok _,q⟩
 |byt y=>
  obtain⟨t,rfl⟩:=rx;obtain⟨hy,e'⟩:y.size<=zk/\k=((y.size:Int) != 0):=e;subst e';exact PySem.W.truthy_bytes (by omega) ⟨H,I.tok _,q⟩
 |ref p=>
  cases rx
  have e':(∃xs,SqL X.K H p xs/\k=!xs.isEmpty)\/(∃xs,SqT X.K H p xs/\k=!xs.isEmpty)\/∃kvs,H p=some (.dK kvs)/\k=!kvs.isEmpty:=e;rcases e' with⟨xs,hx,e'⟩|⟨xs,hx,e'⟩|⟨kvs,hx,e'⟩
  ·subst e';obtain⟨its,r,pl,hz⟩:=I.list hx;have hlen:=r.length;exact wpAny_truthy_list pl.isList (by simp only[ze];omega) ⟨H,I.tok _,by rw[rQ r];exact q⟩
  ·subst e';obtain⟨its,r,pl,hz⟩:=I.tuple hx;have hlen:=r.length;exact truthy_tuple pl (by simp only[ze];omega) ⟨H,I.tok _,by rw[rQ r];exact q⟩
  ·subst e';obtain⟨hz,hS,vs,r,m⟩:kvs.length<=zk/\(p == PR)=false/\∃vs,KV kvs vs/\s.heap.DictOf (bF X.prog X.w) p vs:=I.hok p _ hx;have hlen:kvs.length=vs.length:=Pw r;exact wpAny_truthy_dict hS m (by omega) ⟨H,I.tok _,by rw[AI r];exact q⟩
 |_=>exact(show False from e).elim
theorem DP(ha:PE X a ta)(he:∀whole,isTrue a X.env whole=(do let v <-whole;standAt a.pos;holding [v] (truthy v))):
  PT X a (λσ H Q=>ta σ H λx H'=>∃k,Gv X.K x H' k/\Q k H'):=by
 intro pins s σ H Q I h
 exact isTrue_plain (thn (ha pins s σ H _ I h) λv s1 ⟨x,H1,I1,r1,q1⟩=>DO pins s1 σ H1 x v Q I1 r1 q1) (he _)
theorem AJ:OpR X (PK .Add) (λx y H Q=>∃i j,x=.str i/\y=.str j/\i.length+j.length<=zk/\Q (.str (i++j)) H):=by
 intro pins s σ H x y v u Q I rx ry h;obtain⟨i,j,rfl,rfl,hz,q⟩:=h;obtain⟨t,rfl⟩:=rx;obtain⟨t',rfl⟩:=ry;exact add_str (λt' tk=>⟨.str (i++j),H,I.tok _,⟨_,rfl⟩,q⟩) hz
theorem vals1{x:V}(r:aJ [x] us):∃u,us=[u]/\RelV x u:=by
 cases r with
 |cons r1 r2=>cases r2;exact⟨_,rfl,r1⟩
theorem vals2{x:V}(r:aJ [x,y] us):∃u w',us=[u,w']/\RelV x u/\RelV y w':=by
 cases r with
 |cons r1 r2=>
  cases r2 with
  |cons r3 r4=>cases r4;exact⟨_,_,rfl,r1,r3⟩
theorem Cy(hc:X.calm=true):bT X (.builtin "max") (λxs H Q=>∃i j,xs=[.int i,.int j]/\Q (.int (if j>i then j else i)) H):=by
 intro pins s σ H xs us Q I r h;obtain⟨i,j,rfl,q⟩:=h;obtain⟨u,w',rfl,⟨t,rfl⟩,⟨t',rfl⟩⟩:=vals2 r;refine max_two_ints (I.ok.hd hc) λh' tk k=>⟨_,H,I.kept k,?_,q⟩
 by_cases hj:j>i
 ·rw[if_pos hj,if_pos hj];exact⟨_,rfl⟩
 ·rw[if_neg hj,if_neg hj];exact⟨_,rfl⟩
def NW(K:yz)(x:V)(H:Hp)(n:Nat):Prop:=
 match x with
 |.str y=>y.length<=zk/\n=y.length
 |.byt y=>y.size<=zk/\n=y.size
 |.ref p=>(∃xs,SqL K H p xs/\n=xs.length)\/∃xs,SqT K H p xs/\n=xs.length
 |_=>False
theorem DQ:bT X (.builtin "len") (λxs H Q=>∃x n,xs=[x]/\NW X.K x H n/\Q (.int n) H):=by
 intro pins s σ H xs us Q I r h;obtain⟨x,n,rfl,e,q⟩:=h;obtain⟨u,rfl,rx⟩:=vals1 r;have hl:=kX;have hs:zk=16777216:=Pj;cases x with
 |str y=>
  obtain⟨t,rfl⟩:=rx;obtain⟨hy,e'⟩:y.length<=zk/\n=y.length:=e;subst e';exact len_str (by omega) ⟨.int _,H,I.tok _,⟨_,rfl⟩,q⟩
 |byt y=>
  obtain⟨t,rfl⟩:=rx;obtain⟨hy,e'⟩:y.size<=zk/\n=y.size:=e;subst e';exact PySem.W.len_bytes (by omega) ⟨.int _,H,I.tok _,⟨_,rfl⟩,q⟩
 |ref p=>
  cases rx
  have e':(∃xs,SqL X.K H p xs/\n=xs.length)\/∃xs,SqT X.K H p xs/\n=xs.length:=e;rcases e' with⟨xs,hx,e'⟩|⟨xs,hx,e'⟩
  ·subst e';obtain⟨its,r',pl,hz⟩:=I.list hx;have hlen:=r'.length;exact Calls.call_len_list pl.isList (by simp only[ze];omega) ⟨.int xs.length,H,I.tok _,⟨_,by simp only[ze];rw[hlen]⟩,q⟩
  ·subst e';obtain⟨its,r',pl,hz⟩:=I.tuple hx;have hlen:=r'.length;exact len_tuple pl (by simp only[ze];omega) ⟨.int xs.length,H,I.tok _,⟨_,by simp only[ze];rw[hlen]⟩,q⟩
 |_=>exact(show False from e).elim
end
structure AK(h:Heap)(x dx C:Addr)(mA:Str->Option Value):Prop where
 obj:h.get? x=some (QB C dx)
 ns:h.Ns1 dx mA
 ne:dx≠x
variable{dx:Addr}{mA:Str->Option Value}
set_option tactic.hygienic true in
theorem Cz{h:Heap}(n:h.Ns1 dx mA):∃od,h.get? dx=some od/\∀name,PySem.W.lookIn name od=some (mA name):=by
 obtain⟨o,es,ep,ho,hd,hk,_,hm⟩:=n;refine⟨o,ho,λname=>?_⟩;have e:=hm name;unfold nsFind findBy at e;rw[<-Array.find?_toList]at e;unfold PySem.W.lookIn;rw[hd];dsimp only;split
 ·rename_i y q;rw[q]at e;exact congrArg some e
 ·rename_i q;rw[q]at e;have a:es.toList.any (·.refKey)=false:=by
   rw[List.any_eq_false];intro y hy;obtain⟨z,t,ee⟩:=hk y (Array.mem_toList_iff.mp hy);simp[DictEntry.refKey,ee]
  have a':¬ es.toList.any (·.refKey)=true:=by rw[a];exact zi
  rw[if_neg a'];exact congrArg some e
theorem AK.look{h:Heap}{x C:Addr}(I:AK h x dx C mA):∃od,PySem.W.InstAt h x (QB C dx) C (some od)/\∀name,PySem.W.lookIn name od=some (mA name):=
 let ⟨od,ho,hl⟩:=Cz I.ns
 ⟨od,⟨I.obj,rfl,rfl,ho⟩,hl⟩
variable{expr:Bool}{name:Str}{prog:Program}{kw:List (Str×Value)}
section
variable{x C f:Addr}{v:Value}
theorem get_map(X:K.In s.heap)(I:AK s.heap x dx C mA)(hg:RI K C name=true)(hh:PySem.W.hasDictIn K C=true)(ha:Pv K (.ref C) name=some none)(hv:mA name=some v)(n5:PySem.W.handedIn v=true)(h:Q v { s with toks:=s.toks+1 }):
  wpAny (model prog w) A (getAttr (.ref x) name expr) Q E s:=by
 obtain⟨od,J,hl⟩:=I.look;exact PySem.W.get_value X J (PySem.W.plainGet_of hg).1 (PySem.W.findObj_own hh ha rfl (by rw[hl,hv])) n5 h
theorem DR{pl:Sem Bool}{Q:Value×List Value->Shared->Prop}(X:K.In s.heap)(I:AK s.heap x dx C mA)(hg:RI K C name=true)
  (hf:Pv K (.ref C) name=some (some (.ref f))) (ht:PySem.W.isFn K (.ref f)=true) (hv:mA name=none) (h:Q (.ref f,[.ref x]) s):
  wpAny (model prog w) A (getMethod (.ref x) name pl) Q E s:=by
 obtain⟨od,J,hl⟩:=I.look;exact PySem.W.method_fn X J (PySem.W.plainGet_of hg).1 (PySem.W.plainGet_of hg).2 hf (beq_iff_eq.mp ht) (by show(PySem.W.lookIn name od).map (·.isSome)=some false;rw[hl,hv];rfl) h
theorem Gw{ns:List Str}{Q:Unit->Shared->Prop}(X:K.In s.heap)(I:AK s.heap x dx C mA)
  (hs:Pv K (.ref C) "__setattr__" = some (some (.builtin "object.__setattr__"))) (hp:PySem.W.plainOver K C=true) (ht:PySem.W.takerIn K C name=some none) (hh:PySem.W.hasDictIn K C=true)
  (hw:PySem.Within mA ns) (hsz:ns.length<=zk)
  (h:∀h',AK h' x dx C (λy=>if y=name then some v else mA y)->QI dx s.heap h'->Q () { s with heap:=h',toks:=s.toks+2 }):
  wpAny (model prog w) A (setAttr (.ref x) name v) Q E s:=by
 obtain⟨od,J,hl⟩:=I.look;refine PySem.W.set_plain X J hs (PySem.W.osa_open (s:={ s with toks:=s.toks+1 }) (r:=none) X J hp ht λb=>?_);obtain⟨cd,hc,gi⟩:=PySem.W.any_some hh;have hx:s.heap.get? x=some ⟨.ref C,some dx,.plain,#[]⟩:=I.obj;refine yw (yy (yw (yw (wpAny_loadPart hx (yw (PySem.W.Looks.here (s:={ s with toks:=s.toks+1 }) (PySem.W.looks_clsIn X hc) ?_))))));rw[gi];refine yy (a:=some dx) (yw (yy (yw ?_)));refine wpAny_nsSet1 (s:={ s with toks:=s.toks+1 }) I.ns λh' oa sr=>?_;obtain⟨oD,esD,epD,xi,xb,xk⟩:=oa.count (PySem.Within.cons name v hw);refine yw (wpAny_lookBehind xi (by rw[xb];exact pastItsLine_dict (Ph xk (by rw[Pt];omega))) ?_);exact yy (h _ ⟨(sr.2 _ (PY I.ne)).trans I.obj,oa,I.ne⟩ sr)
theorem DS{R:Result->Shared->Prop}{vs:List Value}(X:K.In s.heap)(hm:PySem.W.makesIn K C=true)(hi:Pv K (.ref C) "__init__" = some (some (.ref f)))(hf:PySem.W.typeIn K (.ref f)=some (.type "function"))(h:codeAny (model prog w) (A.under (.builtin "type.__call__" ⟨.ref C::vs,kw⟩)) (.call (.ref f) ⟨.ref (s.heap.objs.size+1)::vs,kw⟩) (PySem.W.InitBack (s.heap.objs.size+1) R)
   { s with heap:=(s.heap.push P5).push (QB C s.heap.objs.size) }):
  codeAny (model prog w) A (.call (.ref C) ⟨vs,kw⟩) R s:=by
 obtain⟨hh,g,d,t,os⟩:=s;exact PySem.W.make_core (PySem.W.makes_of X hm) (PySem.W.looks_findIn X hi) (λself=>PySem.W.bind_fn X self hf) (.inl rfl) h
end
def gY(f:Str)(v:V):List (Str×V)->List (Str×V)
 |[]=>[(f,v)]
 |(g,x)::r=>if g=f then(g,v)::r else(g,x)::gY f v r
theorem qC(f g:Str)(v:V):∀fs:List (Str×V),(gY f v fs).lookup g=if g=f then some v else fs.lookup g
 |[]=>by
  show RU g [(f,v)]=_
  by_cases h:g=f
  ·have hb:(g == f)=true:=beq_iff_eq.mpr h;simp only[RU,hb,if_pos h]
  ·have hb:(g == f)=false:=beq_eq_false_iff_ne.mpr h;simp only[RU,hb,if_neg h]
 |(k,x)::r=>by
  have ih:=qC f g v r;rw[show gY f v ((k,x)::r)=(if k=f then(k,v)::r else(k,x)::gY f v r) from rfl]
  by_cases hk:k=f
  ·rw[if_pos hk]
   by_cases h:g=k
   ·have hb:(g == k)=true:=beq_iff_eq.mpr h;simp only[RU,hb,if_pos (h.trans hk)]
   ·have hb:(g == k)=false:=beq_eq_false_iff_ne.mpr h;simp only[RU,hb,if_neg (λe:g=f=>h (e.trans hk.symm))]
  ·rw[if_neg hk]
   by_cases h:g=k
   ·have hb:(g == k)=true:=beq_iff_eq.mpr h;simp only[RU,hb,if_neg (λe:g=f=>hk (h.symm.trans e))]
   ·have hb:(g == k)=false:=beq_eq_false_iff_ne.mpr h;simp only[RU,hb];exact ih
theorem oS(f:Str)(v:V):∀fs:List (Str×V),f∈(gY f v fs).map (·.1)/\∀g,g∈fs.map (·.1)->g∈(gY f v fs).map (·.1)
 |[]=>⟨by simp[gY],λg h=>by simp at h⟩
 |(k,x)::r=>by
  obtain⟨i1,i2⟩:=oS f v r;rw[show gY f v ((k,x)::r)=(if k=f then(k,v)::r else(k,x)::gY f v r) from rfl]
  by_cases hk:k=f
  ·rw[if_pos hk];subst hk;exact⟨by simp,λg h=>by simpa using h⟩
  ·rw[if_neg hk];refine⟨?_,λg h=>?_⟩
   ·rw[zt];exact zc _ i1
   ·rw[zt]at h⊢;rcases zq.mp h with e|e
    ·exact zq.mpr (.inl e)
    ·exact zc _ (i2 g e)
theorem qD(f:Str)(v:V):∀fs:List (Str×V),(gY f v fs).length<=fs.length+1
 |[]=>by simp[gY]
 |(k,x)::r=>by
  have ih:=qD f v r;rw[show gY f v ((k,x)::r)=(if k=f then(k,v)::r else(k,x)::gY f v r) from rfl]
  by_cases hk:k=f
  ·rw[if_pos hk,Pt,Pt];omega
  ·rw[if_neg hk,Pt,Pt];omega
theorem jF.some_of{o:Option Value}(r:jF (some v) o):∃u,o=some u/\RelV v u:=by
 cases o with
 |none=>exact(show False from r).elim
 |some u=>exact⟨u,rfl,r⟩
theorem jF.none_of{o:Option Value}(r:jF none o):o=none:=by
 cases o with
 |none=>rfl
 |some u=>exact(show False from r).elim
theorem CA(r:RelV v u):PySem.W.handedIn u=true:=by
 cases v with
 |non=>cases(show u=zm from r);rfl
 |bl b=>cases(show u=Value.bool b from r);rfl
 |int i=>obtain⟨t,e⟩:=(show ∃t,u=Value.int i t from r);cases e;rfl
 |str x=>obtain⟨t,e⟩:=(show ∃t,u=Value.str x t from r);cases e;rfl
 |byt b=>obtain⟨t,e⟩:=(show ∃t,u=Value.bytes b t from r);cases e;rfl
 |flt b=>obtain⟨t,e⟩:=(show ∃t,u=Value.float b t from r);cases e;rfl
 |ref a=>cases(show u=Pf a from r);rfl
 |ty n=>cases(show u=Value.type n from r);rfl
section
variable{h:Heap}{C:Addr}{fs t9:List (Str×V)}
theorem qX(hok:HOk P w H h)(e:H a=some (.ins C dx fs)):∃mA,AK h a dx C mA/\(∀f,jF (fs.lookup f) (mA f))/\PySem.Within mA (fs.map (·.1))/\fs.length<=1000/\H dx=some (.own a):=by
 obtain⟨d,z,ne,ob,mA,n,r,q⟩:=(show bH P w H h a (.ins C dx fs) from hok a _ e)
 exact⟨mA,⟨ob,n,ne⟩,r,q,z,d⟩
end
structure Cls(K:yz)(C:Addr):Prop where
 pg:RI K C Str.empty=true
 hd:PySem.W.hasDictIn K C=true
 po:PySem.W.plainOver K C=true
 sa:Pv K (.ref C) "__setattr__" = some (some (.builtin "object.__setattr__"))
theorem Cls.get{C:Addr}(c:Cls K C)(f:Str):RI K C f=true:=c.pg
def iG(K:yz)(C:Addr)(f:Str):Prop:=Pv K (.ref C) f=some none
theorem iG.taker{C:Addr}{f:Str}(n:iG K C f):PySem.W.takerIn K C f=some none:=by
 unfold PySem.W.takerIn;rw[show Pv K (.ref C) f=some none from n]
 rfl
structure CB(K:yz)(C:Addr)(m:Str)(f:Addr):Prop where
 at_:Pv K (.ref C) m=some (some (.ref f))
 fn:PySem.W.isFn K (.ref f)=true
 kp:Qo K (.ref f)=true
variable{b:Bool}{env:Env}
section
variable{C:Addr}{fs:List (Str×V)}{f:Str}
theorem AL(I:Inv X pins σ H s)(e:H a=some (.ins C dx fs))(c:Cls X.K C)(n:iG X.K C f)(l:fs.lookup f=some v)(h:∀u s',Inv X pins σ H s'->RelV v u->Q u s'):wpAny (model X.prog X.w) A (getAttr (.ref a) f b) Q E s:=by
 obtain⟨mA,O,r,_,_,_⟩:=qX I.hok e;obtain⟨u,hu,ru⟩:=jF.some_of (v:=v) (o:=mA f) (by rw[<-l];exact r f);exact get_map I.kIn O (c.get f) c.hd n hu (CA ru) (h u _ (I.tok _) ru)
theorem AM{m:Str}{g:Addr}{pl:Sem Bool}{Q:Value×List Value->Shared->Prop}(I:Inv X pins σ H s)(e:H a=some (.ins C dx fs))(c:Cls X.K C)(k:CB X.K C m g)(l:fs.lookup m=none)
  (h:Q (.ref g,[.ref a]) s):wpAny (model X.prog X.w) A (getMethod (.ref a) m pl) Q E s:=by
 obtain⟨mA,O,r,_,_,_⟩:=qX I.hok e;have hn:mA m=none:=jF.none_of (by rw[<-l];exact r m);exact DR I.kIn O (c.get m) k.at_ k.fn hn h
theorem AN{Q:Unit->Shared->Prop}(I:Inv X pins σ H s)(e:H a=some (.ins C dx fs))(c:Cls X.K C)(n:iG X.K C f)(hl:fs.length<1000)(ry:RelV y u)(h:∀s',Inv X pins σ (upd H a (.ins C dx (gY f y fs))) s'->Q () s'):wpAny (model X.prog X.w) A (setAttr (.ref a) f u) Q E s:=by
 obtain⟨mA,O,r,wi,_,ho⟩:=qX I.hok e;have hz:(fs.map (·.1)).length<=zk:=by rw[za,Pj];omega
 refine Gw I.kIn O c.sa c.po n.taker c.hd wi hz λh' O' sb=>h _ ?_;have hd:∃o,h'.get? dx=some o:=let ⟨o,_,_,e',_⟩:=O'.ns;⟨o,e'⟩;refine I.write (x:=a) (e:=dx) (by rw[e];exact Qj) (.inr ho) (λb q hb z=>(sb.2 b hb).trans z) hd ?_;refine⟨by rw[aH O.ne];exact ho,?_,O.ne,O'.obj,_,O'.ns,λg=>?_,λg hg=>?_⟩
 ·have:=qD f y fs;omega
 ·show jF ((gY f y fs).lookup g) (if g=f then some u else mA g)
  rw[qC]
  by_cases q:g=f
  ·rw[if_pos q,if_pos q];exact ry
  ·rw[if_neg q,if_neg q];exact r g
 ·by_cases q:g=f
  ·rw[q];exact(oS f y fs).1
  ·refine(oS f y fs).2 g (wi g λz=>hg ?_)
   show(if g=f then some u else mA g)=none
   rw[if_neg q];exact z
theorem Inv.made(I:Inv X pins σ H s):Inv X pins σ (upd (upd H s.heap.objs.size (.own (s.heap.objs.size+1))) (s.heap.objs.size+1) (.ins C s.heap.objs.size []))
  { s with heap:=(s.heap.push P5).push (QB C s.heap.objs.size) }:=by
 have e1:(s.heap.push P5).get? s.heap.objs.size=some P5:=zj s.heap rfl;have e2:((s.heap.push P5).push (QB C s.heap.objs.size)).get? (s.heap.objs.size+1)=some (QB C s.heap.objs.size):=by
  have:=zj (s.heap.push P5) (o:=QB C s.heap.objs.size) rfl
  rwa[RB]at this
 have e3:(s.heap.push P5).Ns s.heap.objs.size (λ_=>none):=⟨P5,#[],_,e1,rfl,(λe he=>absurd he (by simp)),λ_=>rfl⟩;have I1:=I.laid (a:=s.heap.objs.size) (o:=.own (s.heap.objs.size+1)) (h':=s.heap.push P5) (t':=s.toks) (λb u q=>y0 _ q) (zb _) ⟨_,e1⟩;refine I1.laid (a:=s.heap.objs.size+1) (o:=.ins C s.heap.objs.size []) (t':=s.toks) (λb u q=>y0 _ q) (Nat.le_of_eq (RB _ _)) ?_;have ne:s.heap.objs.size≠s.heap.objs.size+1:=z7 (RJ _);refine⟨by rw[aH ne,aL],zz _,ne,e2,λ_=>none,(Heap.Ns1.of_empty e3).at λo q=>y0 _ q,λ_=>Qj,λy hy=>absurd rfl hy⟩
theorem Gx{f:Str}(hb:QJ e f env (eval e env)=eval e env)(h:wpAny (model prog w) A (eval e env) (λo s₁=>wpAny (model prog w) A (getAttr o f true) Q E s₁) E s):wpAny (model prog w) A (eval (.Attribute e f pos) env) Q E s:=
 Attribute_any_ h (by rw[arm_eval_Attribute,hb])
end
def NX(K:yz)(ta:TE)(f:Str):TE:=λσ H Q=>ta σ H λx H1=>∃a C dx fs v,x=.ref a/\H1 a=some (.ins C dx fs)/\Cls K C/\iG K C f/\fs.lookup f=some v/\Q v H1
def NY(K:yz)(ta tv:TE)(f:Str):TS:=λD σ H=>tv σ H λy H1=>ta σ H1 λx H2=>∃a C dx fs,x=.ref a/\H2 a=some (.ins C dx fs)/\Cls K C/\iG K C f/\fs.length<1000/\
 D.nx σ (upd H2 a (.ins C dx (gY f y fs)))
variable{value:Expr}
section
variable{o:Expr}{f:Str}{m7:Pos}{tv:TE}
theorem Jn(he:PE X e ta)(hb:QJ e f X.env (eval e X.env)=eval e X.env):PE X (.Attribute e f pos) (NX X.K ta f):=by
 intro pins s σ H Q I h;refine Gx hb (thn (he pins s σ H _ I h) λu s1 hz=>?_);obtain⟨x,H1,I1,rx,a,C,dx,fs,v,ex,ea,c,n,l,q⟩:=hz;subst ex;obtain rfl:u=Pf a:=rx;exact AL I1 ea c n l λu' s2 I2 ru=>⟨v,H1,I2,ru,q⟩
theorem Jo(ha:PE X o ta)(hv:PE X value tv)(hs:RS value (some (.Attribute o f pos')) pos.line X.env=pure false):PS X (.Assign [.Attribute o f pos'] value pos) (NY X.K ta tv f):=by
 intro pins s σ H D I h;refine plainObj_wpAny_Assign_Attribute (thn (hv pins s σ H _ I h) λu s1 ⟨y,H1,I1,ry,q⟩=>thn (ha pins s1 σ H1 _ I1 q) λov s2 hz=>?_) hs;obtain⟨x,H2,I2,rx,a,C,dx,fs,ex,ea,c,n,l,q2⟩:=hz;subst ex;obtain rfl:ov=Pf a:=rx;exact AN I2 ea c n l ry λs3 I3=>⟨σ,_,I3,q2⟩
end
inductive oT(K:yz)(H:Hp):V->Value->Prop where
 |non:oT K H .non (.type "NoneType")
 |bl (x:Bool):oT K H (.bl x) (.type "bool")
 |int (i:Int):oT K H (.int i) (.type "int")
 |str (x:Str):oT K H (.str x) (.type "str")
 |flt (x:UInt64):oT K H (.flt x) (.type "float")
 |lst {a:Addr} {xs:List V} (e:H a=some (.lst xs)):oT K H (.ref a) (.type "list")
 |frz {a:Addr} {o:Obj} {xs:List V} (e:H a=some (.frz o (.lst xs))):oT K H (.ref a) (.type "list")
 |tup {a:Addr} {xs:List V} (e:H a=some (.tup xs)):oT K H (.ref a) (.type "tuple")
 |dK {a:Addr} {kvs:List (Key×V)} (e:H a=some (.dK kvs)):oT K H (.ref a) (.type "dict")
 |dT {a:Addr} {kvs:List (List Key×V)} (e:H a=some (.dT kvs)):oT K H (.ref a) (.type "dict")
 | ins {a C dx:Addr} {fs:List (Str×V)} (e:H a=some (.ins C dx fs)) (cl:Cls K C) (ha:Pv K (.ref C) "__class__" = some (some (.builtin "object.__class__")))
   (hn:PySem.W.specialIn K (.builtin "object.__class__") "__get__" = some (some (.builtin "getset_descriptor.__get__"))) (htk:PySem.W.takesIn K (.builtin "object.__class__")=some true)
   (hm:PySem.W.mroIn K C (.type "object")=some true):oT K H (.ref a) (.ref C)
theorem CC{c:Value}{x:V}{t:Value}(I:Inv X pins σ H s)(rx:RelV x u)(ty:oT X.K H x t)(e:PySem.W.kitOne X.K t c=some b)(h:∀tk,Q (.bool b) { s with toks:=tk }):
  wpAny (model X.prog X.w) A (call (.builtin "isinstance") [u,c]) Q E s:=by
 cases ty with
 |non=>cases(show u=zm from rx);exact Py PySem.W.kitx_none I.kIn Qj e (λz=>nomatch z) h
 |bl y=>cases(show u=Value.bool y from rx);exact Py PySem.W.kitx_bool I.kIn Qj e (λz=>nomatch z) h
 |int i=>obtain⟨t,q⟩:=(show ∃t,u=Value.int i t from rx);cases q;exact Py PySem.W.kitx_int I.kIn Qj e (λz=>nomatch z) h
 |str y=>obtain⟨t,q⟩:=(show ∃t,u=Value.str y t from rx);cases q;exact Py PySem.W.kitx_str I.kIn Qj e (λz=>nomatch z) h
 |flt y=>obtain⟨t,q⟩:=(show ∃t,u=Value.float y t from rx);cases q;exact Py PySem.W.kitx_float I.kIn Qj e (λz=>nomatch z) h
 | @lst a xs ea=>
  cases(show u=Pf a from rx)
  obtain⟨_,_,n,_,h1⟩:=(show bH X.prog X.w H s.heap a (.lst xs) from I.hok a _ ea)
  exact Py PySem.W.kitx_list I.kIn ⟨_,h1,rfl⟩ e (λz=>nomatch z) h
 | @frz a ob xs ea=>
  cases(show u=Pf a from rx)
  obtain⟨_,_,_,n,_,h1⟩:=(show bH X.prog X.w H s.heap a (.frz ob (.lst xs)) from I.hok a _ ea)
  exact Py PySem.W.kitx_list I.kIn ⟨_,h1,rfl⟩ e (λz=>nomatch z) h
 | @tup a xs ea=>
  cases(show u=Pf a from rx)
  obtain⟨_,_,_,p⟩:=(show bH X.prog X.w H s.heap a (.tup xs) from I.hok a _ ea)
  obtain⟨o,h1,h2,_⟩:=p;exact Py PySem.W.kitx_tuple I.kIn ⟨o,h1,h2⟩ e (λz=>nomatch z) h
 | @dK a kvs ea=>
  cases(show u=Pf a from rx)
  obtain⟨_,_,vs,_,p⟩:=(show bH X.prog X.w H s.heap a (.dK kvs) from I.hok a _ ea)
  obtain⟨o,es,ep,h1,h2,_⟩:=p;exact Py PySem.W.kitx_dict I.kIn ⟨o,h1,h2.1⟩ e (λz=>nomatch z) h
 | @dT a kvs ea=>
  cases(show u=Pf a from rx)
  obtain⟨_,_,xs,_,o,es,ep,h1,h2,_⟩:=(show bH X.prog X.w H s.heap a (.dT kvs) from I.hok a _ ea)
  exact Py PySem.W.kitx_dict I.kIn ⟨o,h1,h2.1⟩ e (λz=>nomatch z) h
 | @ins a C dx fs ea cl ha hn htk hm=>
  cases(show u=Pf a from rx)
  obtain⟨mA,O,_⟩:=qX I.hok ea;obtain⟨od,J,_⟩:=O.look;exact Py (PySem.W.kitx_own (cl.get _) cl.hd ha hn htk hm) I.kIn J e (λz=>nomatch z) h
structure dZ(k:Nat)(A:Around):Prop where
 hd:A.handled=none
 dp:A.depth+3*k+5<recursionLimit
 un:A.units+16*k+200<cLine
theorem dZ.mono{k:Nat}(r:dZ k A)(h:j<=k):dZ j A:=⟨r.hd,by have:=r.dp;omega,by have:=r.un;omega⟩
theorem dZ.deeper{k:Nat}(r:dZ (k+1) A)(env:Env):dZ k (A.deeper env):=
 ⟨r.hd,by have:=r.dp;show A.depth+1+3*k+5<_;omega,by have:=r.un;show A.units+3+16*k+200<_;omega⟩
theorem dZ.in1{k:Nat}(r:dZ (k+1) A):dZ k A.in1:=
 ⟨r.hd,by have:=r.dp;show A.depth+3*k+5<_;omega,by have:=r.un;show A.units+1+16*k+200<_;omega⟩
theorem AO{C:Addr}:(A.under (.builtin "type.__call__" ⟨.ref C::us,kw⟩)).depth=A.depth+1:=by
 first|rfl|simp[Around.under,Code.weight,Code.isCreation,Code.isGuard,Code.isCaller,Code.frames,Code.isFrame,guardIds]
theorem AQ{C:Addr}:(A.under (.builtin "type.__call__" ⟨.ref C::us,kw⟩)).units=A.units+1:=by
 first|rfl|simp[Around.under,Code.cUnits,Code.frames,Code.isFrame]
theorem dZ.make{k:Nat}{A:Around}(r:dZ (k+1) A)(C:Addr)(us:List Value)(kw:List (Str×Value)):dZ k (A.under (.builtin "type.__call__" ⟨.ref C::us,kw⟩)):=
 ⟨r.hd,by have:=r.dp;rw[AO];omega,by have:=r.un;rw[AQ];omega⟩
theorem dZ.depth{k:Nat}(r:dZ k A):A.depth<recursionLimit:=by have:=r.dp;omega
theorem dZ.units{k:Nat}(r:dZ k A):A.units+64<cLine:=by have:=r.un;omega
def Gy:TA:=λ_ H Q=>Q [] H
def IA(ta:TE)(tr:TA):TA:=λσ H Q=>ta σ H λx H1=>tr σ H1 λxs H2=>Q (x::xs) H2
section
variable{t:TA}
theorem AR:PA X [] Gy:=λ_ _ _ _ H Q I h=>Calls.spliced_nil ⟨[],H,I,.nil,h⟩
theorem wQ(ha:PE X e te)(hr:PA X es t)(hs:zx (e::es) X.env=(false,eval e X.env)::zx es X.env:=by rfl):PA X (e::es) (IA te t):=by
 intro pos pins s σ H Q I h;rw[hs]
 show wpAny _ _ (spliced ((false,eval e X.env)::backTo pos (zx es X.env))) _ _ s
 refine Calls.spliced_cons (thn (ha pins s σ H _ I h) λu s1 hz=>?_);obtain⟨x,H1,I1,r1,q1⟩:=hz;exact thn (hr pos pins s1 σ H1 _ I1 q1) λus s2 ⟨xs,H2,I2,r2,q2⟩=>⟨x::xs,H2,I2,.cons r1 r2,q2⟩
def NZ(t:TA):TE:=λσ H Q=>t σ H λxs H1=>xs.length<=zk/\∀p,H1 p=none->Q (.ref p) (upd H1 p (.tup xs))
def O0(t:TA):TE:=λσ H Q=>t σ H λxs H1=>xs.length<=zk/\∀p,H1 p=none->Q (.ref p) (upd H1 p (.lst xs))
theorem Jp{x1}(h:PA X es t):PE X (.Tuple es x1 pos) (NZ t):=by
 intro pins s σ H Q I hq;refine wpAny_Tuple_spliced (thn (h pos pins s σ H _ I hq) λus s1 ⟨xs,H1,I1,r,z,q⟩=>⟨by rw[<-r.length];exact z,?_⟩);have hf:H1 s1.heap.objs.size=none:=I1.hok.fresh (zb _);refine⟨.ref s1.heap.objs.size,upd H1 s1.heap.objs.size (.tup xs),I1.laid (t':=s1.toks) (λb u e=>y0 _ e) (zb _) ?_,rfl,q _ hf⟩;exact⟨z,us,r,⟨_,zj _ rfl,rfl,⟨_,rfl⟩,rfl⟩⟩
theorem Jq(h:PA X es t):PE X (.List es pos) (O0 t):=by
 intro pins s σ H Q I hq;refine wpAny_List_spliced (thn (h pos pins s σ H _ I hq) λus s1 ⟨xs,H1,I1,r,z,q⟩=>⟨by rw[<-r.length];exact z,?_⟩);have hf:H1 s1.heap.objs.size=none:=I1.hok.fresh (zb _);refine⟨.ref s1.heap.objs.size,upd H1 s1.heap.objs.size (.lst xs),I1.laid (t':=s1.toks) (λb u e=>y0 _ e) (zb _) ?_,rfl,q _ hf⟩;exact⟨z,us,0,r,zj _ rfl⟩
end
abbrev Sp:=List V->Hp->VK->XK->Prop
abbrev CXT:=List Env->Hp->Shared->XK->Value->Shared->Prop
structure uJ(P:Program)(w:World)(K:yz)(mg:Str->Option Value)(base:Heap)(A:Around)(outer:List Env)(s:Shared)(H:Hp):Prop where
 frames:A.frames=some outer
 mod:Mod K mg base
 bs:∀b o,base.get? b=some o->s.heap.get? b=some o/\H b=none
 bsz:base.objs.size<=s.heap.objs.size
 funs:s.heap.FunFrames base outer
 frf:∀b∈frs outer,H b=none
 hok:HOk P w H s.heap
 bare:AllBare s.gens
def CE(outer:List Env)(P:Program)(w:World)(H:Hp)(s:Shared)(Q:VK)(u:Value)(s':Shared):Prop:=
 ∃v H',s'.os=s.os/\AllBare s'.gens/\Un (frs outer) [] H H' s.heap s'.heap/\HOk P w H' s'.heap/\RelV v u/\Q v H'
def CR(CX:CXT)(outer:List Env)(P:Program)(w:World)(H:Hp)(s:Shared)(Q:VK)(E:XK)(r:Result)(s':Shared):Prop:=
 match r with
 |.ok (.ret u)=>CE outer P w H s Q u s'
 |.ok _=>False
 |.error e=>CX outer H s E e s'
structure cD(P:Program)(w:World)(K:yz)(mg:Str->Option Value)(base:Heap)(CX:CXT)(k:Nat)(f:Addr)(fd:Qe)(ps:List Str)(sp:Sp):Prop where
 len:∀vs H Q E,sp vs H Q E->vs.length=ps.length
 run:∀(A:Around)(outer:List Env)(s:Shared)(H:Hp)(args:Args)(us:List Value)(vs:List V)(Q:VK)(E:XK),dZ k A->uJ P w K mg base A outer s H->BindsTo s fd args (ps.zip us)->aJ vs us->sp vs H Q E->
  codeAny (model P w) A (.call (.ref f) args) (CR CX outer P w H s Q E) s
variable{CX:CXT}{base:Heap}{fd:Qe}{mg:Str->Option Value}{ps:List Str}{sp:Sp}
theorem cD.imp{k:Nat}{f:Addr}{t7:Sp}(F:cD P w K mg base CX k f fd ps sp)(h:∀vs H Q E,t7 vs H Q E->sp vs H Q E):cD P w K mg base CX k f fd ps t7:=
 ⟨λvs H Q E q=>F.len vs H Q E (h _ _ _ _ q),λA outer s H args us vs Q E hr he hb hv hs=>F.run A outer s H args us vs Q E hr he hb hv (h _ _ _ _ hs)⟩
theorem uJ.make{P:Program}{w:World}{K:yz}{mg:Str->Option Value}{base:Heap}{A:Around}{outer:List Env}{s:Shared}{H:Hp}(e:uJ P w K mg base A outer s H)(C:Addr)(us:List Value)(kw:List (Str×Value)):
  uJ P w K mg base (A.under (.builtin "type.__call__" ⟨.ref C::us,kw⟩)) outer s H:=⟨by first|exact e.frames|(simpa[Around.under,Code.envs,Code.isFrame,pushEnvs] using e.frames),e.mod,e.bs,e.bsz,e.funs,e.frf,e.hok,e.bare⟩
variable{outer:List Env}
theorem uJ.in1(e:uJ P w K mg base A outer s H):
  uJ P w K mg base A.in1 outer s H:=⟨e.frames,e.mod,e.bs,e.bsz,e.funs,e.frf,e.hok,e.bare⟩
theorem Inv.env0(I:Inv X pins σ H s):uJ X.prog X.w X.K X.mg X.base X.A X.stack s H:=
 ⟨I.ok.frames,I.ok.mod,I.bs,Ph I.ok.bsz I.sz,I.stack,I.stkFree,I.hok,I.bare⟩
theorem Inv.after{Q:VK}(I:Inv X pins σ H s)(h:CE X.stack X.prog X.w H s Q u s'):EP X pins σ Q u s':=by
 obtain⟨v,H',os,bare,un,hok,r,q⟩:=h;obtain⟨hh,g,d,t,cp⟩:=s';obtain rfl:cp=s.os:=os;exact⟨v,H',I.call (h':=hh) (g':=g) (d':=d) (t':=t) (ch:=[]) un hok bare (λb z=>absurd z (by simp)),r,q⟩
def DT(sp:Sp)(bz:List V)(E:XK)(t:TA):TE:=λσ H Q=>t σ H λvs H1=>sp (vs++bz) H1 Q E
def IB(C:Addr)(sp:Sp)(bz:List V)(E:XK)(t:TA):TE:=λσ H Q=>t σ H λvs H1=>∀x dx,H1 x=none->H1 dx=none->dx≠x->
 sp (.ref x::(vs++bz)) (upd (upd H1 dx (.own x)) x (.ins C dx [])) (λv H2=>v=.non/\Q (.ref x) H2) E
def Binds(K:yz)(fd:Qe)(ps:List Str)(ds:List Value):Prop:=
 ∀(s:Shared)(us:List Value),K.In s.heap->(us++ds).length=ps.length->BindsTo s fd ⟨us,[]⟩ (ps.zip (us++ds))
theorem Binds.all(h:∀us:List Value,us.length=ps.length->bindArgs fd ⟨us,[]⟩=pure (ps.zip us)):Binds K fd ps []:=λs us _ hl=>by
 rw[Rk]at hl⊢;exact .of_eq (h us hl)
def kY(CX:CXT)(X:Cx)(E:XK):Prop:=∀(pins:List (Addr×Obj))(σ:St)(H:Hp)(s:Shared)(e:Value)(s':Shared),Inv X pins σ H s->CX X.stack H s E e s'->X.xe e s'
variable{bz vs:List V}
section
variable{k:Nat}{f C:Addr}{ds:List Value}{E:XK}{m:Str}{p:Pos}{o:Expr}{t:TA}
theorem AS{Q:VK}(F:cD X.prog X.w X.K X.mg X.base CX k f fd ps sp)(hr:dZ k X.A)(hb:Binds X.K fd ps ds)(hd:aJ bz ds)(hx:kY CX X E)(I:Inv X pins σ H s)(r:aJ vs us)(h:sp (vs++bz) H Q E):wpAny (model X.prog X.w) X.A (call (.ref f) us) (EP X pins σ Q) X.xe s:=by
 have r2:aJ (vs++bz) (us++ds):=r.append hd;have hl:(us++ds).length=ps.length:=by rw[<-r2.length];exact F.len _ _ _ _ h
 refine wpAny_call (codeAny_mono (F.run X.A X.stack s H ⟨us,[]⟩ (us++ds) (vs++bz) Q E hr I.env0 (hb s us I.kIn hl) r2 h) λr s' hq=>?_);cases r with
 |error e=>exact hx pins σ H s e s' I hq
 |ok fl=>
  cases fl with
  |ret u=>exact I.after hq
  |next=>exact Qi hq
  |brk=>exact Qi hq
  |cont=>exact Qi hq
theorem Gz(F:cD X.prog X.w X.K X.mg X.base CX k f fd ps sp)(hr:dZ k X.A)(hg:Gl X x)(hm:X.mg x=some (.ref f))(hk:Qo X.K (.ref f)=true)(hb:Binds X.K fd ps ds)(hd:aJ bz ds)(hx:kY CX X E)
  (ha:PA X (e::es) t) (bf:(x == ("__debug__" : Str))=false:=by decide) (he:zx (e::es) X.env=(false,eval e X.env)::zx es X.env:=by rfl) (ay:(backTo pos (zx es X.env)).any (·.1)=false:=by rfl):
  PE X (.Call (.Name x p) (e::es) [] pos) (DT sp bz E t):=by
 intro pins s σ H Q I h;refine P9 (iE I hg hm ?_ bf);refine PySem.W.callWith_K (h₀:=X.base) I.ok.mod.kin hk (thn (ha pos pins s σ H _ I h) λus s1 ⟨vs,H1,I1,r,q⟩=>⟨I1.kIn,?_⟩) he ay;exact AS F hr hb hd hx I1 r q
theorem DU(F:cD X.prog X.w X.K X.mg X.base CX k f fd ps sp)(hr:dZ k X.A)(hg:Gl X x)(hm:X.mg x=some (.ref f))(hk:Qo X.K (.ref f)=true)(hb:Binds X.K fd ps ds)(hd:aJ bz ds)(hx:kY CX X E)
  (bf:(x == ("__debug__" : Str))=false:=by decide):PE X (.Call (.Name x p) [] [] pos) (DT sp bz E Gy):=by
 intro pins s σ H Q I h;refine P9 (iE I hg hm ?_ bf);exact PySem.W.callWith_K0 I.kIn hk (AS (us:=[]) F hr hb hd hx I .nil h)
structure Mk(K:yz)(C f:Addr):Prop where
 makes:PySem.W.makesIn K C=true
 init:Pv K (.ref C) "__init__" = some (some (.ref f))
 fn:PySem.W.isFn K (.ref f)=true
 kp:Qo K (.ref C)=true
theorem zM{Q:VK}(M:Mk X.K C f)(F:cD X.prog X.w X.K X.mg X.base CX k f fd ps sp)(hr:dZ (k+1) X.A)(hb:Binds X.K fd ps ds)(hd:aJ bz ds)(hx:kY CX X E)(I:Inv X pins σ H s)(r:aJ vs us)(h:∀x dx,H x=none->H dx=none->dx≠x->sp (.ref x::(vs++bz)) (upd (upd H dx (.own x)) x (.ins C dx [])) (λv H2=>v=.non/\Q (.ref x) H2) E):
  wpAny (model X.prog X.w) X.A (call (.ref C) us) (EP X pins σ Q) X.xe s:=by
 have hq:=h (s.heap.objs.size+1) s.heap.objs.size (I.hok.fresh (Qv _)) (I.hok.fresh (zb _)) (z7 (RJ _));have I2:=Inv.made (C:=C) I;have r2:aJ (V.ref (s.heap.objs.size+1)::(vs++bz)) (Pf (s.heap.objs.size+1)::(us++ds)):=.cons rfl (r.append hd);have hl:(Pf (s.heap.objs.size+1)::us++ds).length=ps.length:=by
  have e:=r2.length;rw[F.len _ _ _ _ hq]at e;exact e.symm
 refine wpAny_call (DS (f:=f) I.kIn M.makes M.init (beq_iff_eq.mp M.fn) (codeAny_mono (F.run _ X.stack _ _ ⟨Pf (s.heap.objs.size+1)::us,[]⟩ (Pf (s.heap.objs.size+1)::(us++ds)) _ _ E (hr.make C us [])
  (I2.env0.make C us []) (hb _ (Pf (s.heap.objs.size+1)::us) I2.kIn hl) r2 hq) λr s' j8=>?_))
 cases r with
 |error e=>exact hx pins σ _ _ e s' I2 j8
 |ok fl=>
  cases fl with
  |ret u=>
   obtain⟨v,H',I3,rv,ev,q3⟩:=I2.after j8;subst ev;exact⟨rv,⟨V.ref (s.heap.objs.size+1),H',I3,rfl,q3⟩⟩
  |next=>exact Qi j8
  |brk=>exact Qi j8
  |cont=>exact Qi j8
theorem GA(M:Mk X.K C f)(F:cD X.prog X.w X.K X.mg X.base CX k f fd ps sp)(hr:dZ (k+1) X.A)(hg:Gl X x)(hm:X.mg x=some (.ref C))(hb:Binds X.K fd ps ds)(hd:aJ bz ds)(hx:kY CX X E)
  (ha:PA X (e::es) t) (bf:(x == ("__debug__" : Str))=false:=by decide) (he:zx (e::es) X.env=(false,eval e X.env)::zx es X.env:=by rfl) (ay:(backTo pos (zx es X.env)).any (·.1)=false:=by rfl):
  PE X (.Call (.Name x p) (e::es) [] pos) (IB C sp bz E t):=by
 intro pins s σ H Q I h;refine P9 (iE I hg hm ?_ bf);refine PySem.W.callWith_K (h₀:=X.base) I.ok.mod.kin M.kp (thn (ha pos pins s σ H _ I h) λus s1 ⟨vs,H1,I1,r,q⟩=>⟨I1.kIn,?_⟩) he ay;exact zM M F hr hb hd hx I1 r q
theorem DV(M:Mk X.K C f)(F:cD X.prog X.w X.K X.mg X.base CX k f fd ps sp)(hr:dZ (k+1) X.A)(hg:Gl X x)(hm:X.mg x=some (.ref C))(hb:Binds X.K fd ps ds)(hd:aJ bz ds)(hx:kY CX X E)
  (bf:(x == ("__debug__" : Str))=false:=by decide):PE X (.Call (.Name x p) [] [] pos) (IB C sp bz E Gy):=by
 intro pins s σ H Q I h;refine P9 (iE I hg hm ?_ bf);exact PySem.W.callWith_K0 I.kIn M.kp (zM (us:=[]) M F hr hb hd hx I .nil h)
end
structure mT(N P:List Str)(sc:Scope):Prop where
 kind:sc.kind=.function
 co:sc.isCoroutine=false
 gen:sc.isGenerator=false
 nd:N.Nodup
 pre:N.take P.length=P
 par:∀x∈P,sc.names.lookup x=some .local\/sc.names.lookup x=some .cell
 nofree:∀y∈sc.names,y.2≠.free
theorem uQ{kindOf:Str->Option Ri}{x:Str}:∀{binds:List (Str×Value)}{m:Str->Option Value},(∀v,(x,v)∉binds)->bindL kindOf binds m x=m x
 |[],_,_=>rfl
 |(n,v)::r,m,h=>by
  unfold bindL;rw[uQ λw hw=>h w (zc _ hw)];split
  ·have:x≠n:=by rintro rfl;exact h v zd
   simp[this]
  ·rfl
theorem uR{kindOf:Str->Option Ri}{x:Str}:∀{binds:List (Str×Value)}{m:Str->Option Value},(∀v,(x,v)∉binds)->bindC kindOf binds m x=m x
 |[],_,_=>rfl
 |(n,v)::r,m,h=>by
  unfold bindC;rw[uR λw hw=>h w (zc _ hw)];split
  ·rfl
  ·have:x≠n:=by rintro rfl;exact h v zd
   simp[this]
theorem uS{kindOf:Str->Option Ri}{x:Str}{v:Value}:∀{P:List Str}{vs:List Value}{i:Nat}{m:Str->Option Value},P.Nodup->P[i]?=some x->vs[i]?=some v->kindOf x=some .local->
  bindL kindOf (P.zip vs) m x=some v
 |[],_,_,_,_,h,_,_=>by simp at h
 |_::_,[],_,_,_,_,h,_=>by simp at h
 |p::P,w::vs,0,m,nd,h1,h2,hk=>by
  simp at h1 h2;subst h1;subst h2
  show bindL kindOf ((p,w)::P.zip vs) m p=_
  unfold bindL;rw[uQ λv hv=>(Qq.mp nd).1 (List.of_mem_zip hv).1,if_pos hk];simp
 |p::P,w::vs,i+1,m,nd,h1,h2,hk=>by
  show bindL kindOf ((p,w)::P.zip vs) m x=_
  unfold bindL;exact uS (i:=i) (Qq.mp nd).2 (by simpa using h1) (by simpa using h2) hk
theorem uT{kindOf:Str->Option Ri}{x:Str}{v:Value}:∀{P:List Str}{vs:List Value}{i:Nat}{m:Str->Option Value},P.Nodup->P[i]?=some x->vs[i]?=some v->kindOf x≠some .local->
  bindC kindOf (P.zip vs) m x=some v
 |[],_,_,_,_,h,_,_=>by simp at h
 |_::_,[],_,_,_,_,h,_=>by simp at h
 |p::P,w::vs,0,m,nd,h1,h2,hk=>by
  simp at h1 h2;subst h1;subst h2
  show bindC kindOf ((p,w)::P.zip vs) m p=_
  unfold bindC;rw[uR λv hv=>(Qq.mp nd).1 (List.of_mem_zip hv).1,if_neg hk];simp
 |p::P,w::vs,i+1,m,nd,h1,h2,hk=>by
  show bindC kindOf ((p,w)::P.zip vs) m x=_
  unfold bindC;exact uT (i:=i) (Qq.mp nd).2 (by simpa using h1) (by simpa using h2) hk
def start(N:List Str)(vs:List V):St:=vs.map some++Re (N.length-vs.length) none
def uK(CX:CXT)(P:Program)(w:World)(K:yz)(mg:Str->Option Value)(base:Heap)(N:List Str)(qual:Str)(scope:Scope)(f:Addr)(cd:Value)(A:Around)(outer:List Env)(s:Shared)(H:Hp)(E:XK):Cx where
 prog:=P
 w:=w
 K:=K
 mg:=mg
 base:=base
 A:=A.deeper (envOfC qual scope s.heap.objs.size f cd)
 N:=N
 s₀:=s
 H₀:=H
 env:=envOfC qual scope s.heap.objs.size f cd
 outer:=outer
 stack:=envOfC qual scope s.heap.objs.size f cd::outer
 ex:=[]
 calm:=true
 fn:=λ_=>true
 pn:=[]
 xe:=λe s'=>wpAny (model P w) (A.deeper (envOfC qual scope s.heap.objs.size f cd)) (leaving (envOfC qual scope s.heap.objs.size f cd) e) (λ_ cq=>CX outer H s E e cq) (λe' cq=>CX outer H s E e' cq) s'
variable{sc:Scope}
theorem zN(h:sc.names.lookup x=some .cell):∃c,(Pz n sc.names []).lookup x=some c:=by
 have q:=PySem.W.cellsFrom_some sc.names n [] (.inl h);exact QV.mp q
variable{cd:Value}{qual:Str}{s1:Shared}{scope:Scope}
theorem CD{f:Addr}{E:XK}(S:mT N ps scope)(hd:A.handled=none)(e0:uJ P w K mg base A outer s H)(hl:vs.length=ps.length)(r:aJ vs us)(x:InCallC s s.heap.objs.size (bindL (envOfC qual scope s.heap.objs.size f cd).kindOf (ps.zip us) λ_=>none) (Pz (s.heap.objs.size+1) scope.names []) (bindC (envOfC qual scope s.heap.objs.size f cd).kindOf (ps.zip us) λ_=>none) s1):
  Inv (uK CX P w K mg base N qual scope f cd A outer s H E) [] (start N vs) H s1:=by
 have ay:ps.length<=N.length:=by have:=congrArg List.length S.pre;rw[Q8]at this;omega
 obtain⟨h1,tk,rfl,hk⟩:=x.done;have kz:∀b:Addr,b∉(uK CX P w K mg base N qual scope f cd A outer s H E).ex:=λb z=>absurd (show b∈([]:List Addr) from z) (by simp)
 refine⟨⟨e0.mod,S.kind,rfl,rfl,zb _,λy z c h1 h2=>?_,λy hy=>?_,λy c _ h=>?_,λ_=>hd,Around.frames_deeper e0.frames,.inr ⟨rfl,rfl⟩,λb z=>absurd z (kz b),e0.bs,e0.bsz,λb _ _=>kz b,λb z=>absurd z (kz b),e0.funs,e0.frf⟩,
  rfl,e0.bare,Un.kept hk,⟨_,x.toInCall.ns,λi y v h1 h2 h3=>?_⟩,λy c h=>⟨_,x.cell y c h⟩,e0.hok.fresh (zb _),λy c h=>?_,λp hp=>absurd (show p∈([]:List (Addr×Obj)) from hp) (by simp),e0.hok.kept hk,?_⟩
 ·exact name_of_addr x.apart (Q6 h1) (Q6 h2)
 ·have hy:scope.names.lookup y=some .cell\/scope.names.lookup y=some .free:=hy;rcases hy with hy|hy
  ·exact zN hy
  ·exact absurd rfl (S.nofree _ (Q6 hy))
 ·exact QH (x.above y c (Q6 h))
 ·have hi:i<vs.length:=by
   unfold start at h2
   by_cases hi:i<vs.length
   ·exact hi
   ·rw[QF (by simpa using hi)]at h2
    rw[List.getElem?_replicate]at h2;split at h2 <;> cases h2
  have ha:vs[i]?=some v:=by
   unfold start at h2;rw[PC (by simpa using hi),zo]at h2
   cases e:vs[i]? with
   |none=>rw[e]at h2;cases h2
   |some a=>rw[e]at h2;cases h2;rfl
  obtain⟨u,hu,rv⟩:=r.get ha;have hp:ps[i]?=some y:=by
   rw[<-S.pre,List.getElem?_take_of_lt (by omega)];exact h1
  have sj:ps.Nodup:=by rw[<-S.pre];exact S.nd.sublist (List.take_sublist _ _)
  refine⟨u,rv,?_⟩;rcases S.par y (Pn hp) with k|k
  ·exact .inl ⟨k,uS sj hp hu k⟩
  ·obtain⟨c,e⟩:=zN (n:=s.heap.objs.size+1) k;refine .inr ⟨.inl k,c,e,?_⟩;have q:=x.cell y c e;rw[uT sj hp hu (by show scope.names.lookup y≠_;rw[k];decide)]at q;exact q
 ·exact e0.hok.fresh (QH (x.above y c (Q6 h)))
 ·unfold start
  show _=N.length
  rw[PP,za,List.length_replicate];omega
variable{an od:Option Addr}{cdv ct doc pm:Value}{osl:Array (Option Value)}{params:Arguments}
theorem Lq{k:Nat}{f:Addr}{dV kV oc:Value}(lk:K.lookup f=some ⟨oc,od,.func (Qd name qual params body scope dV kV doc pm an cdv ct),osl⟩)(d9:RW K cdv qual=true)(S:mT N ps scope)(len:∀vs H Q E,sp vs H Q E->vs.length=ps.length)(e8:∀(A:Around)(outer:List Env)(s:Shared)(H:Hp)(vs:List V)(Q:VK)(E:XK),dZ k (A.deeper (envOfC qual scope s.heap.objs.size f cdv))->sp vs H Q E->
   ∃t,PSs (uK CX P w K mg base N qual scope f cdv A outer s H E) body t/\t { nx:=λ_ H'=>Q .non H',rt:=Q } (start N vs) H):
  cD P w K mg base CX (k+1) f (Qd name qual params body scope dV kV doc pm an cdv ct) ps sp:=by
 refine⟨len,λA outer s H args us vs Q E hr e0 hb r ip=>?_⟩;have hl:=len _ _ _ _ ip;have KX:K.In s.heap:=e0.mod.kin.keeps λb o e=>(e0.bs b o e).1;have lim:s.heap.NoLimit:=e0.mod.nolimit.keeps λb o e=>(e0.bs b o e).1;have l8:∀y∈ps.zip us,scope.names.lookup y.1=some .local\/(scope.names.lookup y.1=some .cell/\((Pz (s.heap.objs.size+1) scope.names []).lookup y.1).isSome=true):=λ⟨n,v⟩ hy=>by
  rcases S.par n (List.of_mem_zip hy).1 with q|q
  ·exact .inl q
  ·exact .inr ⟨q,PySem.W.cellsFrom_some _ _ _ (.inl q)⟩
 refine codeAny_call_function hr.depth (KX _ _ lk) rfl S.co S.gen rfl (PySem.W.codeRec_of KX d9) (hb _ _ _ _ ?_);refine wpAny_newFunctionEnv_cells S.kind l8 λenv he s1 x=>?_;subst he;refine⟨lim.keeps x.toInCall.keep,codeAny_func ?_⟩;obtain⟨t,ht,hq⟩:=e8 A outer s H vs Q E (hr.deeper _) ip;have I:Inv (uK CX P w K mg base N qual scope f cdv A outer s H E) [] (start N vs) H s1:=CD S hr.hd e0 hl r x;refine Qu (ht [] s1 (start N vs) H _ I hq) (λfl s' hs=>?_) λe s' hs=>hs;have fin:∀{σ':St}{H':Hp}{v:V}{u:Value},Inv (uK CX P w K mg base N qual scope f cdv A outer s H E) [] σ' H' s'->RelV v u->Q v H'->CE outer P w H s Q u s':=
  λ{σ' H' v u} J rv q=>⟨v,H',J.os,J.bare,J.base,J.hok,rv,q⟩
 cases fl with
 |ret u=>
  obtain⟨v,σ',H',J,rv,q⟩:=hs;exact fin J rv q
 |next=>
  obtain⟨σ',H',J,q⟩:=hs;exact fin (v:=V.non) (u:=zm) J rfl q
 |brk=>
  obtain⟨_,_,_,q⟩:=hs;exact Qi q
 |cont=>
  obtain⟨_,_,_,q⟩:=hs;exact Qi q
variable{T:String}
section
variable{p:Pos}{t:TA}{id:String}{r:List V->Hp->VK->Prop}
def tCB(r:List V->Hp->VK->Prop)(t:TA):TE:=λσ H Q=>t σ H λvs H1=>r vs H1 Q
theorem DW(hc:bT X (.builtin id) r)(hg:Gl X x)(hm:X.mg x=none)(hv:Q3 x=some (.builtin id))(ha:PA X (e::es) t)(hn:x≠"__name__" := by decide)(bf:(x == ("__debug__" : Str))=false:=by decide)
  (he:zx (e::es) X.env=(false,eval e X.env)::zx es X.env:=by rfl) (ay:(backTo pos (zx es X.env)).any (·.1)=false:=by rfl):PE X (.Call (.Name x p) (e::es) [] pos) (tCB r t):=by
 intro pins s σ H Q I h;refine P9 (oR I hg hm hv ?_ hn bf);exact PyProof.Rows.callWith_builtin1 (thn (ha pos pins s σ H _ I h) λus s1 ⟨vs,H1,I1,r1,q1⟩=>hc pins s1 σ H1 vs us Q I1 r1 q1) he ay
theorem CF(hc:bT X (.type T) r)(hg:Gl X x)(hm:X.mg x=none)(hv:Q3 x=some (.type T))(ha:PA X (e::es) t)(hn:x≠"__name__" := by decide)(bf:(x == ("__debug__" : Str))=false:=by decide)
  (he:zx (e::es) X.env=(false,eval e X.env)::zx es X.env:=by rfl) (ay:(backTo pos (zx es X.env)).any (·.1)=false:=by rfl):PE X (.Call (.Name x p) (e::es) [] pos) (tCB r t):=by
 intro pins s σ H Q I h;refine P9 (oR I hg hm hv ?_ hn bf);exact PyProof.Rows.callWith_type1 (thn (ha pos pins s σ H _ I h) λus s1 ⟨vs,H1,I1,r1,q1⟩=>hc pins s1 σ H1 vs us Q I1 r1 q1) he ay
end
end L2
namespace HT
open PySem PyProof.Rows
variable{A:Around}{E Q:Value->Shared->Prop}{prog:Program}{s:Shared}{vs ws:List Value}{w:World}
theorem cat_tup{t b:Addr}(ht:IsTup s.heap t vs.toArray)(hb:IsTup s.heap b ws.toArray)(hv:vs≠[])(h1:ws=[]->Q (.ref t) s)(h2:ws≠[]->Q (.ref s.heap.objs.size) { s with heap:=s.heap.push { cls:=.type "tuple",data:=.seq (vs++ws).toArray } })(hsz:vs.length+ws.length<=zk):wpAny (model prog w) A (PK .Add (.ref t) (.ref b)) Q E s:=by
 obtain⟨⟨cls,dd,data,sl⟩,ho,hc,n,hd⟩:=id ht;obtain⟨⟨md,i7,data2,jd⟩,fi,cz,n2,hd2⟩:=id hb;simp only at hc hd cz hd2;subst hc hd cz hd2;have e:vs.toArray++ws.toArray=(vs++ws).toArray:=by simp
 by_cases hw:ws=[]
 ·exact concat_meets ⟨_,ho,rfl⟩ ⟨_,fi,rfl⟩ noFill_tuple_add seq_tuple_add PySem.F.slot_tuple_add PySem.F.entry_tuple_add (PySem.F.args_tuple_add_2 _ _)
   (tuple_addW1 t b vs.toArray ws.toArray n n2 dd i7 sl jd (by simpa using hv) (by simp[hw])) ⟨ho,fi,h1 hw⟩
 ·refine concat_meets ⟨_,ho,rfl⟩ ⟨_,fi,rfl⟩ noFill_tuple_add seq_tuple_add PySem.F.slot_tuple_add PySem.F.entry_tuple_add (PySem.F.args_tuple_add_2 _ _)
   (tuple_addW2 t b vs.toArray ws.toArray n n2 dd i7 sl jd (by simpa using hv) (by simpa using hw) (by rw[ze,ze];exact hsz)) ⟨ho,fi,?_⟩
  rw[e];exact h2 hw
def sIx(n d:Nat):Option Int->Nat
 |none=>d
 |some v=>if v<0 then(v+(n:Int)).toNat else min v.toNat n
theorem Jr(n d:Nat)(hd:d<=n)(o:Option Int):sIx n d o<=n:=by
 cases o with
 |none=>exact hd
 |some v=>
  show(if v<0 then(v+(n:Int)).toNat else min v.toNat n)<=n
  by_cases hv:v<0
  ·rw[if_pos hv];omega
  ·rw[if_neg hv];exact Nat.min_le_right _ _
theorem BK(v:Int)(n d:Nat):(if v<0 then max (v+(n:Int)) 0 else min v (n:Int))=((sIx n d (some v):Nat):Int):=by
 show(if v<0 then max (v+(n:Int)) 0 else min v (n:Int))=(((if v<0 then(v+(n:Int)).toNat else min v.toNat n):Nat):Int)
 by_cases hv:v<0
 ·simp only[if_pos hv];omega
 ·simp only[if_neg hv];omega
theorem AU(lo hi:Option Int)(n:Nat):RC lo hi 1 (n:Int)=(((sIx n 0 lo:Nat):Int),((sIx n n hi:Nat):Int)):=by
 have h1:¬ ((1:Int)<0):=by omega
 unfold RC;simp only[h1,if_false];refine Prod.ext ?_ ?_
 ·cases lo with
  |none=>rfl
  |some v=>exact BK v n 0
 ·cases hi with
  |none=>rfl
  |some v=>exact BK v n n
theorem AV(i j:Nat):QR (i:Int) (j:Int) 1=j-i:=by
 unfold QR;have h1:(1:Int)>0:=by omega
 simp only[h1,if_true,Int.ediv_one];split <;> omega
variable{o:Option Int}{v:Value}
theorem rR{Q:Option Int->Shared->Prop}(p:IsPart v o)(h:Q o s):wpAny (model prog w) A (Builtin.Slice.slicePartIndex v) Q E s:=by
 cases p with
 |none=>exact slicePart_none h
 |int i t=>exact slicePart_int h
variable{hi lo:Option Int}{n:Nat}{sl:Addr}{vl vu:Value}
theorem sliceApplied_gen{Q:Int×Int×Nat->Shared->Prop}(hs:s.heap.IsSliceOf sl vl vu .none)(pl:IsPart vl lo)(pu:IsPart vu hi)(h:Q (((sIx n 0 lo:Nat):Int),1,sIx n n hi-sIx n 0 lo) s):wpAny (model prog w) A (Builtin.Slice.sliceApplied (.ref sl) (pure (n:Int))) Q E s:=by
 obtain⟨os,jy,n8,i9⟩:=id hs;unfold Builtin.Slice.sliceApplied Builtin.Slice.sliceFields;refine yw (yw (RN jy i9 (x:=vl) rfl (yw (RN jy i9 (x:=vu) rfl (yw (RN jy i9 (x:=.none) rfl (yy ?_)))))));refine yw (slicePart_none ?_)
 show wpAny _ _ (if((1:Int) == 0)=true then _ else _) _ _ s
 rw[if_neg (by decide)];refine yw (rR pl (yw (rR pu (yw (yy ?_)))))
 show wpAny _ _ (match RC lo hi 1 (n:Int) with|(lo,hi)=>pure (lo,(1:Int),QR lo hi 1)) _ _ s
 rw[AU lo hi n]
 show wpAny _ _ (pure (((sIx n 0 lo:Nat):Int),(1:Int),QR ((sIx n 0 lo:Nat):Int) ((sIx n n hi:Nat):Int) 1)) _ _ s
 rw[AV];exact yy h
theorem DX(xs:Array Value)(i k:Nat):((Io k).filterMap λ(m:Nat)=>xs[((i:Int)+(m:Int)*1).toNat]?).toArray=((xs.toList.drop i).take k).toArray:=by
 have e:(λ(m:Nat)=>xs[((i:Int)+(m:Int)*1).toNat]?)=λm=>xs[i+m]?:=by
  funext m
  have:((i:Int)+(m:Int)*1).toNat=i+m:=by omega
  rw[this]
 rw[e];have:=pick_run xs i k;rw[List.filterMap_map]at this;have e2:((λx=>xs[x]?)∘λx=>i+x)=λm=>xs[i+m]?:=rfl;rw[e2]at this;rw[this]
variable{items:Array Value}
theorem getItem_tuple_cut{t:Addr}(ht:IsTup s.heap t items)(hs:s.heap.IsSliceOf sl vl vu .none)(pl:IsPart vl lo)(pu:IsPart vu hi)(hw:¬ (sIx items.size 0 lo=0/\sIx items.size items.size hi=items.size))(h:Q (.ref s.heap.objs.size) { s with heap:=s.heap.push { cls:=.type "tuple",data:=.seq ((items.toList.drop (sIx items.size 0 lo)).take (sIx items.size items.size hi-sIx items.size 0 lo)).toArray } })(hsz:items.size<=zk):wpAny (model prog w) A (getItem (.ref t) (.ref sl)) Q E s:=by
 have c8:sizeOk (.seq ((items.toList.drop (sIx items.size 0 lo)).take (sIx items.size items.size hi-sIx items.size 0 lo)).toArray):=by
  show((items.toList.drop (sIx items.size 0 lo)).take (sIx items.size items.size hi-sIx items.size 0 lo)).toArray.size<=zk
  rw[ze,Q8,Q9,Array.length_toList];omega
 have hj:sIx items.size items.size hi<=items.size:=Jr _ _ (zb _) hi;obtain⟨os,jy,n8,i9⟩:=id hs;have si:s.TypeIs (.ref sl) "slice" := ⟨os,jy,n8⟩;unfold getItem
 try with_reducible refine PF ?_
 first|refine yw (yy ?_)|skip
 refine yw (wpAny_sequenceKey ht.typeIs (by decide) ?_);refine yw (Px (name:=zg "__getitem__") ht.typeIs Pu
  (Pg Pu ht.typeIs entry_tuple_getitem ?_ (args_tuple_getitem _ _)))
 show wpAny _ _ (Rz (.ref t) >>= _) _ _ s
 refine yw (tupleItemsOf_ ht ?_);refine yw (wpAny_typeOf si ?_);rw[if_pos (by decide)];refine yw (sliceApplied_gen hs pl pu ?_);have gf:¬ ((((sIx items.size 0 lo:Nat):Int) == 0&&(1:Int) == 1&&(sIx items.size items.size hi-sIx items.size 0 lo) == items.size)=true):=by
  intro q;rw[z0,z0]at q;have q1:((sIx items.size 0 lo:Nat):Int)=0:=eq_of_beq q.1.1;have q2:sIx items.size items.size hi-sIx items.size 0 lo=items.size:=eq_of_beq q.2;exact hw ⟨by omega,by omega⟩
 show wpAny _ _ (if(((sIx items.size 0 lo:Nat):Int) == 0&&(1:Int) == 1&&(sIx items.size items.size hi-sIx items.size 0 lo) == items.size)=true then _ else _) _ _ s
 rw[if_neg gf,DX]
 first
  |exact yw (m:=QW _) (Pc (yy ⟨_,rfl,yy h⟩) c8)
  |exact yw (m:=QW _) (Pc (yw (yy (yy ⟨_,rfl,yy h⟩))) c8)
  |exact yw (yw (m:=QW _) (Pc (yy (yy ⟨_,rfl,yy h⟩)) c8))
  |exact yw (yw (m:=QW _) (Pc (yy ⟨_,rfl,yy h⟩) c8))
end HT
namespace L2
open PySem PySem.Spec PyProof.Rows
abbrev TO:=St->Hp->(Option Int->Hp->Prop)->Prop
def PO(X:Cx)(e:Option Expr)(t:TO):Prop:=
 ∀(pins:List (Addr×Obj))(s:Shared)(σ:St)(H:Hp)(Q:Option Int->Hp->Prop),Inv X pins σ H s->t σ H Q->
  wpAny (model X.prog X.w) X.A (evalPart e X.env) (λu s'=>∃o H',Inv X pins σ H' s'/\IsPart u o/\Q o H') X.xe s
def GB:TO:=λ_ H Q=>Q none H
variable{ns:List Int}
theorem intsAre_of:∀{us:List Value},aJ (ns.map V.int) us->IntsAre us ns:=by
 induction ns with
 |nil=>intro us r;rw[List.map_nil]at r;cases r;exact .nil
 |cons n ns ih=>
  intro us r;rw[zt]at r;cases r with
  |cons r1 r2=>
   obtain⟨t,e⟩:=r1;subst e;exact .cons n t (ih r2)
variable{X:Cx}{hi lo:Option Expr}{r r':V->Option Int->Option Int->Hp->VK->Prop}{e:Expr}{p2 pos:Pos}{te:TE}{us:List Value}
section
variable{tl th:TO}
theorem GC:PO X none GB:=by
 intro pins s σ H Q I h;rw[evalPart_none];exact yy ⟨none,H,I,.none,h⟩
def SlR(X:Cx)(r:V->Option Int->Option Int->Hp->VK->Prop):Prop:=
 ∀(pins:List (Addr×Obj))(s:Shared)(σ:St)(H:Hp)(x:V)(v vl vu:Value)(lo hi:Option Int)(sl:Addr)(Q:VK),Inv X pins σ H s->RelV x v->s.heap.IsSliceOf sl vl vu .none->IsPart vl lo->IsPart vu hi->r x lo hi H Q->
  ∃T id,typeLookup (.type T) "__getitem__" = pure (some (.builtin id))/\s.TypeIs v T/\wpAny (model X.prog X.w) X.A (getItem v (.ref sl)) (EP X pins σ Q) X.xe s
theorem SlR.or(h:SlR X r)(h':SlR X r'):SlR X (λx lo hi H Q=>r x lo hi H Q\/r' x lo hi H Q):=by
 intro pins s σ H x v vl vu lo hi sl Q I rx hs pl pu q;rcases q with q|q
 ·exact h pins s σ H x v vl vu lo hi sl Q I rx hs pl pu q
 ·exact h' pins s σ H x v vl vu lo hi sl Q I rx hs pl pu q
def tSl(r:V->Option Int->Option Int->Hp->VK->Prop)(te:TE)(tl th:TO):TE:=λσ H Q=>te σ H λx H1=>tl σ H1 λl H2=>th σ H2 λu H3=>r x l u H3 Q
theorem DY(hr:SlR X r)(he:PE X e te)(hl:PO X lo tl)(hu:PO X hi th):PE X (.Subscript e (.Slice lo hi none p2) pos) (tSl r te tl th):=by
 intro pins s σ H Q I h;refine Subscript_ (thn (he pins s σ H _ I h) λv s1 hz=>?_);obtain⟨x,H1,I1,r1,q1⟩:=hz;refine wpAny_Slice (thn (hl pins s1 σ H1 _ I1 q1) λvl s2 ⟨l,H2,I2,pl,q2⟩=>thn (hu pins s2 σ H2 _ I2 q2) λvu s3 hz=>?_);obtain⟨u,H3,I3,pu,q3⟩:=hz;rw[evalPart_none];refine yy ?_;have I4:Inv X pins σ H3 { s3 with heap:=s3.heap.push { cls:=.type "slice",data:=.fields #[vl,vu,.none] } }:=I3.kept (t':=s3.toks) λb ob q=>y0 _ q;obtain⟨T,id,hT,ht,hg⟩:=hr pins { s3 with heap:=s3.heap.push { cls:=.type "slice",data:=.fields #[vl,vu,.none] } } σ H3 x v vl vu l u s3.heap.objs.size Q I4 r1 (Heap.IsSliceOf.new ..) pl pu q3
 show wpAny (model X.prog X.w) X.A (subscriptTail e (.Slice lo hi none p2) v (.ref s3.heap.objs.size)) (EP X pins σ Q) X.xe { s3 with heap:=s3.heap.push { cls:=.type "slice",data:=.fields #[vl,vu,.none] } }
 exact tail_any (ops:=[.ref s3.heap.objs.size,v]) ht hT hg (by with_unfolding_all rfl)
def zO(xs:List V)(lo hi:Option Int):List V:=(xs.drop (HT.sIx xs.length 0 lo)).take (HT.sIx xs.length xs.length hi-HT.sIx xs.length 0 lo)
theorem qE(xs:List V)(lo hi:Option Int):(zO xs lo hi).length<=xs.length:=by
 unfold zO;rw[Q8,Q9];omega
def Lr(K:yz):V->Option Int->Option Int->Hp->VK->Prop:=λx lo hi H Q=>∃a xs,x=.ref a/\SqT K H a xs/\
 ¬ (HT.sIx xs.length 0 lo=0/\HT.sIx xs.length xs.length hi=xs.length)/\∀p,H p=none->Q (.ref p) (upd H p (.tup (zO xs lo hi)))
theorem Js:SlR X (Lr X.K):=by
 intro pins s σ H x v vl vu lo hi sl Q I rx hs pl pu h;obtain⟨a,xs,rfl,hx,hw,q⟩:=h;cases rx
 obtain⟨its,r,ht,hz⟩:=I.tuple hx;have hlen:its.toArray.size=xs.length:=by rw[ze];exact r.length.symm
 refine⟨"tuple",_,Pu.lookup,ht.typeIs,?_⟩;refine HT.getItem_tuple_cut ht hs pl pu (by rw[hlen];exact hw) ?_ (by rw[hlen];exact hz);rw[hlen];refine⟨.ref s.heap.objs.size,_,I.laid (t':=s.toks) (o:=.tup (zO xs lo hi)) (λb ob q=>y0 _ q) (zb _) ?_,rfl,q _ (I.hok.fresh (zb _))⟩;exact⟨Ph (qE xs lo hi) hz,_,(r.drop (HT.sIx xs.length 0 lo)).take (HT.sIx xs.length xs.length hi-HT.sIx xs.length 0 lo),oQ.new _ _⟩
def IC(K:yz):R2:=λx y H Q=>∃a b xs ys,x=.ref a/\y=.ref b/\SqT K H a xs/\SqT K H b ys/\xs≠[]/\xs.length+ys.length<=zk/\
 (ys=[]->Q (.ref a) H)/\(ys≠[]->∀p,H p=none->Q (.ref p) (upd H p (.tup (xs++ys))))
theorem aJ.nil_iff{xs:List V}(r:aJ xs us):us=[]↔xs=[]:=by
 cases r with
 |nil=>simp
 |cons _ _=>simp
theorem GD:OpR X (PK .Add) (IC X.K):=by
 intro pins s σ H x y v u Q I rx ry h;obtain⟨a,b,xs,ys,rfl,rfl,ha,hb,hx,hz,q1,q2⟩:=h;cases rx
 cases ry
 obtain⟨its,r1,p1,_⟩:=I.tuple ha;obtain⟨bw,r2,p2,_⟩:=I.tuple hb;refine HT.cat_tup p1 p2 (λz=>hx (r1.nil_iff.mp z)) (λz=>⟨.ref a,H,I,rfl,q1 (r2.nil_iff.mp z)⟩) (λz=>?_) (by rw[<-r1.length,<-r2.length];exact hz);refine⟨.ref s.heap.objs.size,_,I.laid (t':=s.toks) (o:=.tup (xs++ys)) (λb ob q=>y0 _ q) (zb _) ?_,rfl,q2 (λw=>z (r2.nil_iff.mpr w)) _ (I.hok.fresh (zb _))⟩;exact⟨by rw[PP];exact hz,_,r1.append r2,oQ.new _ _⟩
end
def ixN(n:Nat)(i:Int):Option Nat:=if 0<=i then(if i<n then some i.toNat else none) else if -(n:Int)<=i then some (i+n).toNat else none
def atI{α:Type}(xs:List α)(i:Int):Option α:=(ixN xs.length i).bind λj=>xs[j]?
variable{j n:Nat}
theorem BL{i:Int}(h:ixN n i=some j):seqIndex? i n=some j/\j<n/\-(n:Int)<=i/\i<n:=by
 unfold ixN at h
 by_cases h0:0<=i
 ·rw[if_pos h0]at h
  by_cases h1:i<n
  ·rw[if_pos h1]at h;have e:i.toNat=j:=zy h;exact⟨by rw[seqIndex_of h0 h1,e],by omega,by omega,h1⟩
  ·rw[if_neg h1]at h;cases h
 ·rw[if_neg h0]at h
  by_cases h1:-(n:Int)<=i
  ·rw[if_pos h1]at h;have e:(i+n).toNat=j:=zy h;exact⟨by rw[seqIndex_neg (by omega) h1,e],by omega,h1,by omega⟩
  ·rw[if_neg h1]at h;cases h
theorem wR{α:Type}{xs:List α}{i:Int}{v:α}(h:atI xs i=some v):∃j,seqIndex? i xs.length=some j/\xs[j]?=some v/\j<xs.length/\-(xs.length:Int)<=i/\i<xs.length:=by
 unfold atI at h;cases e:ixN xs.length i with
 |none=>rw[e]at h;cases h
 |some j=>
  rw[e]at h;obtain⟨h1,h2,h3,h4⟩:=BL e;exact⟨j,h1,h,h2,h3,h4⟩
def BM(b:Expr):Prop:=∀o i,subscripted b false o i=operate [o,i] (getItem o i)
def IxR(X:Cx)(r:R2):Prop:=
 ∀(value slice:Expr)(pins:List (Addr×Obj))(s:Shared)(σ:St)(H:Hp)(x y:V)(v u:Value)(Q:VK),Inv X pins σ H s->RelV x v->RelV y u->r x y H Q->
  subscripted slice false v u=operate [v,u] (getItem v u)->wpAny (model X.prog X.w) X.A (subscriptTail value slice v u) (EP X pins σ Q) X.xe s
def MtR(X:Cx)(id:String)(r:V->List V->Hp->VK->Prop):Prop:=
 ∀(pins:List (Addr×Obj))(s:Shared)(σ:St)(H:Hp)(x:V)(xs:List V)(v:Value)(us:List Value)(Q:VK),Inv X pins σ H s->RelV x v->aJ xs us->r x xs H Q->
  wpAny (model X.prog X.w) X.A (call (.builtin id) (v::us)) (EP X pins σ Q) X.xe s
variable{ta:TE}{H:Hp}{its its':List Value}{pins:List (Addr×Obj)}{s:Shared}{σ:St}{A:Around}{u:Value}{y:V}{T:String}{af apos:Pos}{name:Str}{to:TE}{es:List Expr}
section
variable{a b:Expr}{tb:TE}
theorem IxR.or{r r':R2}(h:IxR X r)(h':IxR X r'):IxR X (λx y H Q=>r x y H Q\/r' x y H Q):=by
 intro value slice pins s σ H x y v u Q I rx ry q hs;rcases q with q|q
 ·exact h value slice pins s σ H x y v u Q I rx ry q hs
 ·exact h' value slice pins s σ H x y v u Q I rx ry q hs
theorem Ls{r:R2}(hr:IxR X r)(ha:PE X a ta)(hb:PE X b tb)(hs:BM b):PE X (.Subscript a b pos) (tOp r ta tb):=by
 intro pins s σ H Q I h;exact Subscript_ (Jg ha hb I h λv u s2 x y H2 I2 rx ry q=>hr a b pins s2 σ H2 x y v u Q I2 rx ry q (hs _ _))
def O1(K:yz):R2:=λx y H Q=>∃p xs i v,x=.ref p/\y=.int i/\SqL K H p xs/\atI xs i=some v/\Q v H
def O2(K:yz):R2:=λx y H Q=>∃p xs i v,x=.ref p/\y=.int i/\SqT K H p xs/\atI xs i=some v/\Q v H
def O3:R2:=λx y H Q=>∃z i c,x=.str z/\y=.int i/\z.length<=zk/\atI z.cps.toList i=some c/\Q (.str ⟨#[c]⟩) H
theorem GE:IxR X (O1 X.K):=by
 intro value slice pins s σ H x y v u Q I rx ry h hs;obtain⟨p,xs,i,z,rfl,rfl,hq,he,q⟩:=h;cases rx
 obtain⟨t,rfl⟩:=ry;obtain⟨its,r,pl,hz⟩:=I.list hq;obtain⟨j,h1,h2,h3,h4,h5⟩:=wR he;obtain⟨w,ew,bt⟩:=r.get h2;have hl:=r.length;have hn:=kX;have fin:EP X pins σ Q w s:=⟨z,H,I,bt,q⟩
 by_cases h0:0<=i
 ·have hj:i.toNat=j:=by
   rw[seqIndex_of h0 h5]at h1;exact zy h1
  exact item_listR pl.isList h0 (by omega) (by rw[hj];simpa using ew) fin hs
 ·have hj:(i+(its.toArray.size:Int)).toNat=j:=by
   rw[seqIndex_neg (by omega) h4]at h1;rw[ze,<-hl];exact zy h1
  exact subscriptTail_builtinR (x:=w) pl.isList.typeIs slot_list_getitem.lookup
   (wpAny_getItem_list_neg (Q:=λr s'=>r=w/\EP X pins σ Q r s') pl.isList (by omega) (by rw[ze] <;> omega) (by omega) (by rw[hj];simpa using ew) ⟨rfl,fin⟩) hs
theorem Jt:IxR X (O2 X.K):=by
 intro value slice pins s σ H x y v u Q I rx ry h hs;obtain⟨p,xs,i,z,rfl,rfl,hq,he,q⟩:=h;cases rx
 obtain⟨t,rfl⟩:=ry;obtain⟨its,r,pl,hz⟩:=I.tuple hq;obtain⟨j,h1,h2,h3,h4,h5⟩:=wR he;obtain⟨w,ew,bt⟩:=r.get h2;have hl:=r.length;have hn:=kX;have fin:EP X pins σ Q w s:=⟨z,H,I,bt,q⟩;exact subscriptTail_builtinR (x:=w) pl.typeIs slot_tuple_getitem.lookup
  (getItem_tuple (j:=j) (Q:=λr s'=>r=w/\EP X pins σ Q r s') pl (by omega) (by omega) (by rw[ze,<-hl];exact h1) (by simpa using ew) ⟨rfl,fin⟩) hs
theorem Ju:IxR X O3:=by
 intro value slice pins s σ H x y v u Q I rx ry h hs;obtain⟨z,i,c,rfl,rfl,hz,he,q⟩:=h;obtain⟨t,rfl⟩:=rx;obtain⟨t',rfl⟩:=ry;obtain⟨j,h1,h2,h3,h4,h5⟩:=wR he;have hl:z.cps.toList.length=z.length:=by simp[Str.length]
 rw[hl]at h1 h4 h5;have hn:=kX;exact tail_any (typeIs_str s z t) slot_str_getitem.lookup (getItem_str (c:=c) (by
  have e1:decide (i < -(2 ^ 63:Int))=false:=decide_eq_false (by omega);have e2:decide (i >= 2 ^ 63)=false:=decide_eq_false (by omega);rw[e1,e2,Bool.or_false]) (by rw[h1];simpa using h2) ⟨.str ⟨#[c]⟩,H,I.tok _,⟨_,rfl⟩,q⟩) hs
theorem AW(its:List Value)(n j:Nat)(u:Value):Pd (·.setIfInBounds j u) { cls:=.type "list",data:=.seq its.toArray n }={ cls:=.type "list",data:=.seq (its.set j u).toArray n }:=by
 simp[Pd]
theorem Inv.lst{pins:List (Addr×Obj)}{σ:St}{H:Hp}{s:Shared}{p:Addr}{xs:List V}(I:Inv X pins σ H s)(h:H p=some (.lst xs)):
  ∃(its:List Value)(n:Nat),aJ xs its/\s.heap.get? p=some { cls:=.type "list",data:=.seq its.toArray n }/\xs.length<=zk:=by
 obtain⟨z,its,n,r,e⟩:=I.hok p _ h;exact⟨its,n,r,e,z⟩
theorem Inv.lstUpd{p:Addr}{xs ys:List V}{n':Nat}{f:Obj->Obj}(I:Inv X pins σ H s)(h:H p=some (.lst xs))(ho:s.heap.get? p=some { cls:=.type "list",data:=.seq its.toArray n })(hf:f { cls:=.type "list",data:=.seq its.toArray n }={ cls:=.type "list",data:=.seq its'.toArray n' })(r:aJ ys its')(hz:ys.length<=zk)(t:Nat):
  Inv X pins σ (upd H p (.lst ys)) { s with heap:=s.heap.update p f,toks:=t }:=by
 have e:(s.heap.update p f).get? p=some { cls:=.type "list",data:=.seq its'.toArray n' }:=by
  rw[QK f ho (by rw[hf] <;> rfl),hf]
 refine I.write (x:=p) (e:=p) (by rw[h];trivial) (.inl rfl) (λb u hb q=>(Heap.get?_update_other _ _ (PY hb)).trans q) ⟨_,e⟩ ?_;exact⟨hz,its',n',r,e⟩
def Lu:V->V->V->Hp->(Hp->Prop)->Prop:=λo i v H Q=>∃p xs k j,o=.ref p/\i=.int k/\H p=some (.lst xs)/\ixN xs.length k=some j/\Q (upd H p (.lst (xs.set j v)))
theorem set_list:NS X Lu:=by
 intro pins s σ H o i v ov iv u Q I ro ri rv h;obtain⟨p,xs,k,j,rfl,rfl,hp,hj,q⟩:=h;cases ro
 obtain⟨t,rfl⟩:=ri;obtain⟨its,n,r,ho,hz⟩:=I.lst hp;obtain⟨h1,h2,h3,h4⟩:=BL hj;have hl:=r.length;have hn:=kX;have I':Inv X pins σ (upd H p (.lst (xs.set j v))) { s with heap:=s.heap.update p (Pd (·.setIfInBounds j u)) }:=
  I.lstUpd hp ho (AW its n j u) (r.set rv j) (by rw[QC];exact hz) s.toks
 by_cases h0:0<=k
 ·have hk:k.toNat=j:=by
   rw[seqIndex_of h0 h4]at h1;exact zy h1
  exact PySem.W.ki_setAt ho h0 (by omega) (by rw[ze,<-hl];exact h4) (by rw[hk];exact⟨_,I',q⟩)
 ·have hk:(k+(its.toArray.size:Int)).toNat=j:=by
   rw[seqIndex_neg (by omega) h3]at h1;rw[ze,<-hl];exact zy h1
  exact PySem.W.ki_setBack ho (by omega) (by rw[ze,<-hl];exact h3) (by omega) (by rw[hk];exact⟨_,I',q⟩)
theorem wU(lo hi:Option Int)(n:Nat):(sliceBounds lo hi none n).1=((HT.sIx n 0 lo:Nat):Int)/\(sliceBounds lo hi none n).2.1=((HT.sIx n n hi:Nat):Int)/\(sliceBounds lo hi none n).2.2=1:=by
 refine⟨?_,?_,rfl⟩
 ·cases lo with
  |none=>simp[sliceBounds,HT.sIx]
  |some i=>
   simp only[sliceBounds,HT.sIx,Option.getD_none,show(1:Int)>0 by decide,if_true]
   by_cases h:i<0
   ·simp only[h,if_true] <;> omega
   ·simp only[h,if_false] <;> omega
 ·cases hi with
  |none=>simp[sliceBounds,HT.sIx]
  |some i=>
   simp only[sliceBounds,HT.sIx,Option.getD_none,show(1:Int)>0 by decide,if_true]
   by_cases h:i<0
   ·simp only[h,if_true] <;> omega
   ·simp only[h,if_false] <;> omega
theorem uL(its:List Value)(lo hi:Option Int):slicePick its.toArray lo hi none=((its.drop (HT.sIx its.length 0 lo)).take (HT.sIx its.length its.length hi-HT.sIx its.length 0 lo)).toArray:=by
 obtain⟨h1,h2,h3⟩:=wU lo hi its.toArray.size;unfold slicePick;rw[h1,h2,h3];simp only[sliceRange_one,pick_run,ze] <;> rfl
def Lv(K:yz):V->Option Int->Option Int->Hp->VK->Prop:=λx lo hi H Q=>∃a xs,x=.ref a/\SqL K H a xs/\∀p,H p=none->Q (.ref p) (upd H p (.lst (zO xs lo hi)))
theorem GF:SlR X (Lv X.K):=by
 intro pins s σ H x v vl vu lo hi sl Q I rx hs pl pu h;obtain⟨a,xs,rfl,hx,q⟩:=h;cases rx
 obtain⟨its,r,ht,hz⟩:=I.list hx;have hlen:=r.length;refine⟨"list",_,slot_list_getitem.lookup,ht.isList.typeIs,?_⟩;refine wpAny_getItem_list_slice ht.isList hs pl pu .none (by simp) ?_ (by rw[ze] <;> omega);rw[uL,<-hlen];refine⟨.ref s.heap.objs.size,_,I.laid (t':=s.toks) (o:=.lst (zO xs lo hi)) (λb ob q=>y0 _ q) (zb _) ?_,rfl,q _ (I.hok.fresh (zb _))⟩;exact⟨Ph (qE xs lo hi) hz,_,0,(r.drop (HT.sIx xs.length 0 lo)).take (HT.sIx xs.length xs.length hi-HT.sIx xs.length 0 lo),zj _ rfl⟩
def qF:V->Bool
 |.non=>true
 |.bl _=>true
 |.int _=>true
 |.str _=>true
 |_=>false
def eqV:V->V->Bool
 |.non,.non=>true
 |.bl a,.bl b=>a == b
 |.bl a,.int b=>(if a then 1 else 0) == b
 |.int a,.bl b=>a == (if b then 1 else 0)
 |.int a,.int b=>a == b
 |.str a,.str b=>a == b
 |_,_=>false
theorem Jv{x:V}{v:Value}(ry:RelV y u)(rx:RelV x v)(fy:qF y=true)(fx:qF x=true):SeqAt.EqAt A s u v (eqV y x):=by
 cases y with
 |non=>
  cases ry
  cases x with
  |non=>cases rx;exact SeqAt.EqAt.same _
  |bl b=>cases rx;exact SeqAt.EqAt.none_bool b
  |int b=>obtain⟨t,rfl⟩:=rx;exact SeqAt.EqAt.none_int b t
  |str b=>obtain⟨t,rfl⟩:=rx;exact SeqAt.EqAt.none_str b t
  |_=>exact absurd (show false=true from fx) zi
 |bl a=>
  cases ry
  cases x with
  |non=>cases rx;exact SeqAt.EqAt.bool_none a
  |bl b=>cases rx;exact SeqAt.EqAt.bool_bool a b
  |int b=>obtain⟨t,rfl⟩:=rx;exact SeqAt.EqAt.bool_int a b t
  |str b=>obtain⟨t,rfl⟩:=rx;exact SeqAt.EqAt.bool_str a b t
  |_=>exact absurd (show false=true from fx) zi
 |int a=>
  obtain⟨t',rfl⟩:=ry;cases x with
  |non=>cases rx;exact SeqAt.EqAt.int_none a t'
  |bl b=>cases rx;exact SeqAt.EqAt.int_bool a t' b
  |int b=>obtain⟨t,rfl⟩:=rx;exact SeqAt.EqAt.int_int a t' b t
  |str b=>obtain⟨t,rfl⟩:=rx;exact SeqAt.EqAt.int_str a t' b t
  |_=>exact absurd (show false=true from fx) zi
 |str a=>
  obtain⟨t',rfl⟩:=ry;cases x with
  |non=>cases rx;exact SeqAt.EqAt.str_none a t'
  |bl b=>cases rx;exact SeqAt.EqAt.str_bool a t' b
  |int b=>obtain⟨t,rfl⟩:=rx;exact SeqAt.EqAt.str_int a t' b t
  |str b=>obtain⟨t,rfl⟩:=rx;exact SeqAt.EqAt.str_str a t' b t
  |_=>exact absurd (show false=true from fx) zi
 |_=>exact absurd (show false=true from fy) zi
def eqU(x:V)(u:Value):Bool:=match u with
 |.none=>eqV .non x
 |.bool b=>eqV (.bl b) x
 |.int i _=>eqV (.int i) x
 |.str z _=>eqV (.str z) x
 |_=>false
theorem DZ{x:V}(r:RelV y u)(f:qF y=true):eqU x u=eqV y x:=by
 cases y with
 |non=>cases r;rfl
 |bl b=>cases r;rfl
 |int i=>obtain⟨t,rfl⟩:=r;rfl
 |str z=>obtain⟨t,rfl⟩:=r;rfl
 |_=>exact absurd (show false=true from f) zi
theorem mU{x:V}:∀{xs:List V}{us:List Value},aJ xs us->xs.all qF=true->us.any (eqU x)=xs.any λy=>eqV y x
 |_,_,.nil,_=>rfl
 |y::xs,u::us,.cons r t,f=>by
  rw[QL,z0]at f;rw[Q7,Q7,DZ r f.1,mU t f.2]
theorem jK{A:Around}{s:Shared}{x:V}{v:Value}(rx:RelV x v)(fx:qF x=true):∀{xs:List V}{us:List Value},aJ xs us->xs.all qF=true->∀u∈us,SeqAt.EqAt A s u v (eqU x u)
 |_,_,.nil,_=>λu hu=>by cases hu
 |y::xs,u::us,.cons r t,f=>λu' hu=>by
  rw[QL,z0]at f;rcases zq.mp hu with rfl|hu
  ·rw[DZ r f.1];exact Jv r rx f.1 fx
  ·exact jK rx fx t f.2 u' hu
def inV(x:V)(xs:List V):Bool:=xs.any λy=>eqV y x
def rIn(K:yz)(neg:Bool):R2:=λx y H Q=>∃p xs,y=.ref p/\(SqL K H p xs\/SqT K H p xs)/\qF x=true/\xs.all qF=true/\Q (.bl (if neg then !inV x xs else inV x xs)) H
theorem CG:OpR X (z8 .In) (rIn X.K false):=by
 intro pins s σ H x y v u Q I rx ry h;obtain⟨p,xs,rfl,hq,fx,fs,q⟩:=h;cases ry
 rcases hq with hq|hq
 ·obtain⟨its,r,pl,hz⟩:=I.list hq;refine SeqAt.in_listAt (eqU x) pl.isList (λw hw=>jK rx fx r fs w (by simpa using hw)) ⟨.bl _,H,I,rfl,?_⟩
  rw[show its.toArray.any (eqU x)=its.any (eqU x) by simp,mU r fs];exact q
 ·obtain⟨its,r,pl,hz⟩:=I.tuple hq;refine SeqAt.in_tupleAt (eqU x) pl (λw hw=>jK rx fx r fs w (by simpa using hw)) ⟨.bl _,H,I,rfl,?_⟩
  rw[show its.toArray.any (eqU x)=its.any (eqU x) by simp,mU r fs];exact q
theorem wV:OpR X (z8 .NotIn) (rIn X.K true):=by
 intro pins s σ H x y v u Q I rx ry h;obtain⟨p,xs,rfl,hq,fx,fs,q⟩:=h;cases ry
 rcases hq with hq|hq
 ·obtain⟨its,r,pl,hz⟩:=I.list hq;refine SeqAt.notIn_listAt (eqU x) pl.isList (λw hw=>jK rx fx r fs w (by simpa using hw)) ⟨.bl _,H,I,rfl,?_⟩
  rw[show its.toArray.any (eqU x)=its.any (eqU x) by simp,mU r fs];exact q
 ·obtain⟨its,r,pl,hz⟩:=I.tuple hq;refine SeqAt.notIn_tupleAt (eqU x) pl (λw hw=>jK rx fx r fs w (by simpa using hw)) ⟨.bl _,H,I,rfl,?_⟩
  rw[show its.toArray.any (eqU x)=its.any (eqU x) by simp,mU r fs];exact q
theorem wW:bT X (.builtin "len") (λxs H Q=>∃p ys,xs=[.ref p]/\(SqL X.K H p ys\/SqT X.K H p ys)/\Q (.int ys.length) H):=by
 intro pins s σ H xs us Q I r h;obtain⟨p,ys,rfl,hq,q⟩:=h;obtain⟨u,rfl,rx⟩:=vals1 r;cases rx
 have hn:=kX;rcases hq with hq|hq
 ·obtain⟨its,r',pl,hz⟩:=I.list hq;have hlen:=r'.length;exact Calls.call_len_list pl.isList (by simp only[ze] <;> omega) ⟨.int ys.length,H,I.tok _,⟨s.toks+1,by rw[ze,hlen]⟩,q⟩
 ·obtain⟨its,r',pl,hz⟩:=I.tuple hq;have hlen:=r'.length;exact len_tuple pl (by simp only[ze] <;> omega) ⟨.int ys.length,H,I.tok _,⟨s.toks+1,by rw[ze,hlen]⟩,q⟩
theorem bT.or{f:Value}{r r':List V->Hp->VK->Prop}(h:bT X f r)(h':bT X f r'):bT X f (λxs H Q=>r xs H Q\/r' xs H Q):=by
 intro pins s σ H xs us Q I rs q;rcases q with q|q
 ·exact h pins s σ H xs us Q I rs q
 ·exact h' pins s σ H xs us Q I rs q
theorem wX:bT X (.type "list") (λxs H Q=>∃p ys,xs=[.ref p]/\(SqL X.K H p ys\/SqT X.K H p ys)/\∀l,H l=none->Q (.ref l) (upd H l (.lst ys))):=by
 intro pins s σ H xs us Q I r h;obtain⟨p,ys,rfl,hq,q⟩:=h;obtain⟨u,rfl,rx⟩:=vals1 r;cases rx
 have fin:∀(its:List Value),aJ ys its->ys.length<=zk->∀(h':Heap)(c':Nat),(∀b o',s.heap.get? b=some o'->h'.get? b=some o')->
   h'.get? s.heap.objs.size=some { cls:=.type "list",dict:=none,data:=.seq its.toArray c',slots:=#[] }->EP X pins σ Q (.ref s.heap.objs.size) { s with heap:=h' }:=λits r' hz h' c' kp e=>
  ⟨.ref s.heap.objs.size,_,I.laid (t':=s.toks) kp (zb _) (show bH X.prog X.w _ h' _ (.lst ys) from⟨hz,its,c',r',e⟩),rfl,q _ (I.hok.fresh (zb _))⟩
 rcases hq with hq|hq
 ·obtain⟨its,r',pl,hz⟩:=I.list hq;have hlen:=r'.length;obtain⟨o,ho,hc,n,hd⟩:=pl.isList;exact call_list_seq p (.inl rfl) ho hc hd (λh' c' kp e=>fin its r' hz h' c' kp e) (by simp only[ze] <;> omega)
 ·obtain⟨its,r',pl,hz⟩:=I.tuple hq;have hlen:=r'.length;obtain⟨o,ho,hc,n,hd⟩:=pl;exact call_list_seq p (.inr rfl) ho hc hd (λh' c' kp e=>fin its r' hz h' c' kp e) (by simp only[ze] <;> omega)
theorem uM:bT X (.type "tuple") (λxs H Q=>∃p ys,xs=[.ref p]/\((SqL X.K H p ys/\∀l,H l=none->Q (.ref l) (upd H l (.tup ys)))\/(SqT X.K H p ys/\Q (.ref p) H))):=by
 intro pins s σ H xs us Q I r h;obtain⟨p,ys,rfl,h⟩:=h;obtain⟨u,rfl,rx⟩:=vals1 r;cases rx
 rcases h with⟨hq,q⟩|⟨hq,q⟩
 ·obtain⟨its,r',pl,hz⟩:=I.list hq;have hlen:=r'.length;refine call_tuple_list pl.isList (λh' kp=>?_) (by simp only[ze] <;> omega);have I1:Inv X pins σ H { s with heap:=h' }:=I.kept (t':=s.toks) kp;have I2:Inv X pins σ (upd H h'.objs.size (.tup ys)) { s with heap:=h'.push { cls:=.type "tuple",data:=.seq its.toArray } }:=
   I1.laid (t':=s.toks) (λb o e=>y0 _ e) (zb _) (show bH X.prog X.w _ _ _ (.tup ys) from⟨hz,its,r',oQ.new _ _⟩)
  exact⟨.ref h'.objs.size,_,I2,rfl,q _ (I1.hok.fresh (zb _))⟩
 ·obtain⟨its,r',pl,hz⟩:=I.tuple hq;exact call_tuple_same pl ⟨.ref p,H,I,rfl,q⟩
def tyV(K:yz)(T:String)(x:V)(H:Hp):Prop:=match x with
 |.str _=>T="str"
 |.int _=>T="int"
 | .ref p=>(T="list" /\ ∃ xs,SqL K H p xs)\/(T="tuple" /\ ∃ o,K.lookup p=some o/\o.cls=.type "tuple" /\ o.dict=none)\/
   (T="dict" /\ ((∃kvs,H p=some (.dK kvs))\/∃kvs,H p=some (.dT kvs)))\/(T="set" /\ ∃S n,H p=some (.set S n))
 |_=>False
theorem E1{x:V}{v:Value}(I:Inv X pins σ H s)(r:RelV x v)(ty:tyV X.K T x H):
  s.TypeIs v T/\∀a,v=.ref a->∃ob,s.heap.get? a=some ob/\ob.dict=none:=by
 cases x with
 |str z=>
  obtain⟨t,rfl⟩:=r;cases(show T="str" from ty)
  exact⟨typeIs_str s z t,λ_ e=>nomatch e⟩
 |int i=>
  obtain⟨t,rfl⟩:=r;cases(show T="int" from ty)
  exact⟨typeIs_int s i t,λ_ e=>nomatch e⟩
 |ref p=>
  cases r
  rcases ty with⟨rfl,xs,hq⟩|⟨rfl,o,hk,hc,hd⟩|⟨rfl,hk⟩|⟨rfl,S,n,hk⟩
  ·obtain⟨its,_,pl,_⟩:=I.list hq;refine⟨pl.isList.typeIs,λa e=>?_⟩;cases e
   obtain⟨o,n,e,c,hd,_⟩:=pl;exact⟨o,e,hd⟩
  ·refine⟨⟨o,I.kIn p o hk,hc⟩,λa e=>?_⟩;cases e
   exact⟨o,I.kIn _ o hk,hd⟩
  ·have z:∃o,s.heap.get? p=some o/\o.ExactDict:=by
    rcases hk with⟨kvs,hk⟩|⟨kvs,hk⟩
    ·obtain⟨_,_,_,_,o,_,_,e,ex,_⟩:=I.hok p _ hk;exact⟨o,e,ex⟩
    ·obtain⟨_,_,_,_,o,_,_,e,ex,_⟩:=I.hok p _ hk;exact⟨o,e,ex⟩
   obtain⟨o,e,ex⟩:=z;refine⟨⟨o,e,ex.1⟩,λa e2=>?_⟩;cases e2
   exact⟨o,e,ex.2.1⟩
  ·obtain⟨o,_,_,_,e,ex,_⟩:=I.hok p _ hk;refine⟨⟨o,e,ex.1⟩,λa e2=>?_⟩;cases e2
   exact⟨o,e,ex.2.1⟩
 |_=>exact Qi ty
def O4(K:yz)(T:String)(r:V->List V->Hp->VK->Prop)(to:TE):TE:=λσ H Q=>to σ H λx H1=>tyV K T x H1/\r x [] H1 Q
def tBM(K:yz)(T:String)(r:V->List V->Hp->VK->Prop)(to:TE)(t:TA):TE:=λσ H Q=>to σ H λx H1=>tyV K T x H1/\t σ H1 λxs H2=>r x xs H2 Q
variable{o:Expr}{t:TA}{id:String}{r:V->List V->Hp->VK->Prop}
theorem Jw(pa:PlainAttrs T)(slot:Slot T name id)(dq:typeOf (.builtin id)=pure (.type "method_descriptor"))(hm:MtR X id r)(ho:PE X o to)
  (aq:QJ o name X.env (eval o X.env)=eval o X.env:=by rfl) (ao:(apos.endLine == af.line)=true:=by rfl):PE X (.Call (.Attribute o name apos) [] [] af) (O4 X.K T r to):=by
 intro pins s σ H Q I h;refine wpAny_Call_method0_late aq ao (thn (ho pins s σ H _ I h) λv s1 hz=>?_);obtain⟨x,H1,I1,r1,ty,q1⟩:=hz;obtain⟨h1,h2⟩:=E1 I1 r1 ty;exact⟨T,id,pa,slot,dq,h1,h2,Rg rfl (PySem.evalArgs_none (hm pins s1 σ H1 x [] v [] Q I1 r1 .nil q1))⟩
theorem Lw(pa:PlainAttrs T)(slot:Slot T name id)(dq:typeOf (.builtin id)=pure (.type "method_descriptor"))(hm:MtR X id r)(ho:PE X o to)(ha:PA X (e::es) t)
  (aq:QJ o name X.env (eval o X.env)=eval o X.env:=by rfl)
  (dn:((backTo af (zx (e::es) X.env)).all (λx=>!x.1)&&(backToKw af (keywordEach [] X.env)).all (λx=>x.1.isSome)
   && decide ((e::es).length+([]:List Keyword).length+(if([]:List Keyword).isEmpty then 0 else 1)<30))=true:=by rfl)
  (ao:(apos.endLine == af.line)=true:=by rfl) (hs:zx (e::es) X.env=(false,eval e X.env)::zx es X.env:=by rfl) (bo:(backTo af (zx es X.env)).any (·.1)=false:=by rfl):
  PE X (.Call (.Attribute o name apos) (e::es) [] af) (tBM X.K T r to t):=by
 intro pins s σ H Q I h;refine wpAny_Call_method_late aq dn ao rfl (thn (ho pins s σ H _ I h) λv s1 hz=>?_);obtain⟨x,H1,I1,r1,ty,q1⟩:=hz;obtain⟨h1,h2⟩:=E1 I1 r1 ty;refine⟨T,id,pa,slot,dq,h1,h2,?_⟩;have hA:=ha af pins s1 σ H1 _ I1 q1;rw[hs]at hA⊢;refine Rg (by show(false || (backTo af (zx es X.env)).any (·.1))=false;rw[bo] <;> rfl) (Calls.evalArgs_plain ?_);exact thn hA λus s2 ⟨vs,H2,I2,r2,q2⟩=>hm pins s2 σ H2 x vs v us Q I2 r1 r2 q2
end
def MtM(X:Cx)(id:String)(r:V->List V->Hp->VK->Prop):Prop:=
 ∀(pins:List (Addr×Obj))(s:Shared)(σ:St)(H:Hp)(x:V)(xs:List V)(v:Value)(us:List Value)(Q:VK),Inv X pins σ H s->RelV x v->aJ xs us->r x xs H Q->
  wpAny (model X.prog X.w) X.A (call (.builtin id) (v::us)) (EP X pins σ Q) X.xe s
theorem aJ.one:∀{x:V}{us:List Value},aJ [x] us->∃u,us=[u]/\RelV x u
 |_,_,.cons r .nil=>⟨_,rfl,r⟩
theorem aJ.zero:∀{us:List Value},aJ [] us->us=[]
 |_,.nil=>rfl
variable{t':Nat}
section
variable{l b:Addr}{xs ys zs:List V}
theorem Inv.lset{f:Array Value->Array Value}(I:Inv X pins σ H s)(hH:H l=some (.lst xs))(e:s.heap.get? l=some { cls:=.type "list",data:=.seq its.toArray n })(hf:f its.toArray=its'.toArray)(hv:aJ ys its')(hz:ys.length<=zk):
  Inv X pins σ (upd H l (.lst ys)) { s with heap:=s.heap.update l (Pd f),toks:=t' }:=by
 have q:=PySem.IsL.update e f;rw[hf]at q;refine I.write (x:=l) (e:=l) (by rw[hH];exact trivial) (.inl rfl) (λb' u hb hu=>(Heap.get?_update_other s.heap (Pd f) (PY hb)).trans hu) ⟨_,q⟩ ?_;exact⟨hz,its',_,hv,q⟩
theorem Inv.lnew(I:Inv X pins σ H s)(hv:aJ ys its)(hz:ys.length<=zk):
  Inv X pins σ (upd H s.heap.objs.size (.lst ys)) { s with heap:=s.heap.push { cls:=.type "list",data:=.seq its.toArray },toks:=t' }:=
 I.laid (λ_ _ q=>y0 _ q) (zb _) ⟨hz,its,0,hv,zj _ rfl⟩
theorem Inv.fresh(I:Inv X pins σ H s):H s.heap.objs.size=none:=I.hok.fresh (zb _)
theorem Inv.lstM(I:Inv X pins σ H s)(hH:H l=some (.lst xs)):xs.length<=zk/\∃(its:List Value)(n:Nat),aJ xs its/\xs.length=its.length/\s.heap.get? l=some { cls:=.type "list",data:=.seq its.toArray n }:=by
 obtain⟨z,its,n,r,e⟩:=I.hok l _ hH;exact⟨z,its,n,r,r.length,e⟩
end
def BN:V->List V->Hp->VK->Prop:=λx vs H Q=>∃l xs y,x=.ref l/\vs=[y]/\H l=some (.lst xs)/\xs.length<zk/\Q .non (upd H l (.lst (xs++[y])))
theorem uU:MtM X "list.append" BN:=by
 intro pins s σ H x vs v us Q I rx rv h;obtain⟨l,xs,y,rfl,rfl,hH,hz,q⟩:=h;cases rx
 obtain⟨u,rfl,ru⟩:=rv.one;obtain⟨z,its,n,r,hl,e⟩:=I.lstM hH;refine call_meets F.slot_list_append ⟨_,e,rfl⟩ F.entry_list_append (F.args_list_append_2 _ _) (PySem.list_append l its.toArray n u (by rw[ze];omega)) ⟨e,?_⟩;refine⟨.non,_,I.lset (its':=its++[u]) hH e (by simp) (r.append (.cons ru .nil)) ?_,rfl,q⟩;rw[PP,List.length_singleton];omega
def E2:V->List V->Hp->VK->Prop:=λx vs H Q=>∃l xs,x=.ref l/\vs=[]/\H l=some (.lst xs)/\Q .non (upd H l (.lst []))
theorem E3:MtM X "list.clear" E2:=by
 intro pins s σ H x vs v us Q I rx rv h;obtain⟨l,xs,rfl,rfl,hH,q⟩:=h;cases rx
 have yc:=rv.zero;subst yc;obtain⟨z,its,n,r,hl,e⟩:=I.lstM hH;refine call_meets F.slot_list_clear ⟨_,e,rfl⟩ F.entry_list_clear (F.args_list_clear_1 _) (AutoSeq1.list_clear_list_0 l its.toArray n (by rw[ze];omega)) ⟨e,?_⟩;exact⟨.non,_,I.lset (its':=[]) (ys:=[]) hH e rfl .nil (zz _),rfl,q⟩
def Lx:R2:=λx y H Q=>∃l b xs zs,x=.ref l/\y=.ref b/\H l=some (.lst xs)/\H b=some (.lst zs)/\xs.length+zs.length<=zk/\∀p,H p=none->Q (.ref p) (upd H p (.lst (xs++zs)))
theorem Jx:OpR X (PK .Add) Lx:=by
 intro pins s σ H x y v u Q I rx ry h;obtain⟨l,b,xs,zs,rfl,rfl,hH,hB,hz,q⟩:=h;cases rx
 cases ry
 obtain⟨z,its,n,r,hl,e⟩:=I.lstM hH;obtain⟨z2,bw,n2,r2,ph,e2⟩:=I.lstM hB;refine PySem.P.add_list e e2 ?_ (by rw[ze,ze];omega);have ea:its.toArray++bw.toArray=(its++bw).toArray:=by simp
 rw[ea];exact⟨.ref _,_,I.lnew (t':=s.toks) (r.append r2) (by rw[PP];omega),rfl,q _ I.fresh⟩
end L2
namespace Att
open PySem PySem.W PySem.Calls PyProof.Rows
variable{P:Params}{h:Heap}
theorem qS:∀(ns:List Int)(vs:List Value),WellAll P h vs (ns.map WData.int)->IntsAre vs ns:=by
 intro ns
 induction ns with
 |nil=>
  intro vs w;rw[List.map_nil]at w;cases w
  exact .nil
 |cons n ns ih=>
  intro vs w;rw[zt]at w;cases w with
  |cons a b=>
   cases a
   exact .cons _ _ (ih _ b)
variable{args:List WData}{l:OpenLaw}{n:Nat}{vals:List Value}
theorem CH(hn:l.most=some n)(ig:l.row.toRowW.claim.pre args=true)(p7:WellAll P h vals args):
  ∃a vs ns,vals=[Pf a]/\args=[WData.list (ns.map WData.int)]/\h.get? a=some { cls:=.type "list",data:=.seq vs.toArray }/\IntsAre vs ns/\ns.length<=n:=by
 have hsh:WShape.hasAll [] args [.list .int]=true:=(pre_splitW ig).1;have hc:l.pre.holds [] { args:=args }=true:=(pre_splitW ig).2;obtain⟨d,r,rfl,h1,h2⟩:=hasAllW_cons hsh;obtain rfl:=hasAllW_nil h2;obtain⟨xs,rfl,h3⟩:=hasW_list h1;obtain⟨ns,rfl⟩:=items_int h3;have hlen:ns.length<=n:=by
  unfold OpenLaw.pre at hc;have h4:(WTm.not (.lt (.lit (.int (n:Int))) (.len (.arg 0)))).holds [] { args:=[.list (ns.map .int)] }=true:=by
   have h4:=(holds_andW hc).1;rw[hn]at h4;exact h4
  have h5:=condW_of h4 (w_not (w_lt w_lit (w_len_list (w_arg rfl))));rw[za]at h5;refine Nat.le_of_not_lt λq=>?_;have q':(n:Int)<((ns.length:Nat):Int):=by omega
  first
   |(rw[decide_eq_true q']at h5;exact absurd h5 (by decide))
   |(simp at h5;omega)
 cases p7 with
 |cons w1 w2=>
  cases w2
  cases w1 with
  |list ho hall=>exact⟨_,_,ns,rfl,rfl,ho,qS ns _ hall,hlen⟩
theorem CJ(l:OpenLaw)(args:List WData):l.row.toRowW.claim.post args (.bool true) args=true:=
 postW_of (r:=l.row.toRowW) (X:=(true == true))
  (show WShape.has [] (.bool true) .bool=true by first|rfl|decide|simp[WShape.has,WShape.arms,WShape.armsAll])
  (show(WTm.eq .res (.lit (.bool true))).value [] { args:=args,res:=some (.bool true),after:=args }=some (.bool (true == true)) from w_eq_bool (w_res rfl) w_lit) rfl
variable{XP:(Str->Option Value)->Heap->Prop}{YP:World->Heap->Prop}{loose:List Str}
theorem attach_call{q:Program}{d:DefRec}(hn:l.most=some n)(ly:d.params.defaults=[])(call:∀(w:World)(s₀ s₁:Shared)(mg mb:Str->Option Value)(fa:Addr)(o:Obj)(pm cd doc:Value)(a:Addr)(vs:List Value)(ns:List Int),
   Ground q loose [] XP w s₀ mg mb s₁.heap->YP w s₁.heap->
   s₁.heap.get? fa=some o->o.data=.func (docDef d.name d.params d.body d.scope pm cd doc)->s₁.heap.CodeRec cd d.name->mg d.name=some (.ref fa)->
   s₁.heap.get? a=some { cls:=.type "list",data:=.seq vs.toArray }->IntsAre vs ns->ns.length<=n->s₁.gens=#[]->
   codeAny (model l.prog w) callerA (.call (.ref fa) ⟨[.ref a],[]⟩) (λr s'=>r=.ok (.ret (.bool true))/\OldK s₁.heap s'.heap/\s'.os=s₁.os/\AllBare s'.gens) s₁):
  WalkO q loose XP YP l.row.toRowW d [] (λf vs=>PySem.call f vs):=by
 intro w s₀ s₁ mg mb G Y fa o pm cd doc dV kV ho hd d9 hD hmg hg args vals as ig hlay hrd p7 hlo;obtain rfl:dV=.none:=Dflts.none hD ly;obtain rfl:kV=.none:=Dflts.noKw hD;obtain⟨a,vs,ns,rfl,rfl,ju,hints,hlen⟩:=CH hn ig p7;refine enter_call (codeAny_mono (call w s₀ s₁ mg mb fa o pm cd doc a vs ns G Y ho (fd_plain hd) d9 hmg ju hints hlen hg) λr s' hq=>?_);obtain⟨rfl,h2,h3,h4⟩:=hq;exact⟨.inl ⟨.bool true,.bool true,[],rfl,λ_=>rfl,.bool true,CJ l _,λ_=>⟨List.Pairwise.nil,λ_ hm=>(nomatch hm)⟩⟩,h2,h3,h4⟩
end Att
namespace L2
open PySem PySem.Spec PyProof.Rows
theorem uV:∀{vs:List Value}{ns:List Int},IntsAre vs ns->aJ (ns.map V.int) vs
 |_,_,.nil=>.nil
 |_,_,.cons n t h=>.cons ⟨t,rfl⟩ (uV h)
def E4(H:Hp):Prop:=∀b,H b=none\/∃o xs,H b=some (.frz o (.lst xs))
variable{CX:CXT}{K:yz}{P:Program}{a:Addr}{fd:Qe}{mg:Str->Option Value}{ns:List Int}{sp:Sp}{s₁:Shared}{w:World}{x:Str}
theorem E5{mb:Str->Option Value}{k:Nat}{fa:Addr}{vs:List Value}(KX:K.In s₁.heap)(uw:s₁.heap.Ns PM mg)(hb:s₁.heap.Ns builtinsNs mb)(jg:∀x:Str,x≠"__name__" -> mb x=Q3 x)(qo:s₁.heap.NoLimit)(hg:s₁.gens=#[])(ha:s₁.heap.get? a=some { cls:=.type "list",data:=.seq vs.toArray })(hi:IntsAre vs ns)(hl:ns.length<=zk)(hr:dZ k callerA)(F:∀base:Heap,K.In base->base.Ns PM mg->cD P w K mg base CX k fa fd [x] sp)(m6:∀(s:Shared)(u:Value),BindsTo s fd ⟨[u],[]⟩ [(x,u)])(ip:∀H:Hp,E4 H->SqL K H a (ns.map V.int)->sp [.ref a] H (λv _=>v=.bl true) λ_ _ _=>False)(pe:∀H e s',CX [] H s₁ (λ_ _ _=>False) e s'->False):
  codeAny (model P w) callerA (.call (.ref fa) ⟨[.ref a],[]⟩) (λr s'=>r=.ok (.ret (.bool true))/\OldK s₁.heap s'.heap/\s'.os=s₁.os/\AllBare s'.gens) s₁:=by
 have rv:=uV hi;have qp:=hi.length
 -- from an abstract heap in which nothing but the script may be tracked
 have core:∀H:Hp,E4 H->SqL K H a (ns.map V.int)->HOk P w H s₁.heap->(∀b,H b≠none->b=a)->(H a≠none->K.lookup a=none)->
   codeAny (model P w) callerA (.call (.ref fa) ⟨[.ref a],[]⟩) (λr s'=>r=.ok (.ret (.bool true))/\OldK s₁.heap s'.heap/\s'.os=s₁.os/\AllBare s'.gens) s₁:=by
  intro H hO hS hok hA hK;have c7:∀{b:Addr}{o:Obj},s₁.heap.get? b=some o->H b=none->(wO s₁.heap H).get? b=some o:=λe n=>DC e n;have kz:∀{b:Addr}{o:Obj}{es:Array Ra}{ep:Nat},s₁.heap.get? b=some o->o.data=.dict es ep->H b=none:=λ{b o es ep} e d=>by
   cases q:H b with
   |none=>rfl
   |some u=>
    have e':b=a:=hA b (by rw[q];simp);subst e';rw[ha]at e;cases e;have d':Data.seq vs.toArray _=Data.dict es ep:=d;cases d'
  have o8:∀{b:Addr}{m:Str->Option Value},s₁.heap.Ns b m->(wO s₁.heap H).Ns b m:=λ{b m} ⟨o,es,ep,e,d,r⟩=>⟨o,es,ep,c7 e (kz e d),d,r⟩;have sx:K.In (wO s₁.heap H):=λb o e=>c7 (KX b o e) (by
   cases q:H b with
   |none=>rfl
   |some u=>
    have e':b=a:=hA b (by rw[q];simp);subst e';rw[hK (by rw[q];simp)]at e;cases e)
  have hM:Mod K mg (wO s₁.heap H):=⟨sx,o8 uw,⟨mb,o8 hb,jg⟩,let ⟨mc,h1,h2⟩:=qo;⟨mc,o8 h1,h2⟩⟩;have e0:uJ P w K mg (wO s₁.heap H) callerA [] s₁ H:=⟨rfl,hM,λb o e=>Gc e,Nat.le_of_eq (Ct _ _),trivial,λb hb=>absurd (show b∈([]:List Addr) from hb) (by simp),hok,.of_eq hg⟩
  refine codeAny_mono ((F _ sx (o8 uw)).run callerA [] s₁ H ⟨[.ref a],[]⟩ [.ref a] [.ref a] _ _ hr e0 (m6 s₁ (.ref a)) (.cons rfl .nil) (ip H hO hS)) λr s' h=>?_;cases r with
  |error e=>exact(pe H e s' h).elim
  |ok fl=>
   cases fl with
   |next=>exact Qi h
   |brk=>exact Qi h
   |cont=>exact Qi h
   |ret u=>
    obtain⟨v,H',os,bare,un,qi,r',q⟩:=h;have q':v=.bl true:=q;subst q';obtain rfl:u=Value.bool true:=r';refine⟨rfl,OldK.of_keep λb o e=>?_,os,bare⟩;cases q:H b with
    |none=>exact un.keep b o e q (by intro z;exact absurd (show b∈([]:List Addr) from z) (by simp)) (by simp)
    |some u=>
     rcases hO b with z|⟨ob,xs,z⟩
     ·rw[q]at z;cases z
     ·have z2:=un.frzs b ob _ z;obtain⟨e1,_⟩:=hok b _ z;obtain⟨e2,_⟩:=qi b _ z2;rw[e]at e1;cases e1;exact e2
 cases hk:K.lookup a with
 |some o=>
  -- the script is one of the module's own objects
  have e:=KX a o hk;rw[ha]at e;cases e
  refine core (λ_=>none) (λ_=>.inl rfl) (.inr ⟨_,vs.toArray,_,hk,rfl,rfl,rfl,by rw[ze,qp];exact hl,by simpa using rv⟩) (λb u z=>by have z':(none:Option HO)=some u:=z;cases z') (λb z=>absurd rfl z) λz=>absurd rfl z
 |none=>
  refine core (λb=>if b=a then some (.frz { cls:=.type "list",data:=.seq vs.toArray } (.lst (ns.map V.int))) else none) (λb=>?_) (.inl (.inr ⟨{ cls:=.type "list",data:=.seq vs.toArray },if_pos rfl⟩)) (λb u z=>?_) (λb z=>?_) λ_=>hk
  ·by_cases hb:b=a
   ·exact .inr ⟨_,_,if_pos hb⟩
   ·exact .inl (if_neg hb)
  ·by_cases hb:b=a
   ·have z':=(if_pos hb).symm.trans z;cases z'
    subst hb;exact⟨ha,by rw[za];exact hl,vs,_,rv,ha⟩
   ·have z':=(if_neg hb).symm.trans z;cases z'
  ·by_cases hb:b=a
   ·exact hb
   ·exact absurd (if_neg hb) z
variable{XP:(Str->Option Value)->Heap->Prop}{YP:World->Heap->Prop}{l:PySem.W.OpenLaw}{loose:List Str}{n:Nat}
theorem walk_of{k:Nat}{q:Program}{d:DefRec}{K:Params->yz}{CX:World->CXT}{sp:World->Sp}(hn:l.most=some n)(oa:n<=zk)(ly:d.params.defaults=[])(hr:dZ k callerA)(hY:∀(w:World)(h:Heap),YP w h->(K w.params).In h)(F:∀(w:World)(mg:Str->Option Value)(fa:Addr)(h:Heap),(K w.params).In h->h.Ns PM mg->mg d.name=some (.ref fa)->
   ∃fd:Qe,(∀(s:Shared)(u:Value),BindsTo s fd ⟨[u],[]⟩ [(x,u)])/\
    ∀base:Heap,(K w.params).In base->base.Ns PM mg->cD l.prog w (K w.params) mg base (CX w) k fa fd [x] (sp w))(ip:∀(w:World)(H:Hp)(a:Addr)(ns:List Int),ns.length<=n->E4 H->SqL (K w.params) H a (ns.map V.int)->sp w [.ref a] H (λv _=>v=.bl true) λ_ _ _=>False)(pe:∀(w:World)(H:Hp)(s:Shared)(e:Value)(s':Shared),CX w [] H s (λ_ _ _=>False) e s'->False):
  PySem.W.WalkO q loose XP YP l.row.toRowW d [] (λf vs=>PySem.call f vs):=by
 refine Att.attach_call hn ly λw s₀ s₁ mg mb fa o pm cd doc a vs ns G Y ho hd d9 hmg ju hints hlen hg=>?_;have KX:=hY w _ Y;obtain⟨fd,hb,hF⟩:=F w mg fa _ KX G.T.g hmg;exact E5 KX G.T.g G.T.b G.T.builtins G.T.nolimit hg ju hints (Ph hlen oa) hr hF hb (λH hO hS=>ip w H a ns hlen hO hS) λH e s'=>pe w H s₁ e s'
def inClass(s:Stmt)(j:Nat):Stmt:=match s with
 |.ClassDef _ _ _ body _ _ _ _ _ _ _=>body.getD j (.Pass ⟨0,0,0,0⟩)
 |_=>.Pass ⟨0,0,0,0⟩
def eB(s:Stmt):Arguments:=match s with
 |.FunctionDef _ a _ _ _ _ _ _ _ _=>a
 |_=>{ posonlyargs:=[],args:=[],vararg:=none,kwonlyargs:=[],kw_defaults:=[],kwarg:=none,defaults:=[] }
def bU(s:Stmt):List Stmt:=match s with
 |.FunctionDef _ _ b _ _ _ _ _ _ _=>b
 |_=>[]
def aQ(s:Stmt):Scope:=match s with
 |.FunctionDef _ _ _ _ _ _ sc _ _ _=>sc
 |_=>{ kind:=.function,names:=[],isGenerator:=false,isCoroutine:=false }
abbrev CX0:CXT:=λ_ _ _ _ _ _=>False
abbrev E0:XK:=λ_ _ _=>False
variable{X:Cx}
theorem zP:kY CX0 X E0:=λ_ _ _ _ _ _ _ h=>h.elim
structure Fun(K:yz)(x qual:Str)(st:Stmt)(f:Addr)(fd:Qe):Prop where
 ex:∃(oc:Value)(od:Option Addr)(kV doc pm:Value)(an:Option Addr)(cdv ct:Value)(osl:Array (Option Value)),
  fd=Qd x qual (eB st) (bU st) (aQ st) .none kV doc pm an cdv ct/\K.lookup f=some ⟨oc,od,.func fd,osl⟩/\RW K cdv qual=true
 kp:Qo K (.ref f)=true
variable{N ps:List Str}{base:Heap}{qual:Str}{st:Stmt}
theorem Fun.ok{f:Addr}{k:Nat}(F:Fun K x qual st f fd)(S:mT N ps (aQ st))(len:∀vs H Q E,sp vs H Q E->vs.length=ps.length)(e8:∀(cdv:Value)(A:Around)(outer:List Env)(s:Shared)(H:Hp)(vs:List V)(Q:VK)(E:XK),dZ k (A.deeper (envOfC qual (aQ st) s.heap.objs.size f cdv))->sp vs H Q E->
   ∃t,PSs (uK CX0 P w K mg base N qual (aQ st) f cdv A outer s H E).nox (bU st) t/\t { nx:=λ_ H'=>Q .non H',rt:=Q } (start N vs) H):cD P w K mg base CX0 (k+1) f fd ps sp:=by
 obtain⟨oc,od,kV,doc,pm,an,cdv,ct,osl,rfl,lk,d9⟩:=F.ex;refine Lq lk d9 S len λA outer s H vs Q E hr ip=>?_;obtain⟨t,h,q⟩:=e8 cdv A outer s H vs Q E hr ip;exact⟨t,h.nox,q⟩
theorem Fun.binds{f:Addr}(F:Fun K x qual st f fd)(h:∀(kV doc pm:Value)(an:Option Addr)(cdv ct:Value)(us:List Value),us.length=ps.length->bindArgs (Qd x qual (eB st) (bU st) (aQ st) .none kV doc pm an cdv ct) ⟨us,[]⟩=pure (ps.zip us)):Binds K fd ps []:=by
 obtain⟨oc,od,kV,doc,pm,an,cdv,ct,osl,rfl,lk,d9⟩:=F.ex;exact .all (h kV doc pm an cdv ct)
variable{an od:Option Addr}{cdv ct doc pm:Value}{osl:Array (Option Value)}
theorem AX{f:Addr}{oc:Value}{kV:Value}(l:K.lookup f=some ⟨oc,od,.func (Qd x qual (eB st) (bU st) (aQ st) .none kV doc pm an cdv ct),osl⟩)(c:RW K cdv qual=true)(k:Qo K (.ref f)=true):Fun K x qual st f (Qd x qual (eB st) (bU st) (aQ st) .none kV doc pm an cdv ct):=⟨⟨oc,od,kV,doc,pm,an,cdv,ct,osl,rfl,l,c⟩,k⟩
variable{A:Around}
theorem Ly{k:Nat}(hr:dZ k A):A.units+1<cLine:=Nat.lt_of_le_of_lt (Nat.add_le_add_left (by decide:1<=64) _) hr.units
variable{B:Prop}
theorem AY{A:Prop}(h:B):if false=true then A else B:=by
 rw[if_neg zi];exact h
theorem AZ{A:Prop}(h:A):if true=true then A else B:=by
 rw[if_pos rfl];exact h
def zQ(H H':Hp):Prop:=∀b o,H b=some o->H' b=some o
variable{u:Value}{y:V}
section
variable{κ:Type}[DecidableEq κ]
def jG(kvs:List (κ×V))(k:κ):Option V:=(kvs.find? λkv=>decide (kv.1=k)).map (·.2)
def putK(kvs:List (κ×V))(k:κ)(v:V):List (κ×V):=
 if(kvs.any λkv=>decide (kv.1=k))=true then kvs.map (λkv=>if kv.1=k then(kv.1,v) else kv) else kvs++[(k,v)]
theorem mW{p:κ×V}{r:List (κ×V)}{k:κ}(e:p.1=k):jG (p::r) k=some p.2:=by simp[jG,QD,e]
theorem mX{p:κ×V}{r:List (κ×V)}{k:κ}(e:¬ p.1=k):jG (p::r) k=jG r k:=by simp[jG,QD,e]
theorem rS(k:κ):∀kvs:List (κ×V),(kvs.any λkv=>decide (kv.1=k))=(jG kvs k).isSome
 |[]=>rfl
 |p::r=>by
  rw[Q7]
  by_cases e:p.1=k
  ·simp only[mW e,decide_eq_true e,Bool.true_or,Rj]
  ·rw[mX e,decide_eq_false e,Bool.false_or];exact rS k r
theorem qG(kvs:List (κ×V))(k:κ)(v:V):(putK kvs k v).length<=kvs.length+1:=by
 unfold putK;split
 ·rw[za];omega
 ·rw[PP,Pt,Rl];omega
theorem jF.isSome_eq{o:Option V}{u:Option Value}(r:jF o u):o.isSome=u.isSome:=by
 cases o with
 |none=>cases u with
  |none=>rfl
  |some _=>exact(show False from r).elim
 |some _=>cases u with
  |none=>exact(show False from r).elim
  |some _=>rfl
theorem jF.getD{o:Option V}{u:Option Value}{d:V}{d':Value}(r:jF o u)(rd:RelV d d'):RelV (o.getD d) (u.getD d'):=by
 cases o with
 |none=>cases u with
  |none=>exact rd
  |some _=>exact(show False from r).elim
 |some _=>cases u with
  |none=>exact(show False from r).elim
  |some _=>exact r
theorem KV.val{kvs:List (κ×V)}{vs:List (κ×Value)}(r:KV kvs vs)(k:κ):jF (jG kvs k) (valueAt vs k):=by
 unfold KV at r
 induction r with
 |nil=>exact Qj
 | @cons p q ps qs h t ih=>
  obtain⟨h1,h2⟩:=h
  by_cases e:p.1=k
  ·have e':q.1=k:=h1.symm.trans e;have b:valueAt (q::qs) k=some q.2:=by simp[valueAt,QD,e']
   rw[mW e,b];exact h2
  ·have e':¬ q.1=k:=λz=>e (h1.trans z);have b:valueAt (q::qs) k=valueAt qs k:=by simp[valueAt,QD,e']
   rw[mX e,b];exact ih
theorem KV.any{kvs:List (κ×V)}{vs:List (κ×Value)}(r:KV kvs vs)(k:κ):(kvs.any λkv=>decide (kv.1=k))=vs.any λkv=>decide (kv.1=k):=by
 unfold KV at r
 induction r with
 |nil=>rfl
 |cons h t ih=>rw[Q7,Q7,ih,h.1]
theorem KV.repl{kvs:List (κ×V)}{vs:List (κ×Value)}(r:KV kvs vs)(k:κ)(ry:RelV y u):
  KV (kvs.map λkv=>if kv.1=k then(kv.1,y) else kv) (vs.map λkv=>if kv.1=k then(kv.1,u) else kv):=by
 unfold KV at r⊢
 induction r with
 |nil=>exact .nil
 | @cons p q ps qs h t ih=>
  rw[zt,zt];refine .cons ?_ ih;obtain⟨h1,h2⟩:=h
  by_cases e:p.1=k
  ·rw[if_pos e,if_pos (h1.symm.trans e)];exact⟨h1,ry⟩
  ·rw[if_neg e,if_neg (λz=>e (h1.trans z))];exact⟨h1,h2⟩
theorem KV.put{kvs:List (κ×V)}{vs:List (κ×Value)}(r:KV kvs vs)(k:κ)(ry:RelV y u):KV (putK kvs k y) (stored vs k u):=by
 unfold putK stored;rw[r.any k]
 by_cases e:(vs.any λkv=>decide (kv.1=k))=true
 ·rw[if_pos e,if_pos e];exact r.repl k ry
 ·rw[if_neg e,if_neg e];exact Paired.snoc r ⟨rfl,ry⟩
theorem KV.length{kvs:List (κ×V)}{vs:List (κ×Value)}(r:KV kvs vs):kvs.length=vs.length:=Pw r
end
theorem rT{k:Key}(r:RelV (kV k) u):(bF P w).is k u=true:=by
 cases k with
 |inl i=>obtain⟨t,e⟩:=(show ∃t,u=Value.int i t from r);subst e;exact zE P w i t
 |inr x=>obtain⟨t,e⟩:=(show ∃t,u=Value.str x t from r);subst e;exact zF P w x t
theorem uW{P:Program}{w:World}:∀{ks:List Key}{us:List Value},aJ (ks.map kV) us->ItemsAre (bF P w) ks us
 |[],_,r=>by rw[List.map_nil]at r;cases r;exact .nil
 |k::ks,_,r=>by
  rw[zt]at r;cases r with
  |cons h t=>exact .cons (rT h) (uW t)
abbrev KT(H:Hp):List (List Key×V)->List (List Key×Addr×Value)->Prop:=Paired λp q=>p.1=q.1/\H q.2.1=some (.tup (p.1.map kV))/\RelV p.2 q.2.2
variable{H:Hp}
theorem KT.val{kvs:List (List Key×V)}{xs:List (List Key×Addr×Value)}(r:KT H kvs xs)(k:List Key):jF (jG kvs k) ((atKey xs k).map (·.2)):=by
 induction r with
 |nil=>exact Qj
 | @cons p q ps qs h t ih=>
  obtain⟨h1,_,h2⟩:=h
  by_cases e:p.1=k
  ·have e':q.1=k:=h1.symm.trans e;have b:atKey (q::qs) k=some q.2:=by simp[atKey,QD,e']
   rw[mW e,b];exact h2
  ·have e':¬ q.1=k:=λz=>e (h1.trans z);have b:atKey (q::qs) k=atKey qs k:=by simp[atKey,QD,e']
   rw[mX e,b];exact ih
theorem KT.repl{kvs:List (List Key×V)}{xs:List (List Key×Addr×Value)}(r:KT H kvs xs)(k:List Key)(ry:RelV y u):
  KT H (kvs.map λkv=>if kv.1=k then(kv.1,y) else kv) (xs.map (putAt k u)):=by
 induction r with
 |nil=>exact .nil
 | @cons p q ps qs h t ih=>
  rw[zt,zt];refine .cons ?_ ih;obtain⟨h1,h2,h3⟩:=h;unfold putAt
  by_cases e:p.1=k
  ·rw[if_pos e,if_pos (h1.symm.trans e)];exact⟨h1,h2,ry⟩
  ·rw[if_neg e,if_neg (λz=>e (h1.trans z))];exact⟨h1,h2,h3⟩
theorem KT.put{kvs:List (List Key×V)}{xs:List (List Key×Addr×Value)}(r:KT H kvs xs)(k:List Key){b:Addr}(hb:H b=some (.tup (k.map kV)))(ry:RelV y u):
  KT H (putK kvs k y) (storedH xs k b u):=by
 have e:(kvs.any λkv=>decide (kv.1=k))=(atKey xs k).isSome:=by
  rw[rS,(r.val k).isSome_eq,Qk]
 unfold putK storedH;rw[e]
 by_cases q:(atKey xs k).isSome=true
 ·rw[if_pos q,if_pos q];exact r.repl k ry
 ·rw[if_neg q,if_neg q];exact Paired.snoc r ⟨rfl,hb,ry⟩
variable{H':Hp}
theorem KT.keeps{kvs:List (List Key×V)}{xs:List (List Key×Addr×Value)}(r:KT H kvs xs)(ht:∀b ys,H b=some (.tup ys)->H' b=some (.tup ys)):KT H' kvs xs:=
 Paired.mapP r λ_ _ z=>⟨z.1,ht _ _ z.2.1,z.2.2⟩
theorem ID{h:Heap}{u:HO}(ok:HOk P w H h)(e:Rd H a u):bH P w H h a u:=e.ok ok
theorem qH{h:Heap}{kvs:List (Key×V)}(ok:HOk P w H h)(e:Rd H a (.dK kvs)):kvs.length<=zk/\(a == PR)=false/\∃vs,KV kvs vs/\h.DictOf (bF P w) a vs:=
 show bH P w H h a (.dK kvs) from ID ok e
theorem zR{h:Heap}{kvs:List (Key×V)}(ok:HOk P w H h)(e:H a=some (.dK kvs)):kvs.length<=zk/\(a == PR)=false/\∃vs,KV kvs vs/\h.DictOf (bF P w) a vs:=qH ok (.inl e)
theorem kZ{h:Heap}{ks:List Key}(ok:HOk P w H h)(e:H a=some (.tup (ks.map kV))):(tupleKind (bF P w)).is h ks a:=by
 obtain⟨_,its,r,o,h1,h2,⟨n,h3⟩,_⟩:=(show bH P w H h a (.tup (ks.map kV)) from ok a _ e)
 exact⟨o,its.toArray,n,h1,h2,h3,by simpa using uW r⟩
theorem rV{h:Heap}{kvs:List (List Key×V)}(ok:HOk P w H h)(e:Rd H a (.dT kvs)):kvs.length<=zk/\(a == PR)=false/\
  ∃xs,KT H kvs xs/\h.DictOfH (tupleKind (bF P w)) a xs:=by
 obtain⟨z,y,xs,r,o,es,ep,h1,h2,h3,h4,h5⟩:=(show bH P w H h a (.dT kvs) from ID ok e)
 refine⟨z,y,xs,r,o,es,ep,h1,h2,h3,h4,λx hx=>?_,h5⟩;have all:∀{l:List (List Key×V)}{m:List (List Key×Addr×Value)},KT H l m->∀x∈m,(tupleKind (bF P w)).is h x.1 x.2.1:=by
  intro l m q
  induction q with
  |nil=>intro x hx;exact nomatch hx
  | @cons p q ps qs hq t ih=>
   intro x hx;rcases zq.mp hx with e|hx
   ·subst e;exact kZ ok (by rw[<-hq.1];exact hq.2.1)
   ·exact ih x hx
 exact all r x hx
theorem Lz{h:Heap}{kvs:List (List Key×V)}(ok:HOk P w H h)(e:H a=some (.dT kvs)):kvs.length<=zk/\(a == PR)=false/\
  ∃xs,KT H kvs xs/\h.DictOfH (tupleKind (bF P w)) a xs:=rV ok (.inl e)
def lG(H:Hp)(a:Addr)(y:V)(r:Option V):Prop:=
 (∃kvs k,Rd H a (.dK kvs)/\y=kV k/\r=jG kvs k)\/∃kvs k b,Rd H a (.dT kvs)/\y=.ref b/\H b=some (.tup (k.map kV))/\r=jG kvs k
def Jy(H:Hp)(a:Addr)(y v:V)(H':Hp):Prop:=
 (∃kvs k,H a=some (.dK kvs)/\y=kV k/\kvs.length<zk/\H'=upd H a (.dK (putK kvs k v)))\/
 ∃kvs k b,H a=some (.dT kvs)/\y=.ref b/\H b=some (.tup (k.map kV))/\kvs.length<zk/\H'=upd H a (.dT (putK kvs k v))
theorem lG.k{H:Hp}{a:Addr}{kvs:List (Key×V)}{k:Key}(e:H a=some (.dK kvs)):lG H a (kV k) (jG kvs k):=.inl ⟨kvs,k,.inl e,rfl,rfl⟩
theorem Jy.k{H:Hp}{a:Addr}{kvs:List (Key×V)}{k:Key}{v:V}(e:H a=some (.dK kvs))(hl:kvs.length<zk):Jy H a (kV k) v (upd H a (.dK (putK kvs k v))):=.inl ⟨kvs,k,e,rfl,hl,rfl⟩
variable{pins:List (Addr×Obj)}{s:Shared}{σ:St}
theorem Inv.big(I:Inv X pins σ H s):PR<s.heap.objs.size:=by
 have h:PM<s.heap.objs.size:=(I.mod.glob.keeps I.bk).lt;exact Nat.lt_trans (by decide) h
variable{E Q:Value->Shared->Prop}{v:V}
theorem CK(hu:A.units+1<cLine)(I:Inv X pins σ H s)(g:lG H a y (some v))(ry:RelV y u)(h:∀w' s',Inv X pins σ H s'->RelV v w'->Q w' s'):
  wpAny (model X.prog X.w) A (getItem (.ref a) u) Q E s:=by
 rcases g with⟨kvs,k,e,ey,l⟩|⟨kvs,k,b,e,ey,eb,l⟩
 ·subst ey;obtain⟨z,hd,vs,rel,dd⟩:=qH I.hok e;obtain⟨w',hw,bt⟩:=jF.some_of (v:=v) (o:=valueAt vs k) (by rw[l];exact rel.val k);exact wpAny_getItem_of (rT ry) dd.mapOf hw (h w' _ (I.tok _) bt)
 ·subst ey;cases(show u=Pf b from ry)
  obtain⟨z,hd,xs,rel,dd⟩:=rV I.hok e;obtain⟨w',hw,bt⟩:=jF.some_of (v:=v) (o:=(atKey xs k).map (·.2)) (by rw[l];exact rel.val k);obtain⟨p,hp,rm⟩:=z6.mp hw;refine wpAny_getItem_heap (QM hu) (kZ I.hok eb) dd hp ?_;rw[rm];exact h w' _ (I.tok _) bt
theorem O5{o:Option V}(hu:A.units+1<cLine)(I:Inv X pins σ H s)(g:lG H a y o)(ry:RelV y u)(h:∀s',Inv X pins σ H s'->Q (.bool o.isSome) s'):
  wpAny (model X.prog X.w) A (z8 .In u (.ref a)) Q E s:=by
 rcases g with⟨kvs,k,e,ey,l⟩|⟨kvs,k,b,e,ey,eb,l⟩
 ·subst ey;obtain⟨z,hd,vs,rel,dd⟩:=qH I.hok e;refine wpAny_in_of (rT ry) hd dd.mapOf ?_;rw[<-(rel.val k).isSome_eq,<-l];exact h _ (I.tok _)
 ·subst ey;cases(show u=Pf b from ry)
  obtain⟨z,hd,xs,rel,dd⟩:=rV I.hok e;refine wpAny_in_heap (QM hu) (kZ I.hok eb) hd dd ?_;have q:=(rel.val k).isSome_eq;rw[Qk]at q;rw[<-q,<-l];exact h _ (I.tok _)
theorem GG{o:Option V}(hu:A.units+1<cLine)(I:Inv X pins σ H s)(g:lG H a y o)(ry:RelV y u)(h:∀s',Inv X pins σ H s'->Q (.bool (!o.isSome)) s'):
  wpAny (model X.prog X.w) A (z8 .NotIn u (.ref a)) Q E s:=by
 rcases g with⟨kvs,k,e,ey,l⟩|⟨kvs,k,b,e,ey,eb,l⟩
 ·subst ey;obtain⟨z,hd,vs,rel,dd⟩:=qH I.hok e;refine wpAny_notIn_of (rT ry) hd dd.mapOf ?_;rw[<-(rel.val k).isSome_eq,<-l];exact h _ (I.tok _)
 ·subst ey;cases(show u=Pf b from ry)
  obtain⟨z,hd,xs,rel,dd⟩:=rV I.hok e;refine wpAny_notIn_heap (QM hu) (kZ I.hok eb) hd dd ?_;have q:=(rel.val k).isSome_eq;rw[Qk]at q;rw[<-q,<-l];exact h _ (I.tok _)
variable{h':Heap}{t':Nat}
theorem wY{ob:HO}(I:Inv X pins σ H s)(mu:Mut (H a))(hs:QI a s.heap h')(he:∃q,h'.get? a=some q)(new:bH X.prog X.w (upd H a ob) h' a ob):
  Inv X pins σ (upd H a ob) { s with heap:=h',toks:=t' }:=
 I.write (x:=a) (e:=a) mu (.inl rfl) (λb q hb z=>(hs.2 b hb).trans z) he new
theorem Jz{kvs:List (Key×V)}{vs:List (Key×Value)}(z:kvs.length<=zk)(hd:(a == PR)=false)(rel:KV kvs vs)(dd:h'.DictOf (bF P w) a vs):
  bH P w H' h' a (.dK kvs):=⟨z,hd,vs,rel,dd⟩
theorem CL{r:Value}{Q:Unit->Shared->Prop}(hu:A.units+1<cLine)(I:Inv X pins σ H s)(g:Jy H a y v H')(ry:RelV y u)(rv:RelV v r)(h:∀s',Inv X pins σ H' s'->Q () s'):
  wpAny (model X.prog X.w) A (setItem (.ref a) u r) Q E s:=by
 rcases g with⟨kvs,k,e,ey,l,eH⟩|⟨kvs,k,b,e,ey,eb,l,eH⟩
 ·subst ey eH;obtain⟨z,hd,vs,rel,dd⟩:=zR I.hok e;have hz:vs.length<=zk:=by rw[<-rel.length];exact z
  have hl:(putK kvs k v).length<=zk:=by have:=qG kvs k v;omega
  refine wpAny_setItem_pairs (hsz:=hz) (rT ry) dd λh' ka hs=>h _ ?_;have he:∃q,h'.get? a=some q:=let ⟨q,_,_,hq,_⟩:=ka;⟨q,hq⟩;exact wY I (by rw[e];exact Qj) hs he (Jz hl hd (rel.put k rv) ka)
 ·subst ey eH;cases(show u=Pf b from ry)
  obtain⟨z,hd,xs,rel,dd⟩:=Lz I.hok e;have hz:xs.length<=zk:=by rw[<-Pw rel];exact z
  have hl:(putK kvs k v).length<=zk:=by have:=qG kvs k v;omega
  refine wpAny_setItem_heap (hsz:=hz) (QM hu) (kZ I.hok eb) dd λh' ka hs=>h _ ?_;obtain⟨q,es,ep,hq,h2,h3,h4,_,h5⟩:=ka;refine wY I (by rw[e];exact Qj) hs ⟨q,hq⟩ ⟨hl,hd,_,(rel.put k eb rv).keeps λc ys ec=>?_,q,es,ep,hq,h2,h3,h4,h5⟩;rw[aH (Lb ec e (λz=>nomatch z))];exact ec
theorem LA{kvs:List (Key×V)}(I:Inv X pins σ H s)(e:Rd H a (.dK kvs))(h:∀t s',Inv X pins σ H s'->Q (.int kvs.length t) s'):wpAny (model X.prog X.w) A (call (.builtin "len") [.ref a]) Q E s:=by
 obtain⟨z,hd,vs,rel,dd⟩:=qH I.hok e;refine call_len_dict hd dd (by rw[<-rel.length];rw[Pj]at z;omega) ?_;rw[<-rel.length];exact h _ _ (I.tok _)
theorem zS{o:Option V}(I:Inv X pins σ H s)(g:lG H a y o):s.TypeIs (.ref a) "dict" := by
 rcases g with⟨kvs,k,e,_,_⟩|⟨kvs,k,b,e,_,_,_⟩
 ·obtain⟨_,_,vs,_,dd⟩:=qH I.hok e;exact dd.typeIs
 ·obtain⟨_,_,xs,_,dd⟩:=rV I.hok e;exact dd.typeIs
theorem E6(h:Heap)(hb:PR<h.objs.size):bH P w H (h.push { cls:=.type "dict",data:=.dict #[] }) h.objs.size (.dK []):=
 ⟨zz _,beq_eq_false_iff_ne.mpr (PY (z7 hb)),[],.nil,Heap.DictOf.new h⟩
def JA:TE:=λ_ H Q=>∀p,H p=none->Q (.ref p) (upd H p (.dK []))
variable{pos:Pos}
theorem E7:PE X (.Dict [] [] pos) JA:=λpins s σ H Q I h=>
 wpAny_Dict_empty ⟨.ref s.heap.objs.size,_,I.laid (a:=s.heap.objs.size) (o:=.dK []) (t':=s.toks) (λ_ _ q=>y0 _ q) (zb _) (E6 s.heap I.big),rfl,h _ (I.hok.fresh (zb _))⟩
theorem JB{o:Option V}(hu:A.units+1<cLine)(I:Inv X pins σ H s)(g:lG H a y o)(ry:RelV y u)(h:∀w' s',Inv X pins σ H s'->RelV (o.getD .non) w'->Q w' s'):
  wpAny (model X.prog X.w) A (call (.builtin "dict.get") [.ref a,u]) Q E s:=by
 rcases g with⟨kvs,k,e,ey,l⟩|⟨kvs,k,b,e,ey,eb,l⟩
 ·subst ey;obtain⟨z,hd,vs,rel,dd⟩:=qH I.hok e;refine Rm P6 dd.typeIs Qg (PySem.F.args_dict_get_2 _ _) (meets_dict_get (bF X.prog X.w) a (rT ry) hd) ⟨_,dd.mapOf,h _ _ (I.tok _) ?_⟩;rw[l];exact(rel.val k).getD rfl
 ·subst ey;cases(show u=Pf b from ry)
  obtain⟨z,hd,xs,rel,dd⟩:=rV I.hok e;refine Rm P6 dd.typeIs Qg (PySem.F.args_dict_get_2 _ _) (meetsH_dict_get (tupleKind (bF X.prog X.w)) a b hd) ⟨QM hu,k,xs,kZ I.hok eb,dd,h _ _ (I.tok _) ?_⟩;rw[l];exact(rel.val k).getD rfl
theorem JC{d:V}{r:Value}{o:Option V}(hu:A.units+1<cLine)(I:Inv X pins σ H s)(g:lG H a y o)(ry:RelV y u)(rd:RelV d r)(h:∀w' s',Inv X pins σ H s'->RelV (o.getD d) w'->Q w' s'):
  wpAny (model X.prog X.w) A (call (.builtin "dict.get") [.ref a,u,r]) Q E s:=by
 rcases g with⟨kvs,k,e,ey,l⟩|⟨kvs,k,b,e,ey,eb,l⟩
 ·subst ey;obtain⟨z,hd,vs,rel,dd⟩:=qH I.hok e;refine Rm P6 dd.typeIs Qg (PySem.F.args_dict_get_3 _ _ _) (meets_dict_get_default (bF X.prog X.w) a (rT ry) hd r) ⟨_,dd.mapOf,h _ _ (I.tok _) ?_⟩;rw[l];exact(rel.val k).getD rd
 ·subst ey;cases(show u=Pf b from ry)
  obtain⟨z,hd,xs,rel,dd⟩:=rV I.hok e;refine Rm P6 dd.typeIs Qg (PySem.F.args_dict_get_3 _ _ _) (meetsH_dict_get_default (tupleKind (bF X.prog X.w)) a b hd r) ⟨QM hu,k,xs,kZ I.hok eb,dd,h _ _ (I.tok _) ?_⟩;rw[l];exact(rel.val k).getD rd
theorem CM:bT X (.builtin "len") (λxs H Q=>∃a kvs,xs=[V.ref a]/\H a=some (.dK kvs)/\Q (.int kvs.length) H):=by
 intro pins s σ H xs us Q I r h;obtain⟨a,kvs,rfl,ha,q⟩:=h;obtain⟨u,rfl,ru⟩:=vals1 r;cases ru
 exact LA I (.inl ha) λt s' I'=>⟨.int kvs.length,H,I',⟨t,rfl⟩,q⟩
variable{env:Env}{ifs:List Expr}{iter:Expr}{prog:Program}{scope:Scope}
section
variable{R:Result->Shared->Prop}
def BO(ifs:List Expr)(env:Env):Sem Bool:=forIn ifs true λc r=>if r=true then do let ok <-isTrue c env (eval c env);pure (ForInStep.yield ok) else pure (ForInStep.yield r)
theorem wZ{elt target:Expr}{it acc:Value}(I:Nat->Shared->Prop)(turn:∀n s,I n s->wpAny (model prog w) A (pyNext it) (λr s₁=>match r with
   |none=>R (.ok .next) s₁
   | some v=>wpAny (model prog w) A (letOwnedTupleGo target it v) (fun _ vd=>wpAny (model prog w) A (assign target env v) (fun _ s₂=>
     wpAny (model prog w) A (BO ifs env) (λok s₃=>
      if ok=true then wpAny (model prog w) A (eval elt env) (λx s₄=>
       wpAny (model prog w) A (call (.builtin "list.append") [acc,x]) (λ_ s₅=>∃m,m<n/\I m s₅) (λ_ _=>False) s₄) (λ_ _=>False) s₃
      else ∃m,m<n/\I m s₃) (λ_ _=>False) s₂) (λ_ _=>False) vd) (λ_ _=>False) s₁) (λ_ _=>False) s)(n:Nat)(h:I n s):
  codeAny (model prog w) A (.compLoop (.ListComp elt [⟨target,iter,ifs,0⟩] scope pos) 0 it acc env) R s:=by
 refine codeAny_loop rfl I (λn s hI=>?_) n h
 show wpAny _ A ((compTurn (.ListComp elt [⟨target,iter,ifs,0⟩] scope pos) 0 it acc env).onRaise (λx=>do noteFrame x env;theTreesLotGoes x)) _ _ s
 refine wpAny_noted ?_;rw[compTurn_list];refine yw (wpAny_standAt (yw (Qu (turn n s hI) (λr s₁ h₁=>?_) λ_ _ h'=>h'.elim)));cases r with
 |none=>exact yy h₁
 |some v=>
  refine yw (Qu h₁ (λ_ vd wa=>?_) λ_ _ h'=>h'.elim);refine yw (Qu wa (λ_ s₂ h₂=>yw (Qu h₂ (λok s₃ h₃=>?_) λ_ _ h'=>h'.elim)) λ_ _ h'=>h'.elim);cases ok with
  |false=>exact yy ⟨rfl,h₃⟩
  |true=>
   exact yw (yw (Qu h₃ (λx s₄ h₄=>yw (Qu h₄ (λ_ s₅ h₅=>yy (yy ⟨rfl,h₅⟩)) λ_ _ h'=>h'.elim)) λ_ _ h'=>h'.elim))
end
def fO(cells:List (Str×Addr)):List (Str×Ri)->List (Str×Addr)->List (Str×Addr)
 |[],cs=>cs
 |(n,k)::r,cs=>fO cells r (if(k == Po)=true then(n,(cells.lookup n).getD 0)::cs else cs)
theorem uN(h:∀y∈scope.names,y.2=Po->∃c,env.cells.lookup y.1=some c):closureFor scope env=pure (fO env.cells scope.names []):=by
 have go:∀(names:List (Str×Ri))(cs:List (Str×Addr)),(∀y∈names,y.2=Po->∃c,env.cells.lookup y.1=some c)->
   (forIn names cs λ(x:Str×Ri)(r:List (Str×Addr))=>match x with
    |(name,kind)=>if(kind == Po)=true then(do let y <-cellOf env name;pure (ForInStep.yield ((name,y)::r))) else(pure (ForInStep.yield r):Sem _))=(pure (fO env.cells names cs):Sem _):=by
  intro names
  induction names with
  |nil=>intro cs _;rfl
  |cons y r ih=>
   intro cs hy
   obtain⟨n,k⟩:=y
   rw[List.forIn_cons]
   have ux:=λyg=>ih yg λy hm=>hy y (zc _ hm)
   by_cases hk:(k == Po)=true
   ·obtain⟨c,hc⟩:=hy (n,k) zd (by simpa using hk)
    have e1:cellOf env n=pure c:=by unfold cellOf;rw[show env.cells.lookup n=some c from hc]
    have e2:fO env.cells ((n,k)::r) cs=fO env.cells r ((n,c)::cs):=by
     show fO env.cells r (if(k == Po)=true then _ else _)=_
     rw[if_pos hk,show env.cells.lookup n=some c from hc];rfl
    rw[e2,<-ux ((n,c)::cs)]
    simp only[hk,if_true,e1,pure_bind]
   ·have e2:fO env.cells ((n,k)::r) cs=fO env.cells r cs:=by
     show fO env.cells r (if(k == Po)=true then _ else _)=_
     rw[if_neg hk]
    rw[e2,<-ux cs]
    simp only[hk,if_false,pure_bind]
    try rfl
 have:=go scope.names [] h
 unfold closureFor
 simpa using this
theorem qI{cells:List (Str×Addr)}{x:Str}{c:Addr}:∀(names:List (Str×Ri))(cs:List (Str×Addr)),(fO cells names cs).lookup x=some c->cs.lookup x=some c\/(∃y∈names,y.1=x/\y.2=Po/\c=(cells.lookup x).getD 0)
 |[],_,h=>.inl h
 |(n,k)::r,cs,h=>by
  rcases qI r _ h with h1|⟨y,hy,e⟩
  ·by_cases hk:(k == Po)=true
   ·rw[if_pos hk]at h1
    by_cases hx:x=n
    ·subst hx;simp only[zw,beq_self_eq_true]at h1;exact .inr ⟨(x,k),zd,rfl,by simpa using hk,(zy h1).symm⟩
    ·have:(x == n)=false:=by simpa using hx
     simp only[zw,this]at h1;exact .inl h1
   ·rw[if_neg hk]at h1;exact .inl h1
  ·exact .inr ⟨y,zc _ hy,e⟩
theorem rW{cells:List (Str×Addr)}{x:Str}:∀(names:List (Str×Ri))(cs:List (Str×Addr)),((∃c,cs.lookup x=some c)\/∃y∈names,y.1=x/\y.2=Po)->∃c,(fO cells names cs).lookup x=some c
 |[],_,h=>by
  rcases h with h|⟨y,hy,_⟩
  ·exact h
  ·cases hy
 |(n,k)::r,cs,h=>by
  refine rW r _ ?_;rcases h with⟨c,h⟩|⟨y,hy,e1,e2⟩
  ·left
   by_cases hk:(k == Po)=true
   ·rw[if_pos hk]
    by_cases hx:x=n
    ·subst hx;simp[zw]
    ·have:(x == n)=false:=by simpa using hx
     exact⟨c,by simp only[zw,this];exact h⟩
   ·rw[if_neg hk];exact⟨c,h⟩
  ·rcases zq.mp hy with rfl|hy
   ·left;have hk:(k == Po)=true:=by simpa using e2
    rw[if_pos hk];have hx:n=x:=e1;subst hx;simp[zw]
   ·exact .inr ⟨y,hy,e1,e2⟩
def iH(os:Scope)(oN:List Str)(sc:Scope)(N:List Str)(js:List (Option Nat)):Bool:=
 (match sc.kind with|.function=>true|_=>false)&&sc.names.all (λy=>match y.2 with
  |.cell=>(match sc.names.lookup y.1 with|some .cell=>true|_=>false)
  |_=>true) &&
 sc.names.all (λy=>match y.2 with
  |.local=>(match sc.names.lookup y.1 with|some .local=>true|_=>false)
  |.free=>(match sc.names.lookup y.1,os.names.lookup y.1 with|some .free,some .cell=>true|some .free,some .free=>true|_,_=>false)
  |_=>true) &&
 js.length == N.length&&(js.zip N).all (λp=>match p.1 with
  |none=>true
  |some j=>(match oN[j]? with|some x=>decide (x=p.2)|none=>false)&&(match sc.names.lookup p.2 with|some .free=>true|_=>false))
structure JD(os:Scope)(oN:List Str)(sc:Scope)(N:List Str)(js:List (Option Nat)):Prop where
 kind:sc.kind=.function
 own:∀y∈sc.names,y.2=.cell->sc.names.lookup y.1=some .cell
 nm:∀y∈sc.names,y.2=.local->sc.names.lookup y.1=some .local
 fr:∀y∈sc.names,y.2=.free->os.names.lookup y.1=some .cell\/os.names.lookup y.1=some .free
 len:js.length=N.length
 cap:∀(i j:Nat),js[i]?=some (some j)->∃x,N[i]?=some x/\oN[j]?=some x/\sc.names.lookup x=some .free
variable{js:List (Option Nat)}{oN:List Str}{os sc:Scope}
theorem CN(h:iH os oN sc N js=true):JD os oN sc N js:=by
 unfold iH at h;simp only[z0]at h;obtain⟨⟨⟨⟨h1,h2⟩,h3⟩,h4⟩,h5⟩:=h;refine⟨?_,λy hy e=>?_,λy hy e=>?_,λy hy e=>?_,by simpa using h4,λi j e=>?_⟩
 ·cases hk:sc.kind <;> rw[hk]at h1 <;> first|rfl|exact absurd h1 zi
 ·have:=zp.mp h2 y hy;rw[e]at this;dsimp only at this;cases hl:sc.names.lookup y.1 with
  |none=>rw[hl]at this;exact absurd this zi
  |some k=>cases k <;> rw[hl]at this <;> first|rfl|exact absurd this zi
 ·have:=zp.mp h3 y hy;rw[e]at this;dsimp only at this;cases hl:sc.names.lookup y.1 with
  |none=>rw[hl]at this;exact absurd this zi
  |some k=>cases k <;> rw[hl]at this <;> first|rfl|exact absurd this zi
 ·have:=zp.mp h3 y hy;rw[e]at this;dsimp only at this;cases hl:sc.names.lookup y.1 with
  |none=>rw[hl]at this;exact absurd this zi
  |some k=>
   rw[hl]at this;cases ho:os.names.lookup y.1 with
   |none=>rw[ho]at this;cases k <;> exact absurd this zi
   |some k'=>rw[ho]at this;cases k <;> cases k' <;> first|exact .inl rfl|exact .inr rfl|exact absurd this zi
 ·have hlen:js.length=N.length:=by simpa using h4
  obtain⟨hi,ej⟩:=yx.mp e;have hN:i<N.length:=by omega
  have hz:(js.zip N)[i]?=some (some j,N[i]):=by
   rw[List.getElem?_zip_eq_some];exact⟨e,by simp[hN]⟩
  have:=zp.mp h5 _ (Pn hz);simp only[z0]at this;obtain⟨t1,t2⟩:=this;refine⟨N[i],by simp[hN],?_,?_⟩
  ·cases ho:oN[j]? with
   |none=>rw[ho]at t1;exact absurd t1 zi
   |some x=>rw[ho]at t1;rw[of_decide_eq_true t1]
  ·cases hl:sc.names.lookup N[i] with
   |none=>rw[hl]at t2;exact absurd t2 zi
   |some k=>rw[hl]at t2;cases k <;> first|rfl|exact absurd t2 zi
theorem cJ{κ:Type}{x:Str}{k:κ}:∀{l:List (Str×κ)},l.lookup x=some k->(x,k)∈l
 |[],h=>by simp at h
 |(n,v)::r,h=>by
  by_cases hx:x=n
  ·subst hx;simp only[zw,beq_self_eq_true]at h;cases h
   exact zd
  ·have:(x == n)=false:=by simpa using hx
   simp only[zw,this]at h;exact zc _ (cJ h)
theorem jL{sc:Scope}{env:Env}:∀{names:List (Str×Ri)}{x:Str}{k:Ri},(names.map λ(n,k)=>if(k == Po&&env.scope.kind == .function&&env.kindOf n == some .cell) then(n,RT) else(n,k)).lookup x=some k->
  names.lookup x=some k\/(k=.cell/\names.lookup x=some .free)
 |[],_,_,h=>by simp at h
 |(n,q)::r,x,k,h=>by
  have ih:=@jL sc env r x k
  by_cases hc:(q == Po&&env.scope.kind == .function&&env.kindOf n == some .cell)=true
  ·simp only[zt]at h;rw[if_pos hc]at h;have hq:q=.free:=by
    simp only[z0]at hc;simpa using hc.1.1
   by_cases hx:x=n
   ·subst hx;simp only[zw,beq_self_eq_true]at h⊢;exact .inr ⟨(zy h).symm,by rw[hq]⟩
   ·have e:(x == n)=false:=by simpa using hx
    simp only[zw,e]at h⊢;exact ih h
  ·simp only[zt]at h;rw[if_neg hc]at h
   by_cases hx:x=n
   ·subst hx;simp only[zw,beq_self_eq_true]at h⊢;exact .inl h
   ·have e:(x == n)=false:=by simpa using hx
    simp only[zw,e]at h⊢;exact ih h
theorem mY{env:Env}:∀{names:List (Str×Ri)}{x:Str},names.lookup x=some .free->
  (names.map λ(n,k)=>if(k == Po&&env.scope.kind == .function&&env.kindOf n == some .cell) then(n,RT) else(n,k)).lookup x=some .free\/
  (names.map λ(n,k)=>if(k == Po&&env.scope.kind == .function&&env.kindOf n == some .cell) then(n,RT) else(n,k)).lookup x=some .cell
 |[],_,h=>by simp at h
 |(n,q)::r,x,h=>by
  have ih:=@mY env r x
  by_cases hc:(q == Po&&env.scope.kind == .function&&env.kindOf n == some .cell)=true
  ·simp only[zt];rw[if_pos hc]
   by_cases hx:x=n
   ·subst hx;simp only[zw,beq_self_eq_true]
    first|exact .inr rfl|exact .inr trivial
   ·have e:(x == n)=false:=by simpa using hx
    simp only[zw,e]at h⊢;exact ih h
  ·simp only[zt];rw[if_neg hc]
   by_cases hx:x=n
   ·subst hx;simp only[zw,beq_self_eq_true]at h⊢;exact .inl h
   ·have e:(x == n)=false:=by simpa using hx
    simp only[zw,e]at h⊢;exact ih h
theorem aW:∀(names:List (Str×Ri))(n:Nat)(acc:List (Str×Addr)),Pz n names acc=Pz n names []++acc
 |[],_,_=>rfl
 |(x,k)::r,n,acc=>by
  unfold Pz;split
  ·rw[aW r _ ((x,n)::acc),aW r _ [(x,n)],List.append_assoc];rfl
  ·exact aW r n acc
set_option tactic.hygienic true in
theorem iI{x:Str}{c:Addr}:∀{names:List (Str×Ri)}{n:Nat},(x,c)∈Pz n names []->(x,RT)∈names
 |[],_,h=>by cases h
 |(y,k)::r,n,h=>by
  unfold Pz at h;split at h
  ·rename_i hk;rw[aW,OZ]at h;rcases h with h|h
   ·exact zc _ (iI h)
   ·have e:=OY.mp h;have ex:x=y:=congrArg Prod.fst e;have ek:k=.cell:=by simpa using hk
    rw[ex,ek];exact zd
  ·exact zc _ (iI h)
theorem qJ{α:Type}{x:Str}{c:α}:∀{l:List (Str×α)},(x,c)∈l->∃d,l.lookup x=some d
 |(y,d)::r,h=>by
  by_cases e:x=y
  ·subst e;exact⟨d,by simp[zw]⟩
  ·have z:(x == y)=false:=by simpa using e
   rcases zq.mp h with q|q
   ·exact absurd (congrArg Prod.fst q) e
   ·obtain⟨d',hd⟩:=qJ q;exact⟨d',by simp only[zw,z];exact hd⟩
theorem eW{x:Str}:∀{names:List (Str×Ri)}{n:Nat},(x,RT)∈names->∃c,(Pz n names []).lookup x=some c
 |(y,k)::r,n,h=>by
  have go:∃c,(x,c)∈Pz n ((y,k)::r) []:=by
   rcases zq.mp h with q|q
   ·have ex:x=y:=congrArg Prod.fst q;have ek:k=.cell:=(congrArg Prod.snd q).symm;refine⟨n,?_⟩;unfold Pz;rw[if_pos (by rw[ek];rfl),aW,ex];exact zh _ zd
   ·unfold Pz;split
    ·obtain⟨c,hc⟩:=eW (n:=n+1) q;rw[aW];exact⟨c,OX _ (mem_of_lookup hc)⟩
    ·obtain⟨c,hc⟩:=eW (n:=n) q;exact⟨c,mem_of_lookup hc⟩
  obtain⟨c,hc⟩:=go;exact qJ hc
theorem mZ{α:Type}{x:Str}:∀{l r:List (Str×α)},(l++r).lookup x=(l.lookup x).or (r.lookup x)
 |[],_=>by simp
 |(y,d)::l,r=>by
  have ih:=mZ (x:=x) (l:=l) (r:=r);cases e:x == y with
  |true=>simp[zw,e]
  |false=>simp only[List.cons_append,zw,e];exact ih
variable{M:Model}{builtins globals:Addr}{closure:List (Str×Addr)}{code:Value}{func:Option Addr}
theorem oU{outer:Env}{Q:Env->Shared->Prop}(hQ:Q (newEnv scope s.heap.objs.size globals (Pz (s.heap.objs.size+1) scope.names closure) qual func code (some outer) builtins) { s with heap:=pushCells (s.heap.push { cls:=.type "dict",data:=.dict #[] }) scope.names }):
  wpAny M A (newFunctionEnv scope globals closure [] qual func code (some outer) builtins) Q E s:=by
 simp only[newFunctionEnv,Rj,if_true];refine yw (wpAny_alloc ?_);refine yw (wpAny_layCells _ (λname kind cells=>by cases hkc:kind == RT <;> simp[hkc]) _ _ _ _ ?_);rw[show({ s with heap:=s.heap.push { cls:=.type "dict",data:=.dict #[] } }:Shared).heap.objs.size=s.heap.objs.size+1 from RB ..]
 rw[List.forIn_nil];exact yw (yy (yy hQ))
def Cx.comp(X:Cx)(sc:Scope)(N:List Str)(C:Addr)(fp:List Addr)(s₀:Shared)(H₀:Hp):Cx:=
 { X with N:=N,s₀:=s₀,H₀:=H₀,env:=compEnvC sc (Pz (C+1) sc.names (fO X.env.cells sc.names [])) C X.env,outer:=X.stack,ex:=fp,fn:=λx=>(match sc.names.lookup x with|some .cell=>true|_=>false),pn:=[],xe:=λ_ _=>False }
def E8:St->Nat->Option V
 |[],_=>none
 |x::_,0=>x
 |_::r,n+1=>E8 r n
theorem zT:∀{σ:St}{i:Nat}{v:V},E8 σ i=some v->σ[i]?=some (some v)
 |[],_,_,h=>by cases h
 |x::_,0,v,h=>by
  have h':x=some v:=h;simp[h']
 |_::r,n+1,v,h=>by
  rw[Qa];exact zT (σ:=r) (i:=n) h
def iJ(js:List (Option Nat))(σ:St):St:=js.map λo=>match o with
 |none=>none
 |some j=>E8 σ j
variable{i:Nat}
theorem GH(h:(iJ js σ)[i]?=some (some v)):∃j,js[i]?=some (some j)/\σ[j]?=some (some v):=by
 unfold iJ at h;rw[zo]at h;cases e:js[i]? with
 |none=>rw[e]at h;cases h
 |some o=>
  rw[e]at h;cases o with
  |none=>cases h
  |some j=>exact⟨j,rfl,zT (zy h)⟩
def PTs(X:Cx)(ifs:List Expr)(t:TT):Prop:=
 ∀(pins:List (Addr×Obj))(s:Shared)(σ:St)(H:Hp)(Q:Bool->Hp->Prop),Inv X pins σ H s->t σ H Q->wpAny (model X.prog X.w) X.A (BO ifs X.env) (TP X pins σ Q) X.xe s
def LB:TT:=λ_ H Q=>Q true H
theorem GJ:PTs X [] LB:=λ_ _ _ H _ I h=>wpAny_tests_nil ⟨H,I,h⟩
theorem GK{c:Expr}{t:TT}(h:PT X c t):PTs X [c] t:=λpins s σ H Q I q=>wpAny_tests_one (h pins s σ H Q I q)
def IE(js:List (Option Nat))(g:TG)(tt:TT)(te:TE)(σ:St)(acc:Addr)(x:V)(H:Hp)(N:Hp->Prop):Prop:=g x (iJ js σ) H λσ2 H4=>tt σ2 H4 λb H5=>
   if b=true then te σ2 H5 λv H6=>∃ys,H6 acc=some (.lst ys)/\ys.length<zk/\N (upd H6 acc (.lst (ys++[v]))) else N H5
def BP(js:List (Option Nat))(wi:TI)(g:TG)(tt:TT)(te:TE):TE:=λσ H Q=>wi σ H λJ H1=>∀acc,H1 acc=none->
 ∃W:Nat->Nat->Hp->Prop,(∃m,W 0 m (upd H1 acc (.lst [])))/\∀i m H2,W i m H2->
  (J.stop i H2/\Q (.ref acc) H2)\/(J.go i H2/\∃N:Hp->Prop,(∀H',N H'->∃m',m'<m/\W (i+1) m' H')/\∀x H3,J.yld i H2 x H3->IE js g tt te σ acc x H3 N)
structure Off(X:Cx)(pins:List (Addr×Obj))(H:Hp)(C:Addr)(s:Shared):Prop where
 ns:∃m,s.heap.Ns C m
 none:H C=none
 loc:C≠X.env.locals
 new:X.s₀.heap.objs.size<=C
 cells:∀x c,X.env.cells.lookup x=some c->c≠C
 pins:∀p∈X.pn++pins,p.1≠C
theorem Off.go{C:Addr}(o:Off X pins H C s)(I:Inv X pins σ H s)(hs:QI C s.heap h'):Inv X pins σ H { s with heap:=h' }:=
 I.turned (t':=s.toks) (λb ob hb e=>(hs.2 b hb).trans e) o.none o.loc (.inr o.new) o.cells o.pins
variable{Q0:Value->Shared->Prop}{te:TE}{tg:Expr}{tt:TT}{use:Option (Value->Sem Unit)}{wi:TI}
theorem uX{elt:Expr}{g:TG}(hc:X.calm=true)(dh:X.env.scope=os)(ib:X.N=oN)(ok:iH os oN sc N js=true)(hi:PI X tg iter wi)(hg:∀C fp s₀ H₀,PG (X.comp sc N C fp s₀ H₀) tg g)(ht:∀C fp s₀ H₀,PTs (X.comp sc N C fp s₀ H₀) ifs tt)(he:∀C fp s₀ H₀,PE (X.comp sc N C fp s₀ H₀) elt te){Q:VK}(I:Inv X pins σ H s)(h:BP js wi g tt te σ H Q)(se:∀acc C s6 H6,Inv X pins σ H6 s6->Off X pins H6 C s6->Q (.ref acc) H6->compPost (model X.prog X.w) X.A X.xe use Q0 (.ref acc) C (.ok .next) s6)(hs:∀x,P4 iter X.env x=pure x:=by intro _;rfl):
  wpAny (model X.prog X.w) X.A (comprehension (.ListComp elt [⟨tg,iter,ifs,0⟩] sc pos) sc X.env (firstIterPos [⟨tg,iter,ifs,0⟩] pos) (newList []) false (eval iter X.env) use) Q0 X.xe s:=by
 have S:=CN ok;subst dh ib;have ti:∀y∈sc.names,y.2=Po->∃c,X.env.cells.lookup y.1=some c:=λy hy e=>I.ok.has y.1 (S.fr y hy e);have ja:∀x c,(fO X.env.cells sc.names []).lookup x=some c->X.env.cells.lookup x=some c:=λx c e=>by
  rcases qI _ _ e with z|⟨y,hy,e1,e2,e3⟩
  ·cases z
  ·obtain⟨d,hd⟩:=ti y hy e2;rw[e1]at hd;rw[hd]at e3;rw[hd,e3];rfl
 refine wpAny_comprehension_free (use:=use) rfl hs (uN ti) S.kind S.nm (thn (hi pins s σ H _ I h) λv s1 h1=>thn h1 λqr s2 h2=>?_);obtain⟨it,fp,tn,J,H2,e,I2,T,n6,f2,q⟩:=h2;subst e;obtain⟨W,⟨m0,w0⟩,turn⟩:=q s2.heap.objs.size I2.fresh;refine Pc (oU ?_);have I3:Inv X pins σ (upd H2 s2.heap.objs.size (.lst [])) { s2 with heap:=s2.heap.push { cls:=.type "list",data:=.seq ([]:List Value).toArray },toks:=s2.toks }:=I2.lnew (its:=[]) (ys:=[]) .nil (zz _);generalize vv:upd H2 s2.heap.objs.size (HO.lst [])=H3 at w0 I3;generalize yl:({ s2 with heap:=s2.heap.push { cls:=.type "list",data:=.seq ([]:List Value).toArray },toks:=s2.toks }:Shared)=s3 at I3;have wz:({ s2 with heap:=s2.heap.push { cls:=.type "list",dict:=none,data:=.seq ([]:List Value).toArray } }:Shared)=s3:=yl;have um:s2.heap.push { cls:=.type "list",dict:=none,data:=.seq ([]:List Value).toArray }=s3.heap:=by rw[<-wz]
 (try rw[um])
 have hC:∀b o,s3.heap.get? b=some o->b≠s3.heap.objs.size:=λb o e=>z7 (zl e);have old:∀b o,s3.heap.get? b=some o->(pushCells (s3.heap.push { cls:=.type "dict",data:=.dict #[] }) sc.names).get? b=some o:=λb o e=>pushCells_keeps _ _ b o (y0 _ e);have kj:(pushCells (s3.heap.push { cls:=.type "dict",data:=.dict #[] }) sc.names).Ns s3.heap.objs.size (λ_=>none):=(Heap.Ns.new s3.heap (.type "dict")).keeps (pushCells_keeps _ _);have km:=cellsFrom_ok sc.names (s3.heap.push { cls:=.type "dict",data:=.dict #[] }) (s3.heap.objs.size+1) [] ⟨λ_ _ hm=>(nomatch hm),List.Pairwise.nil⟩ (by rw[RB];exact zb _);rw[RB]at km;generalize pushCells (s3.heap.push { cls:=.type "dict",data:=.dict #[] }) sc.names=h₁ at old kj km⊢;have lj:∀{x c},(Pz (s3.heap.objs.size+1) sc.names (fO X.env.cells sc.names [])).lookup x=some c->((x,c)∈Pz (s3.heap.objs.size+1) sc.names []/\h₁.IsCell c none/\s3.heap.objs.size+1<=c)\/(X.env.cells.lookup x=some c/\c<s3.heap.objs.size):=λ{x c} e=>by
  rw[aW,mZ]at e;cases eo:(Pz (s3.heap.objs.size+1) sc.names []).lookup x with
  |some d=>
   rw[eo]at e;cases e
   have:=mem_of_lookup eo;exact .inl ⟨this,km.empty x c this⟩
  |none=>
   rw[eo]at e;have e:=ja x c e;obtain⟨v,z⟩:=I3.cell x c e;exact .inr ⟨e,z.lt⟩
 have uh:∀{x c},sc.names.lookup x=some .free->(fO X.env.cells sc.names []).lookup x=some c->(Pz (s3.heap.objs.size+1) sc.names (fO X.env.cells sc.names [])).lookup x=some c:=λ{x c} hf e=>by
  rw[aW,mZ];cases eo:(Pz (s3.heap.objs.size+1) sc.names []).lookup x with
  |some d=>
   have:=S.own _ (iI (mem_of_lookup eo)) rfl;rw[hf]at this;cases this
  |none=>exact e
 have ng:tn 0 s3.heap:=T.keep 0 _ _ n6 λb hb o e=>by
  rw[<-um];exact y0 _ e
 have p9:∀b∈fp,∃o,s3.heap.get? b=some o/\∀v,o.data≠.cell v:=T.obj 0 _ ng;have f3:∀b∈fp,zJ X pins H3 b:=λb hb=>by
  obtain⟨o,ho,_⟩:=T.obj 0 _ n6 b hb;refine⟨?_,(f2 b hb).2⟩;rw[<-vv,aH (z7 (zl ho))];exact(f2 b hb).1
 -- the block's context
 have o3:(X.comp sc N s3.heap.objs.size fp s3 H3).Ok:=by
  refine⟨I.ok.mod,S.kind,I.ok.glob,I.ok.blt,zb _,λx y c e1 e2=>?_,λx hx=>?_,λx c z e=>?_,I.ok.hd,I.ok.frames,.inl rfl,λb hb=>?_,I3.bs,
   Ph I.ok.bsz I3.sz,λb o e hb=>?_,λb hb hf=>?_,I3.stack,I3.stkFree⟩
  ·rcases lj e1 with⟨m1,_,g1⟩|⟨z1,g1⟩ <;> rcases lj e2 with⟨m2,_,g2⟩|⟨z2,g2⟩
   ·exact name_of_addr km.apart m1 m2
   ·exact absurd (zr g2 (Nat.le_of_succ_le g1)) (P3 _)
   ·exact absurd (zr g1 (Nat.le_of_succ_le g2)) (P3 _)
   ·exact I.ok.inj x y c z1 z2
  ·have fr:sc.names.lookup x=some .free->∃c,(Pz (s3.heap.objs.size+1) sc.names (fO X.env.cells sc.names [])).lookup x=some c:=λhf=>
    let ⟨c,hc⟩:=rW (cells:=X.env.cells) (x:=x) sc.names [] (.inr ⟨_,cJ hf,rfl,rfl⟩)
    ⟨c,uh hf hc⟩
   have fin:∀{k},(relabel sc X.env).names.lookup x=some k->(k=.cell\/k=.free)->∃c,(Pz (s3.heap.objs.size+1) sc.names (fO X.env.cells sc.names [])).lookup x=some c:=λ{k} e hk=>by
    rcases jL (sc:=sc) e with z|⟨_,z⟩
    ·rcases hk with rfl|rfl
     ·obtain⟨c,hc⟩:=eW (n:=s3.heap.objs.size+1) (cJ z);exact⟨c,by rw[aW,mZ,hc];rfl⟩
     ·exact fr z
    ·exact fr z
   rcases hx with hx|hx
   ·exact fin hx (.inl rfl)
   ·exact fin hx (.inr rfl)
  ·have z:sc.names.lookup x=some .cell:=by
    have z:(match sc.names.lookup x with|some .cell=>true|_=>false)=true:=z
    split at z
    ·assumption
    ·cases z
   have e:(Pz (s3.heap.objs.size+1) sc.names (fO X.env.cells sc.names [])).lookup x=some c:=e;obtain⟨d,hd⟩:=eW (n:=s3.heap.objs.size+1) (cJ z);rw[aW,mZ,hd]at e;cases e
   exact Nat.le_of_succ_le (km.empty x c (mem_of_lookup hd)).2
  ·obtain⟨o,ho,_⟩:=p9 b hb;refine⟨hC b o ho,λx c e=>?_⟩;rcases lj e with⟨_,_,g1⟩|⟨z1,_⟩
   ·exact RQ (zr (zl ho) (Nat.le_of_succ_le g1))
   ·exact(f3 b hb).2.2.2.2.1 x c z1
  ·rcases(f3 b hb).2.2.2.1 with z|z
   ·exact I.ok.noex b o e z
   ·exact absurd (zr (zl e) (Ph I.ok.bsz z)) (P3 _)
  ·rcases zq.mp (I3.stkSub b hf) with z|z
   ·exact(f3 b hb).2.1 z
   ·exact(f3 b hb).2.2.1 z
 -- what the block takes from around it
 have nj:∀(i:Nat)(x:Str)(v:V),N[i]?=some x->(iJ js σ)[i]?=some (some v)->∃u c o,RelV v u/\((compEnvC sc (Pz (s3.heap.objs.size+1) sc.names (fO X.env.cells sc.names [])) s3.heap.objs.size X.env).kindOf x=some .cell\/(compEnvC sc (Pz (s3.heap.objs.size+1) sc.names (fO X.env.cells sc.names [])) s3.heap.objs.size X.env).kindOf x=some .free)/\
   (Pz (s3.heap.objs.size+1) sc.names (fO X.env.cells sc.names [])).lookup x=some c/\s3.heap.get? c=some o/\o.data=.cell (some u)/\H3 c=none/\c∉fp:=by
  intro i x v hN hv;obtain⟨j,hj,hσ⟩:=GH hv;obtain⟨x',dk,ho,hf⟩:=S.cap i j hj;rw[hN]at dk;cases dk;obtain⟨m,hn,hl⟩:=I3.loc;have qt:Vis X.env.scope x:=by
   rcases S.fr _ (cJ hf) rfl with z|z
   ·exact .inr (.inl z)
   ·exact .inr (.inr z)
  obtain⟨u,r,l⟩:=hl j x v ho hσ qt;obtain⟨c,mw⟩:=rW (cells:=X.env.cells) (x:=x) sc.names [] (.inr ⟨_,cJ hf,rfl,rfl⟩);have qm:=ja x c mw;have c5:s3.heap.IsCell c (some u):=by
   rcases l with⟨k,_⟩|⟨_,c',e,z⟩
   ·exfalso;rcases S.fr _ (cJ hf) rfl with z|z
    ·have k':X.env.scope.names.lookup x=some .local:=k;rw[z]at k';cases k'
    ·have k':X.env.scope.names.lookup x=some .local:=k;rw[z]at k';cases k'
   ·rw[qm]at e;cases e;exact z
  obtain⟨o,dr,hd⟩:=c5;refine⟨u,c,o,r,?_,uh hf mw,dr,hd,I3.freeC x c qm,λhb=>(f3 c hb).2.2.2.2.1 x c qm rfl⟩;exact(mY (env:=X.env) hf).symm
 -- at any state of the block,its names as at its start
 have k7:∀{cf:List (Addr×Obj)}{σ8:St}{H8:Hp}{s8:Shared},Inv (X.comp sc N s3.heap.objs.size fp s3 H3) cf σ8 H8 s8->Inv (X.comp sc N s3.heap.objs.size fp s3 H3) [] (iJ js σ) H8 s8:=λ{cf σ8 H8 s8} I8=>by
  refine⟨I8.ok,I8.os,I8.bare,I8.base,?_,I8.cell,I8.free,I8.freeC,λp hp=>by simp[Cx.comp]at hp,I8.hok,?_⟩
  ·obtain⟨m,hn,_⟩:=I8.loc;refine⟨m,hn,λi x v hN hv _=>?_⟩;obtain⟨u,c,o,r,k,hl,ho,hd,xy,ym⟩:=nj i x v hN hv;refine⟨u,r,.inr ⟨k,c,hl,?_⟩⟩;obtain⟨sl,e⟩:=I8.base.any ho xy ym;exact⟨_,e,hd⟩
  ·show(iJ js σ).length=N.length
   unfold iJ;rw[za,S.len]
 have I4:Inv (X.comp sc N s3.heap.objs.size fp s3 H3) [] (iJ js σ) H3 { s3 with heap:=h₁ }:=by
  refine⟨o3,rfl,I3.bare,Un.kept old,⟨_,kj,λi x v hN hv _=>?_⟩,λx c e=>?_,I3.fresh,λx c e=>?_,λp hp=>by simp[Cx.comp]at hp,I3.hok.kept old,?_⟩
  ·obtain⟨u,c,o,r,k,hl,ho,hd,_,_⟩:=nj i x v hN hv;exact⟨u,r,.inr ⟨k,c,hl,o,old c o ho,hd⟩⟩
  ·rcases lj e with⟨_,g1,_⟩|⟨z1,_⟩
   ·exact⟨_,g1⟩
   ·obtain⟨v,o,ho,hd⟩:=I3.cell x c z1;exact⟨v,o,old c o ho,hd⟩
  ·rcases lj e with⟨_,_,g1⟩|⟨z1,_⟩
   ·exact I3.hok.fresh (by omega)
   ·exact I3.freeC x c z1
  ·show(iJ js σ).length=N.length
   unfold iJ;rw[za,S.len]
 have uv:tn 0 h₁:=T.keep 0 _ _ ng λb hb o e=>old b o e;have jo:∀{H':Hp},(∀b∈fp,H' b=none)->∀b∈fp,zJ (X.comp sc N s3.heap.objs.size fp s3 H3) [] H' b:=λ{H'} hn b hb=>
  ⟨hn b hb,(o3.exf b hb).1,o3.exfs b hb,.inl hb,(o3.exf b hb).2,λp hp=>by simp[Cx.comp]at hp⟩
 have fin:∀(s6:Shared)(H6:Hp),Inv (X.comp sc N s3.heap.objs.size fp s3 H3) [] (iJ js σ) H6 s6->Q (.ref s2.heap.objs.size) H6->compPost (model X.prog X.w) X.A X.xe use Q0 (.ref s2.heap.objs.size) s3.heap.objs.size (.ok .next) s6:=λs6 H6 I6 q6=>by
  have I7:Inv X pins σ H6 s6:=I3.call' (ch:=fp) I6.os I6.base I6.hok I6.bare λb hb=>⟨(f3 b hb).2.2.2.1,(f3 b hb).2.1,(f3 b hb).2.2.2.2.1,(f3 b hb).2.2.2.2.2⟩;refine se _ _ _ _ I7 ⟨let ⟨m,hn,_⟩:=I6.loc;⟨m,hn⟩,I6.free,RQ I3.lt,I3.sz,λx c e=>?_,λp hp=>?_⟩ q6
  ·obtain⟨v,z⟩:=I3.cell x c e;exact z7 z.lt
  ·exact z7 (zl (I3.pin p hp).1)
 have loop:codeAny (model X.prog X.w) X.A (.compLoop (.ListComp elt [⟨tg,iter,ifs,0⟩] sc pos) 0 (.ref it) (.ref s2.heap.objs.size) (compEnvC sc (Pz (s3.heap.objs.size+1) sc.names (fO X.env.cells sc.names [])) s3.heap.objs.size X.env))
   (compPost (model X.prog X.w) X.A X.xe use Q0 (.ref s2.heap.objs.size) s3.heap.objs.size) { s3 with heap:=h₁ }:=by
  refine wZ (λn s'=>∃i H',Inv (X.comp sc N s3.heap.objs.size fp s3 H3) [] (iJ js σ) H' s'/\tn i s'.heap/\(∀b∈fp,H' b=none)/\W i n H') ?_ m0 ⟨0,H3,I4,uv,λb hb=>(f3 b hb).1,w0⟩;rintro n s5 ⟨i,H5,I5,j6,f7,w5⟩;rcases turn i n H5 w5 with⟨stop,qn⟩|⟨go,Nn,hN,step⟩
  ·refine thn (T.done (X.comp sc N s3.heap.objs.size fp s3 H3) rfl rfl rfl hc i [] s5 (iJ js σ) H5 (λ_ _=>False) I5 (jo f7) j6 stop) λr s6 ⟨hr,I6⟩=>?_;subst hr;exact fin s6 H5 I6 qn
  ·refine thn (T.item (X.comp sc N s3.heap.objs.size fp s3 H3) rfl rfl rfl hc i [] s5 (iJ js σ) H5 (λ_ _=>False) I5 (jo f7) j6 go) λr s6 ⟨u,hr,h6⟩=>?_;subst hr;refine thn h6 λ_ s7 hz=>?_;obtain⟨x,H7,I7,r7,y7,rg,wd⟩:=hz;have ya:=I7.pinned (jo wd) (T.obj _ _ rg);refine thn (hg _ _ _ _ _ s7 _ H7 x u _ ya r7 (step x H7 y7)) λ_ s8 ⟨σ8,H8,I8,q8⟩=>?_;refine thn (ht _ _ _ _ _ s8 σ8 H8 _ I8 q8) λb s9 ⟨H9,I9,q9⟩=>?_;have again:∀{σ':St}{H':Hp}{s':Shared},Inv (X.comp sc N s3.heap.objs.size fp s3 H3) ([]++rO fp s7.heap) σ' H' s'->Nn H'->∃m,m<n/\∃i H',Inv (X.comp sc N s3.heap.objs.size fp s3 H3) [] (iJ js σ) H' s'/\tn i s'.heap/\(∀b∈fp,H' b=none)/\W i m H':=λ{σ' H' s'} I' n'=>by
    obtain⟨m',hm,w'⟩:=hN H' n';refine⟨m',hm,i+1,H',k7 I',T.keep _ _ _ rg λb hb o e=>(I'.pin (b,o) (zh _ (zh _ (iF hb e)))).1,λb hb=>?_,w'⟩;obtain⟨o,e,d⟩:=T.obj _ _ rg b hb;exact(I'.pin (b,o) (zh _ (zh _ (iF hb e)))).2.1
   cases b with
   |false=>exact again I9 q9
   |true=>
    refine thn (he _ _ _ _ _ s9 σ8 H9 _ I9 q9) λu' s10 ⟨v,H10,I10,rv,ys,bx,hz,n10⟩=>?_;refine thn (uU (X:=X.comp sc N s3.heap.objs.size fp s3 H3) _ s10 σ8 H10 (.ref s2.heap.objs.size) [v] (.ref s2.heap.objs.size) [u'] (λ_ H'=>Nn H') I10 rfl (.cons rv .nil) ⟨_,ys,v,rfl,rfl,bx,hz,n10⟩) λ_ s11 ⟨_,H11,I11,_,n11⟩=>?_;exact again I11 n11
 exact codeAny_compStart_list loop (T.self X.A 0 _ _ _ uv loop)
theorem GL{elt:Expr}{g:TG}(hc:X.calm=true)(dh:X.env.scope=os)(ib:X.N=oN)(ok:iH os oN sc N js=true)(hi:PI X tg iter wi)(hg:∀C fp s₀ H₀,PG (X.comp sc N C fp s₀ H₀) tg g)(ht:∀C fp s₀ H₀,PTs (X.comp sc N C fp s₀ H₀) ifs tt)(he:∀C fp s₀ H₀,PE (X.comp sc N C fp s₀ H₀) elt te)(hs:∀x,P4 iter X.env x=pure x:=by intro _;rfl):PE X (.ListComp elt [⟨tg,iter,ifs,0⟩] sc pos) (BP js wi g tt te):=by
 intro pins s σ H Q I h;rw[eval_ListComp];refine uX (use:=none) hc dh ib ok hi hg ht he I h (λacc C s6 H6 I6 o q=>?_) hs;exact⟨o.ns.choose,o.ns.choose_spec,λh' dj=>⟨.ref acc,H6,o.go I6 dj,rfl,q⟩⟩
variable{b9 pos':Pos}
theorem B0{elt:Expr}{g:TG}(hN:X.N.Nodup)(dk:X.N[i]?=some x)(ic:X.env.scope.names.lookup x=some .local)(hc:X.calm=true)(dh:X.env.scope=os)(ib:X.N=oN)(ok:iH os oN sc N js=true)(hi:PI X tg iter wi)(hg:∀C fp s₀ H₀,PG (X.comp sc N C fp s₀ H₀) tg g)(ht:∀C fp s₀ H₀,PTs (X.comp sc N C fp s₀ H₀) ifs tt)(he:∀C fp s₀ H₀,PE (X.comp sc N C fp s₀ H₀) elt te)(ku:RS (.ListComp elt [⟨tg,iter,ifs,0⟩] sc pos) (some (.Name x pos')) b9.line X.env=pure true:=by rfl)(hs:∀x,P4 iter X.env x=pure x:=by intro _;rfl):PS X (.Assign [.Name x pos'] (.ListComp elt [⟨tg,iter,ifs,0⟩] sc pos) b9) (Jb (BP js wi g tt te) (DG i)):=by
 intro pins s σ H D I h
 rw[exec_Assign_Name_used _ _ _ _ ku]
 refine yw (wpAny_standAt (yw ?_))
 show wpAny _ X.A (do let _ <-comprehension (.ListComp elt [⟨tg,iter,ifs,0⟩] sc pos) sc X.env _ (newList []) false (eval iter X.env) (some (assign (.Name x pos') X.env))) _ _ s
 refine yw (thn (uX (use:=some (assign (.Name x pos') X.env)) (Q0:=λ_ s'=>SP X pins D .next s') hc dh ib ok hi hg ht he I h (λacc C s6 H6 I6 o q=>?_) hs) λ_ s' hq=>yy (yy hq))
 show wpAny _ X.A (assign (.Name x pos') X.env (.ref acc)) _ _ _
 refine wpAny_assign_Name (uO I6 hN dk (.inl ic) (v:=.ref acc) rfl (λs7 I7 ⟨a,hs7,ha⟩=>?_) (.inr ic))
 have ug:C≠a:=by
  rcases ha with rfl|ha
  ·exact o.loc
  ·exact λe=>o.cells x a ha e.symm
 obtain⟨m,hn⟩:=o.ns
 have o7:Off X pins H6 C s7:=⟨⟨m,hn.sameBut hs7 ug⟩,o.none,o.loc,o.new,o.cells,o.pins⟩
 exact⟨m,hn.sameBut hs7 ug,λh' dj=>⟨_,H6,o7.go I7 dj,q⟩⟩
def LC:V->Option Int->Option Int->Hp->VK->Prop:=λx lo hi H Q=>∃z,x=.str z/\z.length<=zk/\Q (.str (Txt.slice z lo hi)) H
theorem part_of{v:Value}{o:Option Int}(h:IsPart v o):∃p:Option (Int×Tok),v=partValue p/\p.map (·.1)=o:=by
 cases h with
 |none=>exact⟨none,rfl,rfl⟩
 |int i t=>exact⟨some (i,t),rfl,rfl⟩
theorem JE:SlR X LC:=by
 intro pins s σ H x v vl vu lo hi sl Q I rx hs pl pu h;obtain⟨z,rfl,hz,q⟩:=h;obtain⟨t,rfl⟩:=rx;obtain⟨l,rfl,rfl⟩:=part_of pl;obtain⟨u,rfl,rfl⟩:=part_of pu;obtain⟨o,ho,hc,hd⟩:=hs;refine⟨"str",_,PySem.F.slot_str_getitem.lookup,typeIs_str s z t,?_⟩;refine wpAny_getItem_str_slice (l:=l) (u:=u) (st:=none) ⟨o,ho,hc,hd⟩ rfl ?_;have e:sliceMade z t l u none=if((1:Int) == 1&&(Rn (l.map (·.1)) (u.map (·.1)) 1 z.length).length == z.length)=true then Made.val (.str z t) else Made.str ⟨((Rn (l.map (·.1)) (u.map (·.1)) 1 z.length).filterMap (z.cps[·]?)).toArray⟩:=rfl;have hle:=Txt.slice_le z (l.map (·.1)) (u.map (·.1));unfold Txt.slice at q hle;rw[e]
 by_cases nu:((1:Int) == 1&&(Rn (l.map (·.1)) (u.map (·.1)) 1 z.length).length == z.length)=true
 ·rw[if_pos nu]at q⊢;exact⟨.str z,H,I,⟨t,rfl⟩,q⟩
 ·rw[if_neg nu]at q hle⊢;exact⟨Ph hle hz,.str _,H,I.tok _,⟨_,rfl⟩,q⟩
theorem rX:∀{ss:List Str}{us:List Value},aJ (ss.map V.str) us->StrsAre us ss
 |[],_,r=>by cases r;exact .nil
 |x::ss,_,r=>by
  cases r with
  |cons h t=>
   obtain⟨tk,rfl⟩:=h;exact .cons x tk (rX t)
theorem uY:∀{us:List Value}{ss:List Str},StrsAre us ss->aJ (ss.map V.str) us
 |_,_,.nil=>.nil
 |_,_,.cons x t h=>.cons ⟨t,rfl⟩ (uY h)
theorem oV:bT X (.builtin "sorted") (λxs H Q=>∃p ss,xs=[.ref p]/\SqL X.K H p (ss.map V.str)/\ss.length<64/\
  ∀l di,H l=none->di.Perm ss->sortedS di=true->Q (.ref l) (upd H l (.lst (di.map V.str)))):=by
 intro pins s σ H xs us Q I r h;obtain⟨p,ss,rfl,hq,da,q⟩:=h;obtain⟨u,rfl,ru⟩:=vals1 r;cases ru
 obtain⟨its,rv,pl,hz⟩:=I.list hq;have hlen:=rv.length;rw[za]at hlen;refine sorted_strs pl.isList (rX rv) (by omega) λout di a1 a2 a3=>?_;obtain⟨e,he⟩:=sortedAll_at s.heap its out;refine⟨.ref (s.heap.objs.size+1),_,I.laid (t':=s.toks) (o:=.lst (di.map V.str)) (λb ob h=>sortedAll_old h) (Qv _) ?_,rfl,q _ di (I.hok.fresh (Qv _)) a2 a3⟩;refine⟨?_,out.toList,e,uY a1,by rw[he]⟩;rw[za,a2.length_eq];exact QH (Nat.lt_trans da (by decide))
variable{es:List Expr}
theorem gT{k:Nat}{t:TGs}(K:yz)(hK:X.K=K)(hc:X.calm=true)(h:PGs X es t)(hn:(QG es X.env).length=n:=by rfl)(cg:(QG es X.env).findIdx? (·.1)=none:=by rfl):PG X (.Tuple es k pos) (Lj K n t):=by subst hK;exact Ja hc h hn cg
variable{e:Expr}{f:Value->Value->Sem Value}{g:Int->Int->Int}
section
variable{a b:Expr}{t t' tb:TE}
theorem PE.imp(h:PE X e t)(i:∀σ H Q,t' σ H Q->t σ H Q):PE X e t':=λpins s σ H Q I q=>h pins s σ H Q I (i σ H Q q)
theorem PT.imp{t t':TT}(h:PT X e t)(i:∀σ H Q,t' σ H Q->t σ H Q):PT X e t':=λpins s σ H Q I q=>h pins s σ H Q I (i σ H Q q)
theorem OpR.imp{r r':R2}(h:OpR X f r)(i:∀x y H Q,r' x y H Q->r x y H Q):OpR X f r':=λpins s σ H x y v u Q I rx ry q=>h pins s σ H x y v u Q I rx ry (i x y H Q q)
theorem bT.imp{f:Value}{r r':List V->Hp->VK->Prop}(h:bT X f r)(i:∀xs H Q,r' xs H Q->r xs H Q):bT X f r':=λpins s σ H xs us Q I rx q=>h pins s σ H xs us Q I rx (i xs H Q q)
def LD(K:yz):R2:=λx y H Q=>match x,y with
 |.int i,.int j=>Q (.int (i+j)) H
 |.str i,.str j=>i.length+j.length<=zk/\Q (.str (i++j)) H
 |.ref _,.ref _=>Lx x y H Q\/IC K x y H Q
 |_,_=>False
theorem GM(K:yz)(hK:X.K=K):OpR X (PK .Add) (LD K):=by
 subst hK;refine(Jh.or (AJ.or (Jx.or GD))).imp λx y H Q h=>?_;cases x <;> cases y <;> first
  |exact .inl ⟨_,_,rfl,rfl,h⟩
  |exact .inr (.inl ⟨_,_,rfl,rfl,h.1,h.2⟩)
  |exact .inr (.inr h)
  |exact h.elim
def uZ(C:Int->Int->Prop)(f:Int->Int->Int):R2:=λx y H Q=>match x,y with
 |.int i,.int j=>C i j/\Q (.int (f i j)) H
 |_,_=>False
def E9(f:Int->Int->Int):R2:=λx y H Q=>match x,y with
 |.int i,.int j=>Q (.int (f i j)) H
 |_,_=>False
theorem qY{C:Int->Int->Prop}(h:OpR X f (rI C λi j=>.int (g i j))):OpR X f (uZ C g):=
 h.imp λx y H Q q=>by cases x <;> cases y <;> first|exact⟨_,_,rfl,rfl,q.1,q.2⟩|exact q.elim
theorem Ea(h:OpR X f (rI0 λi j=>.int (g i j))):OpR X f (E9 g):=
 h.imp λx y H Q q=>by cases x <;> cases y <;> first|exact⟨_,_,rfl,rfl,q⟩|exact q.elim
theorem GN:OpR X (PK .Sub) (E9 λi j=>i-j):=Ea Ji
theorem GO:OpR X (PK .Mult) (uZ zL λi j=>i*j):=qY Jj
theorem GP:OpR X (PK .FloorDiv) (uZ DM λi j=>i/j):=qY Gn
theorem GQ:OpR X (PK .Mod) (uZ (λ_ j=>0<j) λi j=>i%j):=qY Jk
theorem GR:OpR X (PK .Pow) (uZ Cv λi j=>i ^ j.toNat):=qY Jl
def BQ(f:Int->Int->Bool)(g:List Nat->List Nat->Bool):R2:=λx y H Q=>match x,y with
 |.int i,.int j=>Q (.bl (f i j)) H
 |.str i,.str j=>Q (.bl (g i.cps.toList j.cps.toList)) H
 |_,_=>False
theorem BR{p:Int->Int->Bool}{g:List Nat->List Nat->Bool}(h1:OpR X f (rI0 λi j=>.bl (p i j)))(h2:OpR X f (λx y H Q=>∃i j,x=.str i/\y=.str j/\Q (.bl (g i.cps.toList j.cps.toList)) H)):OpR X f (BQ p g):=
 (h1.or h2).imp λx y H Q q=>by cases x <;> cases y <;> first|exact .inl ⟨_,_,rfl,rfl,q⟩|exact .inr ⟨_,_,rfl,rfl,q⟩|exact q.elim
theorem JF:OpR X (z8 .Lt) (BQ (λi j=>decide (i<j)) λi j=>decide (i<j)):=BR Lo Cw
theorem JG:OpR X (z8 .Gt) (BQ (λi j=>decide (j<i)) λi j=>decide (j<i)):=BR Lp λpins s σ H x y v u Q I rx ry h=>by
 obtain⟨i,j,rfl,rfl,q⟩:=h;obtain⟨t,rfl⟩:=rx;obtain⟨t',rfl⟩:=ry;exact PySem.P.gt_str (rP I q rfl)
end
variable{ta:TE}{vs:List V}
section
variable{a b:Expr}{t t' tb:TE}
theorem IF{x:V}{Q:Bool->Prop}(h:match x with|.bl c=>Q c|_=>False):∃c,x=.bl c/\Q c:=by
 cases x <;> first|exact⟨_,rfl,h⟩|exact h.elim
def O6(ta tb:TE):TE:=λσ H Q=>ta σ H λx H1=>match x with
 |.bl c=>if c=true then tb σ H1 Q else Q (.bl false) H1
 |_=>False
def O7(ta:TE):TE:=λσ H Q=>ta σ H λx H1=>match x with
 |.bl c=>Q (.bl (!c)) H1
 |_=>False
theorem GS{rest:List Expr}(ha:PE X a ta)(hb:PE X (.BoolOp .And (b::rest) pos) tb):PE X (.BoolOp .And (a::b::rest) pos) (O6 ta tb):=by
 intro pins s σ H Q I h;refine BoolOp_and (thn (ha pins s σ H _ I h) λv s1 hz=>?_);obtain⟨x,H1,I1,r1,q1⟩:=hz;obtain⟨c,rfl,q1⟩:=IF q1;cases r1
 refine Qz ?_;cases c with
 |true=>exact hb pins s1 σ H1 Q I1 q1
 |false=>exact⟨.bl false,H1,I1,rfl,q1⟩
theorem GT(ha:PE X a ta):PE X (.UnaryOp .Not a pos) (O7 ta):=by
 intro pins s σ H Q I h;refine UnaryOp_ (thn (ha pins s σ H _ I h) λv s1 hz=>?_);obtain⟨x,H1,I1,r1,q1⟩:=hz;obtain⟨c,rfl,q1⟩:=IF q1;cases r1
 exact not_of (Qz ⟨.bl (!c),H1,I1,rfl,q1⟩)
theorem GU(hu:X.A.units+1<cLine):IxR X (λx y H Q=>∃p v,x=.ref p/\lG H p y (some v)/\Q v H):=by
 intro value slice pins s σ H x y v u Q I rx ry h hs;obtain⟨p,w,rfl,g,q⟩:=h;cases rx
 have hT:=zS I g;unfold subscriptTail;refine yw ?_;rw[getitemInPython_of_ne hT.not_modules];refine yw (Qr hT PySem.F.slot_dict_getitem.lookup ?_);have fin:wpAny (model X.prog X.w) X.A (subscripted slice false (.ref p) u) (λr s₃=>wpAny (model X.prog X.w) X.A (letTemporaryGo value (.ref p) r >>= λ_=>pure r) (EP X pins σ Q) X.xe s₃) X.xe s:=by
  rw[hs];exact wpAny_operating (CK hu I g ry λw' s3 I3 bt=>yw (wpAny_letTemporaryGo (yy ⟨w,H,I3,bt,q⟩)))
 first
  |exact yy (yw fin)
  |exact yw (yy (yw fin))
  |exact yw fin
def LF(K:yz):R2:=λx y H Q=>match x with
 |.str z=>(match y with
  |.int i=>z.length<=zk/\∃c,atI z.cps.toList i=some c/\Q (.str ⟨#[c]⟩) H
  |_=>False)
 |.ref p=>(∃xs i v,y=.int i/\(SqL K H p xs\/SqT K H p xs)/\atI xs i=some v/\Q v H)\/∃v,lG H p y (some v)/\Q v H
 |_=>False
theorem IxR.imp{r r':R2}(h:IxR X r)(i:∀x y H Q,r' x y H Q->r x y H Q):IxR X r':=λa b pins s σ H x y v u Q I rx ry q hs=>h a b pins s σ H x y v u Q I rx ry (i x y H Q q) hs
theorem ixC(hu:X.A.units+1<cLine)(K:yz)(hK:X.K=K):IxR X (LF K):=by
 subst hK;refine(GE.or (Jt.or (Ju.or (GU hu)))).imp λx y H Q h=>?_;cases x with
 |str z=>
  cases y with
  |int i=>obtain⟨h1,c,h2,h3⟩:=h;exact .inr (.inr (.inl ⟨z,i,c,rfl,rfl,h1,h2,h3⟩))
  |_=>exact h.elim
 |ref p=>
  rcases h with⟨xs,i,v,rfl,hs|hs,ha,hq⟩|⟨v,g,hq⟩
  ·exact .inl ⟨p,xs,i,v,rfl,rfl,hs,ha,hq⟩
  ·exact .inr (.inl ⟨p,xs,i,v,rfl,rfl,hs,ha,hq⟩)
  ·exact .inr (.inr (.inr ⟨p,v,rfl,g,hq⟩))
 |_=>exact h.elim
theorem JH(hu:X.A.units+1<cLine)(K:yz)(hK:X.K=K):OpR X (z8 .In) (λx y H Q=>rIn K false x y H Q\/∃a o,y=.ref a/\lG H a x o/\Q (.bl o.isSome) H):=by
 subst hK;refine CG.or λpins s σ H x y v u Q I rx ry h=>?_;obtain⟨a,o,rfl,g,q⟩:=h;cases ry
 exact O5 hu I g rx λs' I'=>⟨.bl o.isSome,H,I',rfl,q⟩
theorem CO(hu:X.A.units+1<cLine)(K:yz)(hK:X.K=K):OpR X (z8 .NotIn) (λx y H Q=>rIn K true x y H Q\/∃a o,y=.ref a/\lG H a x o/\Q (.bl (!o.isSome)) H):=by
 subst hK;refine wV.or λpins s σ H x y v u Q I rx ry h=>?_;obtain⟨a,o,rfl,g,q⟩:=h;cases ry
 exact GG hu I g rx λs' I'=>⟨.bl (!o.isSome),H,I',rfl,q⟩
def LG(K:yz):List V->Hp->VK->Prop:=λxs H Q=>match xs with
 |[.str y]=>y.length<=zk/\Q (.int y.length) H
 |[.ref p]=>(∃xs,(SqL K H p xs\/SqT K H p xs)/\Q (.int xs.length) H)\/∃kvs,H p=some (.dK kvs)/\Q (.int kvs.length) H
 |_=>False
theorem CP(K:yz)(hK:X.K=K):bT X (.builtin "len") (LG K):=by
 subst hK;intro pins s σ H xs us Q I r h
 match xs,h with
 |[.str y],h=>exact DQ pins s σ H _ us Q I r ⟨_,_,rfl,⟨h.1,rfl⟩,h.2⟩
 |[.ref p],h=>
  rcases h with⟨ys,hs,q⟩|⟨kvs,hs,q⟩
  ·exact wW pins s σ H _ us Q I r ⟨p,ys,rfl,hs,q⟩
  ·exact CM pins s σ H _ us Q I r ⟨p,kvs,rfl,hs,q⟩
def LH:List V->Hp->VK->Prop:=λxs H Q=>match xs with
 |[.int i,.int j]=>Q (.int (if j>i then j else i)) H
 |_=>False
theorem CQ(hc:X.calm=true):bT X (.builtin "max") LH:=(Cy hc).imp λxs H Q h=>by
 match xs,h with
 |[.int i,.int j],h=>exact⟨i,j,rfl,h⟩
theorem B1(K:yz)(hK:X.K=K):bT X (.type "list") (λxs H Q=>∃p ys,xs=[.ref p]/\(SqL K H p ys\/SqT K H p ys)/\∀l,H l=none->Q (.ref l) (upd H l (.lst ys))):=by subst hK;exact wX
theorem zU(K:yz)(hK:X.K=K):bT X (.type "tuple") (λxs H Q=>∃p ys,xs=[.ref p]/\((SqL K H p ys/\∀l,H l=none->Q (.ref l) (upd H l (.tup ys)))\/(SqT K H p ys/\Q (.ref p) H))):=by subst hK;exact uM
def LI(ta:TA):TI:=λσ H R=>ta σ H λvs H1=>match vs with
 |[.int j]=>(-(2 ^ 62)<=j/\j<2 ^ 62)/\R (Itr 0 j.toNat) H1
 |_=>False
theorem GV{Q:Int->Prop}(h:match vs with|[.int i]=>Q i|_=>False):∃i,vs=[.int i]/\Q i:=by
 split at h
 · exact⟨_,rfl,h⟩
 · exact h.elim
theorem pr1{x:Expr}{ta:TA}{p:Pos}(hg:Gl X "range")(hm:X.mg "range" = none)(ha:PA X [x] ta)(hs:zx [x] X.env=[(false,eval x X.env)]:=by rfl):PI X tg (.Call (.Name "range" p) [x] [] pos) (LI ta):=by
 intro pins s σ H R I h;refine Call_ (oR I hg hm boot_range (PyProof.Rows.callWith_type1 (thn (ha pos pins s σ H _ I h) λus s1 hz=>?_) hs rfl));obtain⟨vs,H1,I1,r1,q1⟩:=hz;obtain⟨j,rfl,⟨h1,h2⟩,q⟩:=GV q1;obtain⟨u,rfl,t,rfl⟩:=vals1 r1;exact call_range_1 (DL I1 (by omega) (by omega) h1 h2 (by simpa using q))
def LJ(t:TE):TO:=λσ H Q=>t σ H λx H1=>match x with
 |.int i=>Q (some i) H1
 |_=>False
theorem Eb{x:Expr}(h:PE X x te):PO X (some x) (LJ te):=by
 intro pins s σ H Q I hw;rw[evalPart_some];refine thn (h pins s σ H _ I hw) λu s1 hz=>?_;obtain⟨x,H1,I1,r1,q1⟩:=hz;cases x with
 |int i=>
  obtain⟨t,rfl⟩:=r1;exact⟨some i,H1,I1,.int i t,q1⟩
 |_=>exact q1.elim
end
structure Def(K:yz)(mg:Str->Option Value)(x:Str)(st:Stmt)(f:Addr)(fd:Qe)(ps:List Str):Prop where
 fn:Fun K x x st f fd
 mg:mg x=some (.ref f)
 bd:Binds K fd ps []
theorem LK{f:Addr}{k:Nat}{t:TA}{p:Pos}(D:Def X.K X.mg x st f fd ps)(G:cD X.prog X.w X.K X.mg X.base CX0 k f fd ps sp)(hr:dZ k X.A)(ha:PA X (e::es) t)(hg:Gl X x:=by rfl)(bf:(x == ("__debug__" : Str))=false:=by decide)(he:zx (e::es) X.env=(false,eval e X.env)::zx es X.env:=by rfl)(ay:(backTo pos (zx es X.env)).any (·.1)=false:=by rfl):
  PE X (.Call (.Name x p) (e::es) [] pos) (DT sp [] E0 t):=Gz G hr hg D.mg D.fn.kp D.bd .nil zP ha bf he ay
theorem JI{α:Type}{xs:List α}{i:Int}(h0:0<=i)(h1:i<xs.length):∃v,atI xs i=some v/\xs[i.toNat]?=some v:=by
 have h2:i.toNat<xs.length:=by omega
 refine⟨xs[i.toNat],?_,by simp[h2]⟩;unfold atI ixN;rw[if_pos h0,if_pos h1];simp[h2]
theorem aR{α:Type}{xs:List α}{v:α}(h:xs[i]?=some v):atI xs (i:Int)=some v:=by
 have h1:=(yx.mp h).1;unfold atI ixN;rw[if_pos (by omega),if_pos (by omega)];simpa using h
variable{o:HO}
theorem zQ.upd(h:H a=none):zQ H (upd H a o):=λb u e=>by
 rw[aH (cI e h)];exact e
theorem Def.mk'{h:Heap}{f:Addr}{oc:Value}{kV:Value}(X:K.In h)(G:h.Ns PM mg)(a:PySem.W.nsIn K PM x=some (some (.ref f)))(l:K.lookup f=some ⟨oc,od,.func (Qd x x (eB st) (bU st) (aQ st) .none kV doc pm an cdv ct),osl⟩)(c:RW K cdv x=true)(k:Qo K (.ref f)=true)(b:∀(kV doc pm:Value)(an:Option Addr)(cdv ct:Value)(us:List Value),us.length=ps.length->bindArgs (Qd x x (eB st) (bU st) (aQ st) .none kV doc pm an cdv ct) ⟨us,[]⟩=pure (ps.zip us)):
  Def K mg x st f (Qd x x (eB st) (bU st) (aQ st) .none kV doc pm an cdv ct) ps:=
 ⟨AX l c k,Rv X G a,(AX (st:=st) l c k).binds b⟩
open PySem PySem.Spec PyProof.Rows PySem.SeqAt
inductive D where
 |non|bl (b:Bool)|int (i:Int)|str (x:Str)|tup (xs:List D)
mutual
def D.depth:D->Nat
 |.tup xs=>D.depths xs+1
 |_=>0
def D.depths:List D->Nat
 |[]=>0
 |x::xs=>max (D.depth x) (D.depths xs)
end
theorem D.depths_le:∀{xs:List D}{i:Nat}{d:D},xs[i]?=some d->d.depth<=D.depths xs
 |[],_,_,h=>by simp at h
 |x::xs,0,d,h=>by
  have:x=d:=by simpa using h
  subst this
  show x.depth<=max x.depth (D.depths xs)
  omega
 |x::xs,i+1,d,h=>by
  have:=D.depths_le (xs:=xs) (i:=i) (d:=d) (by simpa using h)
  show d.depth<=max x.depth (D.depths xs)
  omega
mutual
/-- the value x is the datum,in the heap H -/
def Rep(K:yz)(H:Hp):D->V->Prop
 |.non,v=>v=.non
 |.bl b,v=>v=.bl b
 |.int i,v=>v=.int i
 |.str x,v=>v=.str x
 |.tup ds,v=>∃a vs,v=.ref a/\SqT K H a vs/\cP K H ds vs
def cP(K:yz)(H:Hp):List D->List V->Prop
 |[],[]=>True
 |d::ds,v::vs=>Rep K H d v/\cP K H ds vs
 |[],_::_=>False
 |_::_,[]=>False
end
mutual
/-- == -/
def eqD:D->D->Bool
 |.non,.non=>true
 |.bl a,.bl b=>a == b
 |.bl a,.int b=>(if a then 1 else 0) == b
 |.int a,.bl b=>a == (if b then 1 else 0)
 |.int a,.int b=>a == b
 |.str a,.str b=>a == b
 |.tup xs,.tup ys=>eM xs ys
 |_,_=>false
def eM:List D->List D->Bool
 |[],[]=>true
 |x::xs,y::ys=>eqD x y&&eM xs ys
 |[],_::_=>false
 |_::_,[]=>false
end
mutual
/-- < (none: an error) -/
def ltD:D->D->Option Bool
 |.int a,.int b=>some (decide (a<b))
 |.str a,.str b=>some (decide (a.cps.toList<b.cps.toList))
 |.tup xs,.tup ys=>xC xs ys
 |_,_=>none
def xC:List D->List D->Option Bool
 |[],[]=>some false
 |[],_::_=>some true
 |_::_,[]=>some false
 |x::xs,y::ys=>if eqD x y=true then xC xs ys else ltD x y
end
mutual
theorem gZ:∀d:D,eqD d d=true
 |.non=>rfl
 |.bl b=>by simp[eqD]
 |.int i=>by simp[eqD]
 |.str x=>by simp[eqD]
 |.tup xs=>by simp only[eqD];exact vA xs
theorem vA:∀ds:List D,eM ds ds=true
 |[]=>rfl
 |d::ds=>by simp only[eM,gZ d,vA ds,Bool.and_self]
end
def jM(H H':Hp):Prop:=∀a xs,Rd H a (.tup xs)->Rd H' a (.tup xs)
theorem jM.refl(H:Hp):jM H H:=λ_ _ h=>h
variable{H1 H2:Hp}
theorem jM.trans(a:jM H H1)(b:jM H1 H2):jM H H2:=λc xs h=>b c xs (a c xs h)
theorem jM.same(s:zQ H H'):jM H H':=λa xs h=>by
 rcases h with h|⟨o,h⟩
 ·exact .inl (s _ _ h)
 ·exact .inr ⟨o,s _ _ h⟩
def qK:Option HO->Prop
 |some (.tup _)=>False
 |some (.frz _ _)=>False
 |_=>True
theorem jM.upd{p:Addr}(h:qK (H p)):jM H (upd H p o):=λa xs q=>by
 have ne:a≠p:=by
  rintro rfl;rcases q with q|⟨ob,q⟩
  ·rw[q]at h;exact h
  ·rw[q]at h;exact h
 rcases q with q|⟨ob,q⟩
 ·exact .inl (by rw[aH ne];exact q)
 ·exact .inr ⟨ob,by rw[aH ne];exact q⟩
theorem jM.sq{xs:List V}(t:jM H H')(h:SqT K H a xs):SqT K H' a xs:=by
 rcases h with h|h
 ·exact .inl (t a xs h)
 ·exact .inr h
theorem cP.length:∀{ds:List D}{vs:List V},cP K H ds vs->ds.length=vs.length
 |[],[],_=>rfl
 |_::_,_::_,⟨_,r⟩=>by simp[cP.length r]
 |[],_::_,h=>h.elim
 |_::_,[],h=>h.elim
theorem cP.get:∀{ds:List D}{vs:List V}{i:Nat}{v:V},cP K H ds vs->vs[i]?=some v->∃d,ds[i]?=some d/\Rep K H d v
 |[],[],_,_,_,e=>by simp at e
 |d::_,w::_,0,v,⟨h,_⟩,e=>by
  have:w=v:=by simpa using e
  subst this;exact⟨d,rfl,h⟩
 |_::ds,_::vs,i+1,v,⟨_,r⟩,e=>by
  obtain⟨d,h1,h2⟩:=cP.get (ds:=ds) (vs:=vs) (i:=i) (v:=v) r (by simpa using e)
  exact⟨d,by simpa using h1,h2⟩
 |[],_::_,_,_,h,_=>h.elim
 |_::_,[],_,_,h,_=>h.elim
theorem cP.at:∀{ds:List D}{vs:List V}{i:Nat}{d:D},cP K H ds vs->ds[i]?=some d->∃v,vs[i]?=some v/\Rep K H d v
 |[],[],_,_,_,e=>by simp at e
 |d::_,w::_,0,d',⟨h,_⟩,e=>by
  have:d=d':=by simpa using e
  subst this;exact⟨w,rfl,h⟩
 |_::ds,_::vs,i+1,d,⟨_,r⟩,e=>by
  obtain⟨v,h1,h2⟩:=cP.at (ds:=ds) (vs:=vs) (i:=i) (d:=d) r (by simpa using e)
  exact⟨v,by simpa using h1,h2⟩
 |[],_::_,_,_,h,_=>h.elim
 |_::_,[],_,_,h,_=>h.elim
variable{b:Bool}{cy:List V}{its its':List Value}
section
theorem eN{v:Value}(h:RcAt A s v u b)(hs:v=u->b=true)(hf:∀f t,v≠.float f t):EqAt A s v u b:=λprog w E Q hq=>by
 unfold eqBool;refine PF ?_;refine wpAny_ite_split (λyh=>?_) (λ_=>?_)
 ·have e:=hs (eq_of_beq yh);subst e;exact yw (wpAny_rule (yy hq))
 ·cases v <;> first|exact absurd rfl (hf _ _)|exact yw (h prog w E _ (Qz hq))|(cases u <;> exact yw (h prog w E _ (Qz hq)))
theorem vB{d:D}{x:V}{v:Value}(h:Rep K H d x)(r:RelV x v):∀f t,v≠.float f t:=λf t e=>by
 subst e;cases d with
 |non=>cases h;cases r
 |bl b=>cases h;cases r
 |int b=>cases h;obtain⟨_,z⟩:=r;cases z
 |str b=>cases h;obtain⟨_,z⟩:=r;cases z
 |tup ds=>obtain⟨_,_,rfl,_⟩:=h;cases r
theorem kE(I:Inv X pins σ H s):∀(n:Nat)(d e:D)(v:V),d.depth<=n->Rep X.K H d v->Rep X.K H e v->d=e
 |n,.non,e,v,_,h,h'=>by
  cases h
  cases e <;> first|(obtain⟨_,_,z,_⟩:=h';exact absurd z (by intro q;cases q))|rfl|exact absurd h' (by intro z;cases z)
 |n,.bl b,e,v,_,h,h'=>by
  cases h
  cases e <;> first|(obtain⟨_,_,z,_⟩:=h';exact absurd z (by intro q;cases q))|(cases h';rfl)|exact absurd h' (by intro z;cases z)
 |n,.int i,e,v,_,h,h'=>by
  cases h
  cases e <;> first|(obtain⟨_,_,z,_⟩:=h';exact absurd z (by intro q;cases q))|(cases h';rfl)|exact absurd h' (by intro z;cases z)
 |n,.str x,e,v,_,h,h'=>by
  cases h
  cases e <;> first|(obtain⟨_,_,z,_⟩:=h';exact absurd z (by intro q;cases q))|(cases h';rfl)|exact absurd h' (by intro z;cases z)
 |0,.tup ds,e,v,hd,h,h'=>absurd hd (by show ¬ D.depths ds+1<=0;omega)
 |n+1,.tup ds,e,v,hd,h,h'=>by
  obtain⟨a,vs,rfl,q,r⟩:=h;cases e with
  |tup es=>
   obtain⟨a',cy,ea,q',r'⟩:=h';cases ea
   have:=I.tuple_inj q q';subst this;have gi:D.depths ds+1<=n+1:=hd;have:ds=es:=by
    apply QA;intro i;cases hi:ds[i]? with
    |none=>
     have h1:=r.length;have h2:=r'.length;have:ds.length<=i:=List.getElem?_eq_none_iff.mp hi;exact(List.getElem?_eq_none_iff.mpr (by omega)).symm
    |some d=>
     obtain⟨v,hv,hr⟩:=r.at hi;obtain⟨e,he,yq⟩:=r'.get hv;rw[he,kE I n d e v (by have:=D.depths_le hi;omega) hr yq]
   rw[this]
  |_=>cases h'
theorem nA{xs ys:List D}:((Io (min xs.length ys.length)).all (λj=>match xs[j]?,ys[j]? with|some x,some y=>eqD x y|_,_=>false)&&xs.length == ys.length)=eM xs ys:=by
 induction xs generalizing ys with
 |nil=>
  cases ys with
  |nil=>rfl
  |cons y ys=>simp[eM]
 |cons x xs ih=>
  cases ys with
  |nil=>simp[eM]
  |cons y ys=>
   have:=ih (ys:=ys);have e:min (x::xs).length (y::ys).length=min xs.length ys.length+1:=by simp only[Pt];omega
   rw[e,List.range_succ_eq_map,QL,List.all_map];simp only[List.getElem?_cons_zero,Function.comp_def,Qa,Pt,eM];rw[<-this];have e2:(xs.length+1 == ys.length+1)=(xs.length == ys.length):=by simp
   rw[e2,Bool.and_assoc]
theorem LL(I:Inv X pins σ H s):∀(n:Nat)(d e:D)(A:Around)(x y:V)(v u:Value),d.depth<=n->A.units+n<cLine->Rep X.K H d x->Rep X.K H e y->RelV x v->RelV y u->RcAt A s v u (eqD d e):=by
 intro n
 induction n with
 |zero=>
  intro d e A x y v u hd hu hx hy rx ry;cases d with
  |tup ds=>exact absurd hd (by show ¬ D.depths ds+1<=0;omega)
  |non=>
   cases hx;cases rx;cases e with
   |non=>cases hy;cases ry;exact RcAt.none_none
   |bl b=>cases hy;cases ry;exact RcAt.none_bool b
   |int b=>cases hy;obtain⟨t,rfl⟩:=ry;exact RcAt.none_int b t
   |str b=>cases hy;obtain⟨t,rfl⟩:=ry;exact RcAt.none_str b t
   |tup es=>obtain⟨a,vs,rfl,q,r⟩:=hy;cases ry;obtain⟨its,_,p,_⟩:=I.tuple q;exact RcAt.none_tuple p (by omega)
  |bl a=>
   cases hx;cases rx;cases e with
   |non=>cases hy;cases ry;exact RcAt.bool_none a
   |bl b=>cases hy;cases ry;exact RcAt.bool_bool a b
   |int b=>cases hy;obtain⟨t,rfl⟩:=ry;exact RcAt.bool_int a b t
   |str b=>cases hy;obtain⟨t,rfl⟩:=ry;exact RcAt.bool_str a b t
   |tup es=>obtain⟨a',vs,rfl,q,r⟩:=hy;cases ry;obtain⟨its,_,p,_⟩:=I.tuple q;exact RcAt.bool_tuple a p (by omega)
  |int a=>
   cases hx;obtain⟨t',rfl⟩:=rx;cases e with
   |non=>cases hy;cases ry;exact RcAt.int_none a t'
   |bl b=>cases hy;cases ry;exact RcAt.int_bool a t' b
   |int b=>cases hy;obtain⟨t,rfl⟩:=ry;exact RcAt.int_int a t' b t
   |str b=>cases hy;obtain⟨t,rfl⟩:=ry;exact RcAt.int_str a t' b t
   |tup es=>obtain⟨a',vs,rfl,q,r⟩:=hy;cases ry;obtain⟨its,_,p,_⟩:=I.tuple q;exact RcAt.int_tuple a t' p (by omega)
  |str a=>
   cases hx;obtain⟨t',rfl⟩:=rx;cases e with
   |non=>cases hy;cases ry;exact RcAt.str_none a t'
   |bl b=>cases hy;cases ry;exact RcAt.str_bool a t' b
   |int b=>cases hy;obtain⟨t,rfl⟩:=ry;exact RcAt.str_int a t' b t
   |str b=>cases hy;obtain⟨t,rfl⟩:=ry;exact RcAt.str_str a t' b t
   |tup es=>obtain⟨a',vs,rfl,q,r⟩:=hy;cases ry;obtain⟨its,_,p,_⟩:=I.tuple q;exact RcAt.str_tuple a t' p (by omega)
 |succ n ih=>
  intro d e A x y v u hd hu hx hy rx ry
  by_cases h0:d.depth<=n
  ·exact ih d e A x y v u h0 (by omega) hx hy rx ry
  ·cases d with
   |non=>exact absurd (show D.depth .non<=n from zz n) h0
   |bl b=>exact absurd (show D.depth (.bl b)<=n from zz n) h0
   |int b=>exact absurd (show D.depth (.int b)<=n from zz n) h0
   |str b=>exact absurd (show D.depth (.str b)<=n from zz n) h0
   |tup ds=>
    have i9:D.depths ds<=n:=by have:D.depths ds+1<=n+1:=hd;omega
    obtain⟨a,vs,rfl,q,r⟩:=hx;cases rx
    obtain⟨its,rv,p,_⟩:=I.tuple q;cases e with
    |non=>cases hy;cases ry;exact RcAt.tuple_none p (by omega)
    |bl b=>cases hy;cases ry;exact RcAt.tuple_bool b p (by omega)
    |int b=>cases hy;obtain⟨t,rfl⟩:=ry;exact RcAt.tuple_int b t p (by omega)
    |str b=>cases hy;obtain⟨t,rfl⟩:=ry;exact RcAt.tuple_str b t p (by omega)
    |tup es=>
     obtain⟨a',cy,rfl,q',r'⟩:=hy;cases ry
     obtain⟨its',ak,p',_⟩:=I.tuple q';have l1:=r.length;have l2:=r'.length;have l3:=rv.length;have l4:=ak.length;have key:=RcAt.tuples (A:=A) (e:=λj=>match ds[j]?,es[j]? with|some x,some y=>eqD x y|_,_=>false) p p' (by omega) (λj h1 h2=>by
      have fw:j<ds.length:=by simp at h1;omega
      have cm:j<es.length:=by simp at h2;omega
      have g1:ds[j]?=some ds[j]:=by simp[fw]
      have g2:es[j]?=some es[j]:=by simp[cm]
      obtain⟨xv,j4,fg⟩:=r.at g1;obtain⟨yv,jk,gu⟩:=r'.at g2;obtain⟨xu,gq,b6⟩:=rv.get j4;obtain⟨yu,ij,bg⟩:=ak.get jk;have e1:its.toArray[j]=xu:=by
       have:its[j]?=some xu:=gq;simpa using(yx.mp this).2
      have e2:its'.toArray[j]=yu:=by
       have:its'[j]?=some yu:=ij;simpa using(yx.mp this).2
      rw[e1,e2];simp only[g1,g2];have pq:=D.depths_le g1;refine eN (ih ds[j] es[j] A.in1 xv yv xu yu (by omega) (by show A.units+1+n<cLine;omega) fg gu b6 bg) (λev=>by
      subst ev;have qk:xv=yv:=RelV.inj b6 bg;subst qk;rw[kE I n ds[j] es[j] xv (by omega) fg gu];exact gZ _) (vB fg b6))
     have sz:((Io (min its.toArray.size its'.toArray.size)).all (λj=>match ds[j]?,es[j]? with|some x,some y=>eqD x y|_,_=>false)&&its.toArray.size == its'.toArray.size)=eqD (.tup ds) (.tup es):=by
      have a1:its.toArray.size=ds.length:=by simp;omega
      have a2:its'.toArray.size=es.length:=by simp;omega
      rw[a1,a2];simp only[eqD];exact nA
     rw[<-sz];exact key
theorem CS(I:Inv X pins σ H s){d e:D}{x:V}{v:Value}(hd:d.depth<=n)(hu:A.units+n<cLine)(hx:Rep X.K H d x)(hy:Rep X.K H e y)(rx:RelV x v)(ry:RelV y u):EqAt A s v u (eqD d e):=
 eN (LL I n d e A x y v u hd hu hx hy rx ry) (λev=>by
  subst ev;have qk:x=y:=RelV.inj rx ry;subst qk;rw[kE I n d e x hd hx hy];exact gZ _) (vB hx rx)
theorem JJ(I:Inv X pins σ H s):∀(n:Nat)(d e:D)(A:Around)(x y:V)(v u:Value),d.depth<=n->A.units+n<cLine->Rep X.K H d x->Rep X.K H e y->RelV x v->RelV y u->RcNeAt A s v u (!eqD d e):=by
 intro n
 induction n with
 |zero=>
  intro d e A x y v u hd hu hx hy rx ry;cases d with
  |tup ds=>exact absurd hd (by show ¬ D.depths ds+1<=0;omega)
  |non=>
   cases hx;cases rx;cases e with
   |non=>cases hy;cases ry;exact RcNeAt.none_none
   |bl b=>cases hy;cases ry;exact RcNeAt.none_bool b
   |int b=>cases hy;obtain⟨t,rfl⟩:=ry;exact RcNeAt.none_int b t
   |str b=>cases hy;obtain⟨t,rfl⟩:=ry;exact RcNeAt.none_str b t
   |tup es=>obtain⟨a,vs,rfl,q,r⟩:=hy;cases ry;obtain⟨its,_,p,_⟩:=I.tuple q;exact RcNeAt.none_tuple p (by omega)
  |bl a=>
   cases hx;cases rx;cases e with
   |non=>cases hy;cases ry;exact RcNeAt.bool_none a
   |bl b=>cases hy;cases ry;exact RcNeAt.bool_bool a b
   |int b=>cases hy;obtain⟨t,rfl⟩:=ry;exact RcNeAt.bool_int a b t
   |str b=>cases hy;obtain⟨t,rfl⟩:=ry;exact RcNeAt.bool_str a b t
   |tup es=>obtain⟨a',vs,rfl,q,r⟩:=hy;cases ry;obtain⟨its,_,p,_⟩:=I.tuple q;exact RcNeAt.bool_tuple a p (by omega)
  |int a=>
   cases hx;obtain⟨t',rfl⟩:=rx;cases e with
   |non=>cases hy;cases ry;exact RcNeAt.int_none a t'
   |bl b=>cases hy;cases ry;exact RcNeAt.int_bool a t' b
   |int b=>cases hy;obtain⟨t,rfl⟩:=ry;exact RcNeAt.int_int a t' b t
   |str b=>cases hy;obtain⟨t,rfl⟩:=ry;exact RcNeAt.int_str a t' b t
   |tup es=>obtain⟨a',vs,rfl,q,r⟩:=hy;cases ry;obtain⟨its,_,p,_⟩:=I.tuple q;exact RcNeAt.int_tuple a t' p (by omega)
  |str a=>
   cases hx;obtain⟨t',rfl⟩:=rx;cases e with
   |non=>cases hy;cases ry;exact RcNeAt.str_none a t'
   |bl b=>cases hy;cases ry;exact RcNeAt.str_bool a t' b
   |int b=>cases hy;obtain⟨t,rfl⟩:=ry;exact RcNeAt.str_int a t' b t
   |str b=>cases hy;obtain⟨t,rfl⟩:=ry;exact RcNeAt.str_str a t' b t
   |tup es=>obtain⟨a',vs,rfl,q,r⟩:=hy;cases ry;obtain⟨its,_,p,_⟩:=I.tuple q;exact RcNeAt.str_tuple a t' p (by omega)
 |succ n ih=>
  intro d e A x y v u hd hu hx hy rx ry
  by_cases h0:d.depth<=n
  ·exact ih d e A x y v u h0 (by omega) hx hy rx ry
  ·cases d with
   |non=>exact absurd (show D.depth .non<=n from zz n) h0
   |bl b=>exact absurd (show D.depth (.bl b)<=n from zz n) h0
   |int b=>exact absurd (show D.depth (.int b)<=n from zz n) h0
   |str b=>exact absurd (show D.depth (.str b)<=n from zz n) h0
   |tup ds=>
    have i9:D.depths ds<=n:=by have:D.depths ds+1<=n+1:=hd;omega
    obtain⟨a,vs,rfl,q,r⟩:=hx;cases rx
    obtain⟨its,rv,p,_⟩:=I.tuple q;cases e with
    |non=>cases hy;cases ry;exact RcNeAt.tuple_none p (by omega)
    |bl b=>cases hy;cases ry;exact RcNeAt.tuple_bool b p (by omega)
    |int b=>cases hy;obtain⟨t,rfl⟩:=ry;exact RcNeAt.tuple_int b t p (by omega)
    |str b=>cases hy;obtain⟨t,rfl⟩:=ry;exact RcNeAt.tuple_str b t p (by omega)
    |tup es=>
     obtain⟨a',cy,rfl,q',r'⟩:=hy;cases ry
     obtain⟨its',ak,p',_⟩:=I.tuple q';have l1:=r.length;have l2:=r'.length;have l3:=rv.length;have l4:=ak.length;have key:=RcNeAt.tuples (A:=A) (e:=λj=>match ds[j]?,es[j]? with|some x,some y=>eqD x y|_,_=>false) p p' (by omega) (λj h1 h2=>by
      have fw:j<ds.length:=by simp at h1;omega
      have cm:j<es.length:=by simp at h2;omega
      have g1:ds[j]?=some ds[j]:=by simp[fw]
      have g2:es[j]?=some es[j]:=by simp[cm]
      obtain⟨xv,j4,fg⟩:=r.at g1;obtain⟨yv,jk,gu⟩:=r'.at g2;obtain⟨xu,gq,b6⟩:=rv.get j4;obtain⟨yu,ij,bg⟩:=ak.get jk;have e1:its.toArray[j]=xu:=by
       have:its[j]?=some xu:=gq;simpa using(yx.mp this).2
      have e2:its'.toArray[j]=yu:=by
       have:its'[j]?=some yu:=ij;simpa using(yx.mp this).2
      rw[e1,e2];simp only[g1,g2];have pq:=D.depths_le g1;exact CS I (n:=n) (by omega) (by show A.units+1+n<cLine;omega) fg gu b6 bg)
     have sz:(!((Io (min its.toArray.size its'.toArray.size)).all (λj=>match ds[j]?,es[j]? with|some x,some y=>eqD x y|_,_=>false)&&its.toArray.size == its'.toArray.size))=(!eqD (.tup ds) (.tup es)):=by
      have a1:its.toArray.size=ds.length:=by simp;omega
      have a2:its'.toArray.size=es.length:=by simp;omega
      rw[a1,a2];simp only[eqD];rw[nA]
     rw[<-sz];exact key
def O8(K:yz):R2:=λx y H Q=>∃d e,Rep K H d x/\Rep K H e y/\d.depth<=40/\Q (.bl (eqD d e)) H
def O9(K:yz):R2:=λx y H Q=>∃d e,Rep K H d x/\Rep K H e y/\d.depth<=40/\Q (.bl (!eqD d e)) H
theorem JK(hu:X.A.units+64<cLine)(K:yz)(hK:X.K=K):OpR X (z8 .Eq) (O8 K):=by
 subst hK;intro pins s σ H x y v u Q I rx ry h;obtain⟨d,e,hx,hy,hd,q⟩:=h;exact LL I 40 d e X.A x y v u hd (by omega) hx hy rx ry X.prog X.w X.xe _ ⟨.bl _,H,I,rfl,q⟩
theorem JL(hu:X.A.units+64<cLine)(K:yz)(hK:X.K=K):OpR X (z8 .NotEq) (O9 K):=by
 subst hK;intro pins s σ H x y v u Q I rx ry h;obtain⟨d,e,hx,hy,hd,q⟩:=h;exact JJ I 40 d e X.A x y v u hd (by omega) hx hy rx ry X.prog X.w X.xe _ ⟨.bl _,H,I,rfl,q⟩
def zV(K:yz)(H:Hp)(ds:List D)(v:V):Prop:=∃a vs,v=.ref a/\SqL K H a vs/\cP K H ds vs
theorem oW{xs ys:List D}(h:xs.length=ys.length):(Io xs.length).all (λj=>match xs[j]?,ys[j]? with|some x,some y=>eqD x y|_,_=>false)=eM xs ys:=by
 have:=nA (xs:=xs) (ys:=ys);rw[h,Nat.min_self,beq_self_eq_true,Bool.and_true]at this;rw[h];exact this
theorem rY{xs ys:List D}(h:eM xs ys=true):xs.length=ys.length:=by
 rw[<-nA,z0]at h;exact eq_of_beq h.2
theorem lH{I:Inv X pins σ H s}{ds es:List D}(r:cP X.K H ds vs)(r':cP X.K H es cy)(rv:aJ vs its)(ak:aJ cy its')(hd:D.depths ds<=40)(hu:A.units+42<cLine):
  ∀j(h1:j<its.toArray.size)(h2:j<its'.toArray.size),EqAt A.in1 s its.toArray[j] its'.toArray[j] (match ds[j]?,es[j]? with|some x,some y=>eqD x y|_,_=>false):=λj h1 h2=>by
 have l1:=r.length;have l2:=r'.length;have l3:=rv.length;have l4:=ak.length;have fw:j<ds.length:=by simp at h1;omega
 have cm:j<es.length:=by simp at h2;omega
 have g1:ds[j]?=some ds[j]:=by simp[fw]
 have g2:es[j]?=some es[j]:=by simp[cm]
 obtain⟨xv,j4,fg⟩:=r.at g1;obtain⟨yv,jk,gu⟩:=r'.at g2;obtain⟨xu,gq,b6⟩:=rv.get j4;obtain⟨yu,ij,bg⟩:=ak.get jk;have e1:its.toArray[j]=xu:=by simpa using(yx.mp gq).2
 have e2:its'.toArray[j]=yu:=by simpa using(yx.mp ij).2
 rw[e1,e2];simp only[g1,g2];have pq:=D.depths_le g1;exact CS I (n:=40) (by omega) (by show A.units+1+40<cLine;omega) fg gu b6 bg
def Oa(K:yz):R2:=λx y H Q=>∃ds es,zV K H ds x/\zV K H es y/\D.depths ds<=40/\Q (.bl (eM ds es)) H
def Ob(K:yz):R2:=λx y H Q=>∃ds es,zV K H ds x/\zV K H es y/\D.depths ds<=40/\Q (.bl (!eM ds es)) H
theorem JM(hu:X.A.units+64<cLine)(K:yz)(hK:X.K=K):OpR X (z8 .Eq) (Oa K):=by
 subst hK;intro pins s σ H x y v u Q I rx ry h;obtain⟨ds,es,⟨a,vs,rfl,q,r⟩,⟨b,cy,rfl,q',r'⟩,hd,k⟩:=h;cases rx;cases ry;obtain⟨its,rv,p,_⟩:=I.list q;obtain⟨its',ak,p',_⟩:=I.list q';have l1:=r.length;have l2:=r'.length;have l3:=rv.length;have l4:=ak.length
 by_cases hl:ds.length=es.length
 ·refine eq_listAt p.isList p'.isList (by simp;omega) (by omega) (lH (I:=I) r r' rv ak hd (by omega)) ⟨.bl _,H,I,rfl,?_⟩;have e1:its.toArray.size=ds.length:=by simp;omega
  rw[e1,oW hl];exact k
 ·refine eq_list_lengthsAt p.isList p'.isList (by simp;omega) (by omega) ⟨.bl false,H,I,rfl,?_⟩;have e:eM ds es=false:=by
   cases h:eM ds es with
   |false=>rfl
   |true=>exact absurd (rY h) hl
  rw[e]at k;exact k
theorem JN(hu:X.A.units+64<cLine)(K:yz)(hK:X.K=K):OpR X (z8 .NotEq) (Ob K):=by
 subst hK;intro pins s σ H x y v u Q I rx ry h;obtain⟨ds,es,⟨a,vs,rfl,q,r⟩,⟨b,cy,rfl,q',r'⟩,hd,k⟩:=h;cases rx;cases ry;obtain⟨its,rv,p,_⟩:=I.list q;obtain⟨its',ak,p',_⟩:=I.list q';have l1:=r.length;have l2:=r'.length;have l3:=rv.length;have l4:=ak.length
 by_cases hl:ds.length=es.length
 ·refine RcNeAt.lists p.isList p'.isList (by simp;omega) (by omega) (lH (I:=I) r r' rv ak hd (by omega)) X.prog X.w X.xe _ ⟨.bl _,H,I,rfl,?_⟩;have e1:its.toArray.size=ds.length:=by simp;omega
  rw[e1,oW hl];exact k
 ·refine RcNeAt.lists_lengths p.isList p'.isList (by simp;omega) (by omega) X.prog X.w X.xe _ ⟨.bl true,H,I,rfl,?_⟩;have e:eM ds es=false:=by
   cases h:eM ds es with
   |false=>rfl
   |true=>exact absurd (rY h) hl
  rw[e]at k;exact k
def LM(K:yz)(neg:Bool):R2:=λx y H Q=>∃d p ds vs,y=.ref p/\(SqL K H p vs\/SqT K H p vs)/\Rep K H d x/\cP K H ds vs/\D.depths ds<=40/\Q (.bl (if neg then !ds.any (λe=>eqD e d) else ds.any (λe=>eqD e d))) H
noncomputable def isD(K:yz)(H:Hp)(d:D)(u:Value):Bool:=@decide (∃e x,RelV x u/\Rep K H e x/\e.depth<=40/\eqD e d=true) (Qb _)
theorem Ec(I:Inv X pins σ H s){d e:D}{x:V}(r:RelV x u)(h:Rep X.K H e x)(hd:e.depth<=40):isD X.K H d u=eqD e d:=by
 unfold isD;cases q:eqD e d with
 |true=>exact @decide_eq_true _ (Qb _) ⟨e,x,r,h,hd,q⟩
 |false=>
  refine @decide_eq_false _ (Qb _) ?_;rintro⟨e',x',r',h',gi,q'⟩;have ex:x'=x:=RelV.inj r' r;subst ex;rw[kE I 40 e' e x' gi h' h]at q';rw[q]at q';cases q'
theorem nB(I:Inv X pins σ H s){d:D}:∀{ds:List D}{vs:List V}{us:List Value},cP X.K H ds vs->aJ vs us->D.depths ds<=40->us.any (isD X.K H d)=ds.any λe=>eqD e d
 |[],[],_,_,.nil,_=>rfl
 |e::ds,_::_,_,⟨h,r⟩,.cons rv i5,hd=>by
  have h1:e.depth<=40/\D.depths ds<=40:=by
   have:max e.depth (D.depths ds)<=40:=hd;omega
  rw[Q7,Q7,Ec I rv h h1.1,nB I r i5 h1.2]
 |[],_::_,_,h,_,_=>h.elim
 |_::_,[],_,h,_,_=>h.elim
theorem nC(I:Inv X pins σ H s){A:Around}{d:D}{x:V}{v:Value}(hx:Rep X.K H d x)(rx:RelV x v)(hu:A.units+42<cLine):∀{ds:List D}{vs:List V}{us:List Value},cP X.K H ds vs->aJ vs us->D.depths ds<=40->∀u∈us,EqAt A.in1 s u v (isD X.K H d u)
 |[],[],_,_,.nil,_=>λu hu=>by cases hu
 |e::ds,_::_,_,⟨h,r⟩,.cons rv i5,hd=>λu hm=>by
  have h1:e.depth<=40/\D.depths ds<=40:=by
   have:max e.depth (D.depths ds)<=40:=hd;omega
  rcases zq.mp hm with rfl|hm
  ·rw[Ec I rv h h1.1];exact CS I (n:=40) h1.1 (by show A.units+1+40<cLine;omega) h hx rv rx
  ·exact nC I hx rx hu r i5 h1.2 u hm
 |[],_::_,_,h,_,_=>h.elim
 |_::_,[],_,h,_,_=>h.elim
theorem JO(hu:X.A.units+64<cLine)(K:yz)(hK:X.K=K):OpR X (z8 .In) (LM K false):=by
 subst hK;intro pins s σ H x y v u Q I rx ry h;obtain⟨d,p,ds,vs,rfl,hq,hx,hr,hd,k⟩:=h;cases ry
 rcases hq with hq|hq
 ·obtain⟨its,r,pl,hz⟩:=I.list hq;refine SeqAt.in_listAt (isD X.K H d) pl.isList (λw hw=>nC I hx rx (by omega) hr r hd w (by simpa using hw)) ⟨.bl _,H,I,rfl,?_⟩
  rw[show its.toArray.any (isD X.K H d)=its.any (isD X.K H d) by simp,nB I hr r hd];exact k
 ·obtain⟨its,r,pl,hz⟩:=I.tuple hq;refine SeqAt.in_tupleAt (isD X.K H d) pl (λw hw=>nC I hx rx (by omega) hr r hd w (by simpa using hw)) ⟨.bl _,H,I,rfl,?_⟩
  rw[show its.toArray.any (isD X.K H d)=its.any (isD X.K H d) by simp,nB I hr r hd];exact k
theorem CT(hu:X.A.units+64<cLine)(K:yz)(hK:X.K=K):OpR X (z8 .NotIn) (LM K true):=by
 subst hK;intro pins s σ H x y v u Q I rx ry h;obtain⟨d,p,ds,vs,rfl,hq,hx,hr,hd,k⟩:=h;cases ry
 rcases hq with hq|hq
 ·obtain⟨its,r,pl,hz⟩:=I.list hq;refine SeqAt.notIn_listAt (isD X.K H d) pl.isList (λw hw=>nC I hx rx (by omega) hr r hd w (by simpa using hw)) ⟨.bl _,H,I,rfl,?_⟩
  rw[show its.toArray.any (isD X.K H d)=its.any (isD X.K H d) by simp,nB I hr r hd];exact k
 ·obtain⟨its,r,pl,hz⟩:=I.tuple hq;refine SeqAt.notIn_tupleAt (isD X.K H d) pl (λw hw=>nC I hx rx (by omega) hr r hd w (by simpa using hw)) ⟨.bl _,H,I,rfl,?_⟩
  rw[show its.toArray.any (isD X.K H d)=its.any (isD X.K H d) by simp,nB I hr r hd];exact k
end
open PySem
def keyLt:Sum Int Str->Sum Int Str->Bool
 |.inl a,.inl b=>decide (a<b)
 |.inr a,.inr b=>decide (a.cps.toList<b.cps.toList)
 |_,_=>false
def bD:List (Sum Int Str)->List (Sum Int Str)->Bool
 |[],[]=>false
 |[],_::_=>true
 |_::_,[]=>false
 |x::xs,y::ys=>if x=y then bD xs ys else keyLt x y
def cT:Sum Int Str->Bool
 |.inl _=>true
 |.inr _=>false
abbrev shape(ks:List (Sum Int Str)):List Bool:=ks.map cT
theorem GW{a b:Str}(h:a.cps.toList=b.cps.toList):a=b:=by
 cases a;cases b
 congr
 exact Array.toList_inj.mp h
theorem Ed{a b:Sum Int Str}(h:keyLt a b=true):keyLt b a=false:=by
 cases a <;> cases b <;> first|rfl|skip
 ·have:_<_:=of_decide_eq_true h;exact decide_eq_false (by omega)
 ·exact decide_eq_false (List.lt_asymm (of_decide_eq_true h))
theorem vC{a b:Sum Int Str}(k:cT a=cT b)(h:keyLt a b=false)(h':keyLt b a=false):a=b:=by
 cases a <;> cases b <;> first|cases k|skip
 ·have h1:=of_decide_eq_false h;have h2:=of_decide_eq_false h'
  congr 1
  omega
 ·have h1:=of_decide_eq_false h;have h2:=of_decide_eq_false h'
  congr 1
  exact GW (List.le_antisymm (List.not_lt.mp h2) (List.not_lt.mp h1))
theorem Ee:∀{a b c:Sum Int Str},cT a=cT b->cT b=cT c->keyLt b a=false->keyLt c b=false->keyLt c a=false
 |.inl a,.inl b,.inl c,_,_,h,h'=>by
  have h1:¬ b<a:=of_decide_eq_false h;have h2:¬ c<b:=of_decide_eq_false h';exact decide_eq_false (by omega)
 |.inr a,.inr b,.inr c,_,_,h,h'=>by
  have h1:a.cps.toList<=b.cps.toList:=List.not_lt.mp (of_decide_eq_false h);have h2:b.cps.toList<=c.cps.toList:=List.not_lt.mp (of_decide_eq_false h');exact decide_eq_false (List.not_lt.mpr (List.le_trans h1 h2))
 |.inl _,.inr _,_,k,_,_,_=>by cases k
 |.inr _,.inl _,_,k,_,_,_=>by cases k
 |.inl _,.inl _,.inr _,_,k,_,_=>by cases k
 |.inr _,.inr _,.inl _,_,k,_,_=>by cases k
theorem nD:∀{a b:List (Sum Int Str)},bD a b=true->bD b a=false
 |[],[],_=>rfl
 |[],_::_,_=>rfl
 |_::_,[],h=>by cases h
 |x::xs,y::ys,h=>by
  unfold bD at h⊢
  by_cases e:x=y
  ·subst e;rw[if_pos rfl]at h⊢;exact nD h
  ·rw[if_neg e]at h;rw[if_neg λz=>e z.symm];exact Ed h
theorem nF:∀{a b:List (Sum Int Str)},shape a=shape b->bD a b=false->bD b a=false->a=b
 |[],[],_,_,_=>rfl
 |[],_::_,s,_,_=>by cases s
 |_::_,[],s,_,_=>by cases s
 |x::xs,y::ys,s,h,h'=>by
  have s1:cT x=cT y:=by simpa using congrArg List.head? s
  have s2:shape xs=shape ys:=by simpa using congrArg List.tail s
  unfold bD at h h'
  by_cases e:x=y
  ·subst e;rw[if_pos rfl]at h h';rw[nF s2 h h']
  ·rw[if_neg e]at h;rw[if_neg λz=>e z.symm]at h';exact absurd (vC s1 h h') e
theorem kF:∀{a b c:List (Sum Int Str)},shape a=shape b->shape b=shape c->bD b a=false->bD c b=false->bD c a=false
 |[],[],[],_,_,_,_=>rfl
 |[],[],_::_,_,s',_,_=>by cases s'
 |[],_::_,_,s,_,_,_=>by cases s
 |_::_,[],_,s,_,_,_=>by cases s
 |_::_,_::_,[],_,s',_,_=>by cases s'
 |x::xs,y::ys,z::zs,s,s',h,h'=>by
  have s1:cT x=cT y:=by simpa using congrArg List.head? s
  have s2:shape xs=shape ys:=by simpa using congrArg List.tail s
  have s3:cT y=cT z:=by simpa using congrArg List.head? s'
  have s4:shape ys=shape zs:=by simpa using congrArg List.tail s'
  unfold bD at h h'⊢
  by_cases e:y=x
  ·subst e;rw[if_pos rfl]at h
   by_cases e':z=y
   ·subst e';rw[if_pos rfl]at h'⊢;exact kF s2 s4 h h'
   ·rw[if_neg e']at h'⊢;exact h'
  ·rw[if_neg e]at h
   by_cases e':z=y
   ·subst e';rw[if_neg e];exact h
   ·rw[if_neg e']at h'
    by_cases e2:z=x
    ·subst e2;exfalso;exact e (vC s3 h h')
    ·rw[if_neg e2];exact Ee s1 s3 h h'
open PySem PySem.W PyProof.Rows
section
variable(lt:Nat->Nat->Bool)
def evT{α:Type}:KasT α->α
 |.ret a=>a
 |.ask i j k=>evT (k (lt i j))
theorem hV{α β:Type}(f:α->KasT β):∀t:KasT α,evT lt (t.bind f)=evT lt (f (evT lt t))
 |.ret _=>rfl
 |.ask i j k=>hV f (k (lt i j))
abbrev pa'(p:Array Nat)(i:Nat):Nat:=p.getD i 0
def STo(p:Array Nat)(k:Nat):Prop:=∀i j,i<=j->j<k->lt (pa' p j) (pa' p i)=false
def NIc(p:Array Nat)(k:Nat):Prop:=∀i j,i<=j->j<k->lt (pa' p i) (pa' p j)=false
end
theorem fP{p:Array Nat}:pa' p i=(p[i]?).getD 0:=by
 unfold pa';simp[Array.getD_eq_getD_getElem?]
structure Ef(lt:Nat->Nat->Bool)(p:Array Nat)(n f:Nat)(r:Array Nat×Nat×Nat):Prop where
 perm:r.1.Perm p
 lo:n<=r.2.1
 hi:r.2.1<=n+f
 q:r.2.2+1<=r.2.1
 ni:NIc lt r.1 r.2.1
 eq:∀i j,r.2.1-(r.2.2+1)<=i->i<r.2.1->r.2.1-(r.2.2+1)<=j->j<r.2.1->lt (pa' r.1 i) (pa' r.1 j)=false
variable{nrem:Nat}
section
variable{lt:Nat->Nat->Bool}(tr:∀i j k,lt j i=false->lt k j=false->lt k i=false)(as:∀i j,lt i j=true->lt j i=false)
include as in
theorem fG(i:Nat):lt i i=false:=by
 cases h:lt i i with
 |false=>rfl
 |true=>have:=as i i h;rw[h]at this;exact this
include tr as
theorem B2(p:Array Nat):∀f n,1<=n->STo lt p n->n<=evT lt (kas_asc p f n)/\evT lt (kas_asc p f n)<=n+f/\STo lt p (evT lt (kas_asc p f n))
 |0,n,_,h=>⟨zb _,zb _,h⟩
 |f+1,n,h1,h=>by
  have e:evT lt (kas_asc p (f+1) n)=evT lt (if lt (p.getD n 0) (p.getD (n-1) 0)=true then KasT.ret n else kas_asc p f (n+1)):=rfl;rw[e]
  by_cases c:lt (p.getD n 0) (p.getD (n-1) 0)=true
  ·rw[if_pos c];exact⟨zb _,Nat.le_add_right _ _,h⟩
  ·rw[if_neg c];have c':lt (p.getD n 0) (p.getD (n-1) 0)=false:=by simpa using c
   have h2:STo lt p (n+1):=λi j bp hj=>by
    rcases Qc (Nat.le_of_lt_succ hj) with hj|rfl
    ·exact h i j bp hj
    ·rcases Qc bp with hi|rfl
     ·exact tr _ _ _ (h i (j-1) (by omega) (by omega)) c'
     ·exact fG as _
   obtain⟨a,b,c⟩:=B2 p f (n+1) (by omega) h2;exact⟨by omega,by omega,c⟩
theorem rev_eq{p:Array Nat}{a:Nat}(hn:n<=p.size)(eq:∀i j,a<=i->i<n->a<=j->j<n->lt (pa' p i) (pa' p j)=false)(i j:Nat):
  lt (pa' (kas_rev p a n) i) (pa' (kas_rev p a n) j)=lt (pa' p i) (pa' p j):=by
 have g:∀k,pa' (kas_rev p a n) k=if a<=k/\k<n then pa' p (a+n-1-k) else pa' p k:=λk=>by
  rw[fP,fP,fP];unfold kas_rev;rw[getElem?_mirror_all hn];split <;> rfl
 have sim:∀k,∃k',pa' (kas_rev p a n) k=pa' p k'/\lt (pa' p k) (pa' p k')=false/\lt (pa' p k') (pa' p k)=false:=λk=>by
  rw[g]
  by_cases h:a<=k/\k<n
  ·rw[if_pos h];exact⟨_,rfl,eq _ _ h.1 h.2 (by omega) (by omega),eq _ _ (by omega) (by omega) h.1 h.2⟩
  ·rw[if_neg h];exact⟨k,rfl,fG as _,fG as _⟩
 obtain⟨i',ei,i1,i2⟩:=sim i;obtain⟨j',ej,j1,j2⟩:=sim j;rw[ei,ej];cases h1:lt (pa' p i) (pa' p j) with
 |false=>exact tr _ _ _ j1 (tr _ _ _ h1 i2)
 |true=>
  cases h2:lt (pa' p i') (pa' p j') with
  |true=>rfl
  |false=>
   have:=tr _ _ _ j2 (tr _ _ _ h2 i1);rw[h1]at this;exact this.symm
theorem xD:∀f (p:Array Nat) n q,n+f<=p.size->q+1<=n->NIc lt p n->(∀i j,n-(q+1)<=i->i<n->n-(q+1)<=j->j<n->lt (pa' p i) (pa' p j)=false)->Ef lt p n f (evT lt (kas_desc f p n q))
 |0,p,n,q,_,hq,hN,hE=>⟨Ro _,zb _,zb _,hq,hN,hE⟩
 |f+1,p,n,q,hs,hq,hN,hE=>by
  have e:evT lt (kas_desc (f+1) p n q)=evT lt (if lt (p.getD n 0) (p.getD (n-1) 0)=true then(if q>0 then kas_desc f (kas_rev p (n-(q+1)) n) (n+1) 0 else kas_desc f p (n+1) 0)
    else .ask (p.getD (n-1) 0) (p.getD n 0) λd=>if d=true then .ret (p,n,q) else kas_desc f p (n+1) (q+1)):=rfl
  by_cases c:lt (p.getD n 0) (p.getD (n-1) 0)=true
  ·have down:∀p':Array Nat,p'.Perm p->(∀i j,lt (pa' p' i) (pa' p' j)=lt (pa' p i) (pa' p j))->evT lt (kas_desc (f+1) p n q)=evT lt (kas_desc f p' (n+1) 0)->Ef lt p n (f+1) (evT lt (kas_desc (f+1) p n q)):=λp' hp hl v9=>by
    have mj:NIc lt p' (n+1):=λi j bp hj=>by
     rw[hl];rcases Qc (Nat.le_of_lt_succ hj) with hj|rfl
     ·exact hN i j bp hj
     ·rcases Qc bp with hi|rfl
      ·exact tr _ _ _ (as _ _ c) (hN i (j-1) (by omega) (by omega))
      ·exact fG as _
    have ko:∀i j,n+1-(0+1)<=i->i<n+1->n+1-(0+1)<=j->j<n+1->lt (pa' p' i) (pa' p' j)=false:=λi j h1 h2 h3 h4=>by
     have:i=j:=by omega
     subst this;exact fG as _
    have ih:=xD f p' (n+1) 0 (by rw[hp.size_eq];omega) (by omega) mj ko;rw[<-v9]at ih;obtain⟨a1,a2,a3,a4,a5,a6⟩:=ih;exact⟨a1.trans hp,by omega,by omega,a4,a5,a6⟩
   rw[if_pos c]at e
   by_cases hq0:q>0
   ·rw[if_pos hq0]at e;exact down _ (Rp _ _ _ _) (rev_eq tr as (by omega) hE) e
   ·rw[if_neg hq0]at e;exact down p (Ro _) (λ_ _=>rfl) e
  ·rw[if_neg c]at e;have c':lt (p.getD n 0) (p.getD (n-1) 0)=false:=by simpa using c
   have e2:evT lt (kas_desc (f+1) p n q)=evT lt (if lt (p.getD (n-1) 0) (p.getD n 0)=true then KasT.ret (p,n,q) else kas_desc f p (n+1) (q+1)):=e
   by_cases d:lt (p.getD (n-1) 0) (p.getD n 0)=true
   ·rw[if_pos d]at e2;rw[e2];exact⟨Ro _,zb _,Nat.le_add_right _ _,hq,hN,hE⟩
   ·rw[if_neg d]at e2;have d':lt (p.getD (n-1) 0) (p.getD n 0)=false:=by simpa using d
    have mj:NIc lt p (n+1):=λi j bp hj=>by
     rcases Qc (Nat.le_of_lt_succ hj) with hj|rfl
     ·exact hN i j bp hj
     ·rcases Qc bp with hi|rfl
      ·exact tr _ _ _ d' (hN i (j-1) (by omega) (by omega))
      ·exact fG as _
    have ko:∀i j,n+1-(q+1+1)<=i->i<n+1->n+1-(q+1+1)<=j->j<n+1->lt (pa' p i) (pa' p j)=false:=λi j h1 h2 h3 h4=>by
     by_cases hi:i=n
     ·by_cases hj:j=n
      ·rw[hi,hj];exact fG as _
      ·rw[hi];exact tr _ _ _ (hE (n-1) j (by omega) (by omega) (by omega) (by omega)) c'
     ·by_cases hj:j=n
      ·rw[hj];exact tr _ _ _ d' (hE i (n-1) (by omega) (by omega) (by omega) (by omega))
      ·exact hE i j (by omega) (by omega) (by omega) (by omega)
    have ih:=xD f p (n+1) (q+1) (by omega) (by omega) mj ko;rw[<-e2]at ih;obtain⟨a1,a2,a3,a4,a5,a6⟩:=ih;exact⟨a1,by omega,by omega,a4,a5,a6⟩
theorem zW{p:Array Nat}(h1:1<=n)(hn:n<=nrem)(hz:nrem<=p.size)(hN:NIc lt p n):
  n<=(evT lt (kas_tail3 n nrem p)).1/\(evT lt (kas_tail3 n nrem p)).1<=nrem/\(evT lt (kas_tail3 n nrem p)).2.Perm p/\STo lt (evT lt (kas_tail3 n nrem p)).2 (evT lt (kas_tail3 n nrem p)).1:=by
 have e:evT lt (kas_tail3 n nrem p)=(evT lt (kas_asc (kas_rev p 0 n) (nrem-n) n),kas_rev p 0 n):=by
  unfold kas_tail3;rw[hV];rfl
 have g:∀k,k<n->pa' (kas_rev p 0 n) k=pa' p (n-1-k):=λk hk=>by
  rw[fP,fP];unfold kas_rev;rw[getElem?_mirror_all (by omega),if_pos (by omega)]
  congr 2
  omega
 have hS:STo lt (kas_rev p 0 n) n:=λi j bp hj=>by
  rw[g i (by omega),g j hj];exact hN _ _ (by omega) (by omega)
 obtain⟨a,b,c⟩:=B2 tr as (kas_rev p 0 n) (nrem-n) n h1 hS;rw[e];exact⟨a,by show evT lt (kas_asc (kas_rev p 0 n) (nrem-n) n)<=nrem;omega,Rp _ _ _ _,c⟩
theorem qL{p:Array Nat}(h1:1<=n)(hn:n+1<=nrem)(hz:nrem<=p.size)(hN:NIc lt p n)(hd:lt (pa' p n) (pa' p (n-1))=true):
  1<=(evT lt (kas_descPart n nrem p)).1/\(evT lt (kas_descPart n nrem p)).1<=nrem/\(evT lt (kas_descPart n nrem p)).2.Perm p/\STo lt (evT lt (kas_descPart n nrem p)).2 (evT lt (kas_descPart n nrem p)).1:=by
 have mj:NIc lt p (n+1):=λi j bp hj=>by
  rcases Qc (Nat.le_of_lt_succ hj) with hj|rfl
  ·exact hN i j bp hj
  ·rcases Qc bp with hi|rfl
   ·exact tr _ _ _ (as _ _ hd) (hN i (j-1) (by omega) (by omega))
   ·exact fG as _
 have ko:∀i j,n+1-(0+1)<=i->i<n+1->n+1-(0+1)<=j->j<n+1->lt (pa' p i) (pa' p j)=false:=λi j h1 h2 h3 h4=>by
  have:i=j:=by omega
  subst this;exact fG as _
 have D:=xD tr as (nrem-(n+1)) p (n+1) 0 (by omega) (by omega) mj ko;have e:evT lt (kas_descPart n nrem p)=evT lt (if(evT lt (kas_desc (nrem-(n+1)) p (n+1) 0)).2.2>0 then kas_tail3 (evT lt (kas_desc (nrem-(n+1)) p (n+1) 0)).2.1 nrem (kas_rev (evT lt (kas_desc (nrem-(n+1)) p (n+1) 0)).1 ((evT lt (kas_desc (nrem-(n+1)) p (n+1) 0)).2.1-((evT lt (kas_desc (nrem-(n+1)) p (n+1) 0)).2.2+1)) (evT lt (kas_desc (nrem-(n+1)) p (n+1) 0)).2.1) else kas_tail3 (evT lt (kas_desc (nrem-(n+1)) p (n+1) 0)).2.1 nrem (evT lt (kas_desc (nrem-(n+1)) p (n+1) 0)).1):=by
  unfold kas_descPart;rw[hV]
 generalize evT lt (kas_desc (nrem-(n+1)) p (n+1) 0)=r at D e;obtain⟨a1,a2,a3,a4,a5,a6⟩:=D;have sz:r.1.size=p.size:=a1.size_eq;rw[e]
 by_cases hq:r.2.2>0
 ·rw[if_pos hq];have hl:=rev_eq tr as (p:=r.1) (a:=r.2.1-(r.2.2+1)) (n:=r.2.1) (by omega) a6;obtain⟨b1,b2,b3,b4⟩:=zW tr as (n:=r.2.1) (nrem:=nrem) (p:=kas_rev r.1 (r.2.1-(r.2.2+1)) r.2.1) (by omega) (by omega) (by unfold kas_rev;rw[mirror_size];omega) (λi j bp hj=>by rw[hl];exact a5 i j bp hj);exact⟨by omega,b2,(b3.trans (Rp _ _ _ _)).trans a1,b4⟩
 ·rw[if_neg hq];obtain⟨b1,b2,b3,b4⟩:=zW tr as (n:=r.2.1) (nrem:=nrem) (p:=r.1) (by omega) (by omega) (by omega) a5;exact⟨by omega,b2,b3.trans a1,b4⟩
theorem rZ(p:Array Nat):∀f n,1<=n->evT lt (kas_asc p f n)<n+f->lt (pa' p (evT lt (kas_asc p f n))) (pa' p (evT lt (kas_asc p f n)-1))=true
 |0,n,_,h=>absurd h (P3 _)
 |f+1,n,h1,h=>by
  have e:evT lt (kas_asc p (f+1) n)=evT lt (if lt (p.getD n 0) (p.getD (n-1) 0)=true then KasT.ret n else kas_asc p f (n+1)):=rfl;rw[e]at h⊢
  by_cases c:lt (p.getD n 0) (p.getD (n-1) 0)=true
  ·rw[if_pos c];exact c
  ·rw[if_neg c]at h⊢;exact rZ p f (n+1) (by omega) (by omega)
theorem Eg{p:Array Nat}(h1:1<=nrem)(hz:nrem<=p.size):
  1<=(evT lt (kas_count nrem p)).1/\(evT lt (kas_count nrem p)).1<=nrem/\(evT lt (kas_count nrem p)).2.Perm p/\STo lt (evT lt (kas_count nrem p)).2 (evT lt (kas_count nrem p)).1:=by
 have h0:STo lt p 1:=λi j bp hj=>by
  have:i=j:=by omega
  subst this;exact fG as _
 obtain⟨a,b,c⟩:=B2 tr as p (nrem-1) 1 (zb _) h0;have stop:=rZ tr as p (nrem-1) 1 (zb _);have e:evT lt (kas_count nrem p)=evT lt (if(evT lt (kas_asc p (nrem-1) 1) == nrem)=true then .ret (evT lt (kas_asc p (nrem-1) 1),p) else if evT lt (kas_asc p (nrem-1) 1)>1 then .ask (p.getD 0 0) (p.getD (evT lt (kas_asc p (nrem-1) 1)-1) 0) λc=>if c=true then .ret (evT lt (kas_asc p (nrem-1) 1),p) else kas_descPart (evT lt (kas_asc p (nrem-1) 1)) nrem (kas_rev p 0 (evT lt (kas_asc p (nrem-1) 1))) else kas_descPart (evT lt (kas_asc p (nrem-1) 1)) nrem p):=by
  unfold kas_count;rw[hV]
 generalize evT lt (kas_asc p (nrem-1) 1)=n at a b c e stop;rw[e]
 by_cases hn:(n == nrem)=true
 ·rw[if_pos hn];exact⟨a,by show n<=nrem;omega,Ro _,c⟩
 ·rw[if_neg hn];have o5:n≠nrem:=by simpa using hn
  have st:=stop (by omega)
  by_cases h2:n>1
  ·rw[if_pos h2];have e2:∀k:Bool->KasT (Nat×Array Nat),evT lt (.ask (p.getD 0 0) (p.getD (n-1) 0) k)=evT lt (k (lt (p.getD 0 0) (p.getD (n-1) 0))):=λ_=>rfl;rw[e2]
   by_cases h3:lt (p.getD 0 0) (p.getD (n-1) 0)=true
   ·rw[if_pos h3];exact⟨a,by show n<=nrem;omega,Ro _,c⟩
   ·rw[if_neg h3];have ye:lt (pa' p 0) (pa' p (n-1))=false:=by simpa using h3
    have eq:∀i j,0<=i->i<n->0<=j->j<n->lt (pa' p i) (pa' p j)=false:=λi j _ hi _ hj=>by
     exact tr _ _ _ (c j (n-1) (by omega) (by omega)) (tr _ _ _ ye (c 0 i (by omega) hi))
    have hl:=rev_eq tr as (p:=p) (a:=0) (n:=n) (by omega) eq;have g:pa' (kas_rev p 0 n) n=pa' p n:=by
     rw[fP,fP];unfold kas_rev;rw[getElem?_mirror_all (by omega),if_neg (by omega)]
    obtain⟨b1,b2,b3,b4⟩:=qL tr as (n:=n) (nrem:=nrem) (p:=kas_rev p 0 n) a (by omega) (by unfold kas_rev;rw[mirror_size];omega) (λi j bp hj=>by rw[hl];exact eq i j (by omega) (by omega) (by omega) hj) (by rw[hl];exact st);exact⟨b1,b2,b3.trans (Rp _ _ _ _),b4⟩
  ·rw[if_neg h2];have w6:n=1:=by omega
   subst w6;exact qL tr as (n:=1) (nrem:=nrem) (p:=p) (zb _) (by omega) hz (λi j bp hj=>by
    have:i=j:=by omega
    subst this;exact fG as _) st
theorem sA(p:Array Nat)(k:Nat)(hS:STo lt p k):∀f l r,r-l<=f->l<=r->r<=k->(∀i,i<l->lt (pa' p k) (pa' p i)=false)->(∀i,r<=i->i<k->lt (pa' p k) (pa' p i)=true)->
  l<=evT lt (kas_place p k f l r)/\evT lt (kas_place p k f l r)<=k/\(∀i,i<evT lt (kas_place p k f l r)->lt (pa' p k) (pa' p i)=false)/\(∀i,evT lt (kas_place p k f l r)<=i->i<k->lt (pa' p k) (pa' p i)=true)
 |0,l,r,hf,hl,hr,h1,h2=>by
  have:l=r:=by omega
  subst this;exact⟨zb _,hr,h1,h2⟩
 |f+1,l,r,hf,hl,hr,h1,h2=>by
  have e:evT lt (kas_place p k (f+1) l r)=evT lt (if l >= r then .ret l else .ask (p.getD k 0) (p.getD ((l+r)/2) 0) λc=>if c=true then kas_place p k f l ((l+r)/2) else kas_place p k f ((l+r)/2+1) r):=rfl;rw[e]
  by_cases iu:l >= r
  ·rw[if_pos iu];have:l=r:=by omega
   subst this;exact⟨zb _,hr,h1,h2⟩
  ·rw[if_neg iu];have e2:∀q:Bool->KasT Nat,evT lt (.ask (p.getD k 0) (p.getD ((l+r)/2) 0) q)=evT lt (q (lt (p.getD k 0) (p.getD ((l+r)/2) 0))):=λ_=>rfl;rw[e2]
   by_cases c:lt (p.getD k 0) (p.getD ((l+r)/2) 0)=true
   ·rw[if_pos c];refine sA p k hS f l ((l+r)/2) (by omega) (by omega) (by omega) h1 λi hi hk=>?_;cases q:lt (pa' p k) (pa' p i) with
    |true=>rfl
    |false=>
     have:=tr _ _ _ (hS ((l+r)/2) i hi hk) q;rw[show lt (pa' p k) (pa' p ((l+r)/2))=true from c]at this
     exact this.symm
   ·rw[if_neg c];have c':lt (pa' p k) (pa' p ((l+r)/2))=false:=by simpa using c
    obtain⟨b1,b2,b3,b4⟩:=sA p k hS f ((l+r)/2+1) r (by omega) (by omega) hr (λi hi=>by
     cases q:lt (pa' p k) (pa' p i) with
     |false=>rfl
     |true=>
      exfalso;have s1:=hS i ((l+r)/2) (by omega) (by omega);have s2:=as _ _ q;have:lt (pa' p k) (pa' p i)=false:=by
       -- p[mid]<=p[k] (c'),p[i]<=p[mid]
       exact tr _ _ _ s1 c'
      rw[q]at this;cases this) h2
    exact⟨by omega,b2,b3,b4⟩
theorem Eh:∀f (p:Array Nat) k,1<=k->k+f<=p.size->STo lt p k->(evT lt (kas_bin f p k)).Perm p/\STo lt (evT lt (kas_bin f p k)) (k+f)
 |0,p,k,_,_,h=>⟨Ro _,h⟩
 |f+1,p,k,h1,hz,h=>by
  have e:evT lt (kas_bin (f+1) p k)=evT lt (kas_bin f (bubble p k (k-evT lt (kas_place p k k 0 k))) (k+1)):=by
   show evT lt ((kas_place p k k 0 k).bind λl=>kas_bin f (bubble p k (k-l)) (k+1))=_
   rw[hV]
  obtain⟨b1,b2,b3,b4⟩:=sA tr as p k h k 0 k (by omega) (zz _) (zb _) (λi hi=>absurd hi (QE _)) (λi hi hk=>absurd hk (by omega));generalize evT lt (kas_place p k k 0 k)=l at e b1 b2 b3 b4;have g:∀i,pa' (bubble p k (k-l)) i=if i=l then pa' p k else if l<i/\i<=k then pa' p (i-1) else pa' p i:=λi=>by
   rw[fP,fP,fP,fP,getElem?_bubble (by omega) _ (by omega)];have el:k-(k-l)=l:=by omega
   rw[el];split
   ·rfl
   ·split <;> rfl
  have hS:STo lt (bubble p k (k-l)) (k+1):=λi j bp hj=>by
   rw[g i,g j]
   by_cases hj1:j=l
   ·by_cases hi1:i=l
    ·rw[if_pos hj1,if_pos hi1];exact fG as _
    ·rw[if_pos hj1,if_neg hi1,if_neg (by omega)];exact b3 i (by omega)
   ·rw[if_neg hj1]
    by_cases hi1:i=l
    ·rw[if_pos hi1,if_pos (by omega)];exact as _ _ (b4 (j-1) (by omega) (by omega))
    ·rw[if_neg hi1]
     by_cases hj2:l<j/\j<=k
     ·rw[if_pos hj2]
      by_cases hi2:l<i/\i<=k
      ·rw[if_pos hi2];exact h _ _ (by omega) (by omega)
      ·rw[if_neg hi2];exact h _ _ (by omega) (by omega)
     ·rw[if_neg hj2,if_neg (by omega)];exact h _ _ bp (by omega)
  have ih:=Eh f (bubble p k (k-l)) (k+1) (by omega) (by rw[bubble_size];omega) hS;rw[e];exact⟨ih.1.trans (bubble_perm _ _ _),by rw[show k+(f+1)=k+1+f by omega];exact ih.2⟩
theorem GX(h1:1<=n):(evT lt (kas_sort n)).toList.Perm (Io n)/\(evT lt (kas_sort n)).toList.Pairwise (λi j=>lt j i=false):=by
 have e:evT lt (kas_sort n)=evT lt (if(evT lt (kas_count n (Q4 (Io n)))).1<n then kas_bin (n-max (evT lt (kas_count n (Q4 (Io n)))).1 1) (evT lt (kas_count n (Q4 (Io n)))).2 (max (evT lt (kas_count n (Q4 (Io n)))).1 1) else .ret (evT lt (kas_count n (Q4 (Io n)))).2):=by
  unfold kas_sort;rw[hV]
 obtain⟨a1,a2,a3,a4⟩:=Eg tr as (nrem:=n) (p:=Q4 (Io n)) h1 (by simp);generalize evT lt (kas_count n (Q4 (Io n)))=r at e a1 a2 a3 a4;have fin:∀p:Array Nat,p.Perm (Q4 (Io n))->STo lt p n->p.toList.Perm (Io n)/\p.toList.Pairwise (λi j=>lt j i=false):=λp hp hs=>by
  have hsz:p.size=n:=by rw[hp.size_eq];simp
  refine⟨by simpa using Array.perm_iff_toList_perm.mp hp,?_⟩
  rw[List.pairwise_iff_getElem];intro i j hi hj bp;have ax:i<p.size:=by simpa using hi
  have kr:j<p.size:=by simpa using hj
  have:=hs i j (QH bp) (by omega);simpa[pa',Array.getD,ax,kr] using this
 rw[e]
 by_cases aw:r.1<n
 ·rw[if_pos aw];have hm:max r.1 1=r.1:=by omega
  rw[hm];obtain⟨b1,b2⟩:=Eh tr as (n-r.1) r.2 r.1 a1 (by rw[a3.size_eq];simp;omega) a4;refine fin _ (b1.trans a3) ?_;rw[show r.1+(n-r.1)=n by omega]at b2;exact b2
 ·rw[if_neg aw];have:r.1=n:=by omega
  exact fin _ a3 (this▸a4)
end
open PySem PySem.Spec PyProof.Rows PySem.SeqAt PySem.W
def InP{α:Type}(n:Nat)(P:α->Prop):KasT α->Prop
 |.ret a=>P a
 |.ask i j k=>i<n/\j<n/\∀b,InP n P (k b)
theorem InP.bind{α β:Type}{P:α->Prop}{Q:β->Prop}{f:α->KasT β}:∀{t:KasT α},InP n P t->(∀a,P a->InP n Q (f a))->InP n Q (t.bind f)
 |.ret a,h,hf=>hf a h
 |.ask i j k,⟨h1,h2,h3⟩,hf=>⟨h1,h2,λb=>InP.bind (h3 b) hf⟩
theorem InP.mono{α:Type}{P Q:α->Prop}(hq:∀a,P a->Q a):∀{t:KasT α},InP n P t->InP n Q t
 |.ret a,h=>hq a h
 |.ask i j k,⟨h1,h2,h3⟩=>⟨h1,h2,λb=>InP.mono hq (h3 b)⟩
def AllLt(n:Nat)(p:Array Nat):Prop:=∀k,p.getD k 0<n
theorem AllLt.of{p q:Array Nat}(h:AllLt n p)(g:∀k:Nat,q[k]?=none\/∃k':Nat,q[k]?=p[k']?)(hn:0<n):AllLt n q:=λk=>by
 have e:∀(r:Array Nat) k,r.getD k 0=(r[k]?).getD 0:=λr k=>by simp[Array.getD_eq_getD_getElem?]
 rw[e];rcases g k with h1|⟨k',h1⟩
 ·rw[h1];exact hn
 ·rw[h1,<-e];exact h k'
theorem AllLt.perm{p q:Array Nat}(h:AllLt n p)(hp:q.Perm p)(hn:0<n):AllLt n q:=by
 refine AllLt.of h (λk=>?_) hn;cases e:q[k]? with
 |none=>exact .inl rfl
 |some v=>
  right;have hm:v∈q.toList:=by
   have:q.toList[k]?=some v:=by simpa using e
   exact Pn this
  have o9:v∈p.toList:=(Array.perm_iff_toList_perm.mp hp).mem_iff.mp hm;obtain⟨k',hk⟩:=List.mem_iff_getElem?.mp o9;exact⟨k',by rw[<-hk];simp⟩
section
variable(hn:0<n)
include hn
theorem xF{p:Array Nat}(h:AllLt n p):∀f m,InP n (λ_=>True) (kas_asc p f m)
 |0,m=>trivial
 |f+1,m=>⟨h _,h _,λb=>by
  cases b with
  |true=>exact trivial
  |false=>exact xF h f (m+1)⟩
theorem nG:∀f (p:Array Nat) m q,AllLt n p->InP n (λr=>AllLt n r.1) (kas_desc f p m q)
 |0,p,m,q,h=>h
 |f+1,p,m,q,h=>⟨h _,h _,λb=>by
  cases b with
  |true=>
   show InP n _ (if q>0 then kas_desc f (kas_rev p (m-(q+1)) m) (m+1) 0 else kas_desc f p (m+1) 0)
   by_cases hq:q>0
   ·rw[if_pos hq];exact nG f _ _ _ (h.perm (Rp _ _ _ _) hn)
   ·rw[if_neg hq];exact nG f _ _ _ h
  | false=>exact ⟨h _,h _,fun d=>by
    cases d with
    |true=>exact h
    |false=>exact nG f _ _ _ h⟩⟩
theorem vD{p:Array Nat}(h:AllLt n p)(m r:Nat):InP n (λx=>AllLt n x.2) (kas_tail3 m r p):=by
 unfold kas_tail3;exact InP.bind (xF hn (h.perm (Rp _ _ _ _) hn) _ _) λa _=>h.perm (Rp _ _ _ _) hn
theorem nH{p:Array Nat}(h:AllLt n p)(m r:Nat):InP n (λx=>AllLt n x.2) (kas_descPart m r p):=by
 unfold kas_descPart;refine InP.bind (nG hn _ _ _ _ h) λa ha=>?_
 by_cases hq:a.2.2>0
 ·rw[if_pos hq];exact vD hn (ha.perm (Rp _ _ _ _) hn) _ _
 ·rw[if_neg hq];exact vD hn ha _ _
theorem CU{p:Array Nat}(h:AllLt n p)(r:Nat):InP n (λx=>AllLt n x.2) (kas_count r p):=by
 unfold kas_count;refine InP.bind (xF hn h _ _) λa _=>?_
 by_cases h1:(a == r)=true
 ·rw[if_pos h1];exact h
 ·rw[if_neg h1]
  by_cases h2:a>1
  ·rw[if_pos h2];exact⟨h _,h _,λb=>by
    cases b with
    |true=>exact h
    |false=>exact nH hn (h.perm (Rp _ _ _ _) hn) _ _⟩
  ·rw[if_neg h2];exact nH hn h _ _
theorem oX{p:Array Nat}(h:AllLt n p)(k:Nat):∀f l r,InP n (λ_=>True) (kas_place p k f l r)
 |0,l,r=>trivial
 |f+1,l,r=>by
  show InP n _ (if l >= r then .ret l else .ask (p.getD k 0) (p.getD ((l+r)/2) 0) λc=>if c=true then kas_place p k f l ((l+r)/2) else kas_place p k f ((l+r)/2+1) r)
  by_cases hl:l >= r
  ·rw[if_pos hl];exact trivial
  ·rw[if_neg hl];exact⟨h _,h _,λb=>by
    cases b with
    |true=>exact oX h k f _ _
    |false=>exact oX h k f _ _⟩
theorem BS:∀f (p:Array Nat) k,AllLt n p->InP n (λ_=>True) (kas_bin f p k)
 |0,p,k,_=>trivial
 |f+1,p,k,h=>InP.bind (oX hn h k _ _ _) λl _=>BS f _ _ (h.perm (bubble_perm _ _ _) hn)
theorem sC:InP n (λ_=>True) (kas_sort n):=by
 have h0:AllLt n (Q4 (Io n)):=λk=>by
  by_cases hk:k<n
  ·simp[Array.getD,hk]
  ·simp[Array.getD,hk,hn]
 unfold kas_sort;refine InP.bind (CU hn h0 n) λr hr=>?_
 by_cases h:r.1<n
 ·rw[if_pos h];exact BS hn _ _ _ hr
 ·rw[if_neg h];exact trivial
end
theorem sD{α:Type}{n:Nat}{cmp:Nat->Nat->(Bool->Shared->Prop)->Shared->Prop}{lt:Nat->Nat->Bool}{s:Shared}(hc:∀i j C,i<n->j<n->C (lt i j) s->cmp i j C s){Q:α->Shared->Prop}{P:α->Prop}:
  ∀{t:KasT α},InP n P t->Q (evT lt t) s->t.kasWp cmp Q s
 |.ret _,_,h=>h
 |.ask i j k,⟨h1,h2,h3⟩,h=>hc i j _ h1 h2 (sD hc (h3 _) h)
def ltX(n:Nat)(lt:Nat->Nat->Bool)(i j:Nat):Bool:=if i<n then(if j<n then lt i j else true) else false
theorem JP{lt:Nat->Nat->Bool}(tr:∀i j k,i<n->j<n->k<n->lt j i=false->lt k j=false->lt k i=false)(i j k:Nat)(h1:ltX n lt j i=false)(h2:ltX n lt k j=false):ltX n lt k i=false:=by
 unfold ltX at*
 by_cases hi:i<n <;> by_cases hj:j<n <;> by_cases hk:k<n <;> simp only[hi,hj,hk,if_true,if_false]at h1 h2⊢ <;> first|exact tr i j k hi hj hk h1 h2|exact absurd h2 (by decide)|exact absurd h1 (by decide)|rfl
theorem JQ{lt:Nat->Nat->Bool}(as:∀i j,i<n->j<n->lt i j=true->lt j i=false)(i j:Nat)(h:ltX n lt i j=true):ltX n lt j i=false:=by
 unfold ltX at*
 by_cases hi:i<n <;> by_cases hj:j<n <;> simp only[hi,hj,if_true,if_false]at h⊢ <;> first|exact as i j hi hj h|exact absurd h (by decide)|rfl
theorem vE{α:Type}{n:Nat}{lt lt':Nat->Nat->Bool}(h:∀i j,i<n->j<n->lt i j=lt' i j){P:α->Prop}:∀{t:KasT α},InP n P t->evT lt t=evT lt' t
 |.ret _,_=>rfl
 |.ask i j k,⟨h1,h2,h3⟩=>by
  show evT lt (k (lt i j))=evT lt' (k (lt' i j))
  rw[h i j h1 h2];exact vE h (h3 _)
theorem zX{lt:Nat->Nat->Bool}(tr:∀i j k,i<n->j<n->k<n->lt j i=false->lt k j=false->lt k i=false)(as:∀i j,i<n->j<n->lt i j=true->lt j i=false)(h1:1<=n):
  (evT lt (kas_sort n)).toList.Perm (Io n)/\(evT lt (kas_sort n)).toList.Pairwise (λi j=>lt j i=false):=by
 have e:evT lt (kas_sort n)=evT (ltX n lt) (kas_sort n):=vE (λi j hi hj=>by unfold ltX;rw[if_pos hi,if_pos hj]) (sC (by omega));obtain⟨a,b⟩:=GX (lt:=ltX n lt) (JP tr) (JQ as) h1;rw[e];refine⟨a,b.imp_of_mem λ{i j} hi hj h=>?_⟩;have ax:i<n:=by simpa using a.mem_iff.mp hi
 have kr:j<n:=by simpa using a.mem_iff.mp hj
 unfold ltX at h;rw[if_pos kr,if_pos ax]at h;exact h
variable{κ:SortKind}
theorem qT{vs:List Value}{P:PySem.Fin->Shared->Prop}(lt:Nat->Nat->Bool)(tr:∀i j k,i<vs.length->j<vs.length->k<vs.length->lt j i=false->lt k j=false->lt k i=false)(as:∀i j,i<vs.length->j<vs.length->lt i j=true->lt j i=false)(ho:s.heap.get? a=some (seqObj "list" vs.toArray n))(da:vs.length<64)(hk:∀s':Shared,(∀b o,b≠a->s.heap.get? b=some o->s'.heap.get? b=some o)->∀Q:SortKind->Shared->Prop,Q κ s'->wpAny (model prog w) A (keyKind' vs.toArray) Q E s')(aw:∀s':Shared,(∀b o,b≠a->s.heap.get? b=some o->s'.heap.get? b=some o)->∀i j,i<vs.length->j<vs.length->∀Q:Bool->Shared->Prop,Q (lt i j) s'->wpAny (model prog w) A (keyLt' κ (vs.getD i zm) (vs.getD j zm)) Q (λ_ _=>False) s')(h:∀p:List Nat,p.Perm (Io vs.length)->p.Pairwise (λi j=>lt j i=false)->P (.done (.ret .none)) { s with heap:=sortedHeap s.heap a vs (p.map λi=>vs.getD i zm).toArray }):
  wpAny (model prog w) A (Builtin.«list.sort» ⟨[.ref a],[]⟩) P E s:=by
 rw[list_sort_plain];have ha:a<s.heap.objs.size:=zl ho;refine yw (listItems_at ho rfl ?_);refine yw (QN ho rfl ?_ (by rw[ze,Pj];omega) (zz _));obtain⟨e1,c9⟩:∃e1,(s.heap.update a (Pd λ_=>#[])).get? a=some (seqObj "list" #[] e1):=⟨_,Rq ho (λ_=>#[])⟩;refine yw (seqEpoch_at c9 rfl ?_);refine yw (wpAny_newTuple ?_ (by show vs.length<=_;rw[Pj];omega));refine yw (wpAny_newList ?_ (zz _));refine PF ?_;have j3:(((s.heap.update a (Pd λ_=>#[])).push (seqObj "tuple" vs.toArray 0)).push (seqObj "list" #[] 0)).get? a=some (seqObj "list" #[] e1):=by
  rw[QX _ _ _ (by rw[size_push',RK];exact z7 (Nat.lt_succ_of_lt ha)),QX _ _ _ (by rw[RK];exact z7 ha)];exact c9
 have kept:∀b o,b≠a->s.heap.get? b=some o->(((s.heap.update a (Pd λ_=>#[])).push (seqObj "tuple" vs.toArray 0)).push (seqObj "list" #[] 0)).get? b=some o:=λb o hb e=>
  y0 _ (y0 _ ((Heap.get?_update_other s.heap (Pd λ_=>#[]) (PY hb)).trans e))
 show wpAny (model prog w) A _ P E { s with heap:=((s.heap.update a (Pd λ_=>#[])).push (seqObj "tuple" vs.toArray 0)).push (seqObj "list" #[] 0) }
 dsimp only;have hsz:vs.toArray.size=vs.length:=by simp
 by_cases h2:vs.toArray.size<2
 ·rw[if_pos h2,if_pos h2];refine yw (yy ?_);rw[StateT.run_pure];refine yw (yy ?_);dsimp only;refine yw (seqEpoch_at j3 rfl ?_);refine yw (QN j3 rfl ?_ (zz _) (hsz2:=by rw[Array.size_map];show(pairsOf vs).size<=_;rw[pairsOf_size,Pj];omega));simp only[bne_self_eq_false,Pb,if_false];have e:(vs.toArray.zip vs.toArray).map (·.2)=((Io vs.length).map λi=>vs.getD i zm).toArray:=by
   apply Array.toList_inj.mp;apply QA;intro i
   by_cases hi:i<vs.length
   ·simp[hi]
   ·simp[hi]
  have key:=h (Io vs.length) (List.Perm.refl _) (by
   rw[List.pairwise_iff_getElem];intro i j hi hj bp;simp only[QY]at hi hj;omega)
  rw[<-e]at key;exact yy key
 ·rw[if_neg h2,if_neg h2];have cm:2<=vs.length:=by omega
  refine yw (hk _ kept _ ?_);refine yw (Qu (kat_run (ks:=vs) (vs:=vs) (E:=E) (Q:=λbh s'=>s'={ s with heap:=((s.heap.update a (Pd λ_=>#[])).push (seqObj "tuple" vs.toArray 0)).push (seqObj "list" #[] 0) }/\arrOf bh=(evT lt (kas_sort vs.length)).map (kas_item (vs.toArray.zip vs.toArray))/\failedOf bh=none)
   (G:=λp s'=>p=evT lt (kas_sort vs.length)/\s'={ s with heap:=((s.heap.update a (Pd λ_=>#[])).push (seqObj "tuple" vs.toArray 0)).push (seqObj "list" #[] 0) }) rfl cm da (λp bh s' _ a2 a3 a4=>⟨a4.2,by rw[a2,a4.1],a3⟩)
   (sD (n:=vs.length) (lt:=lt) (λi j C hi hj hC=>aw _ kept i j hi hj C hC) (sC (by omega)) ⟨rfl,rfl⟩)) ?_ λ_ _ e=>e)
  rintro⟨⟨⟩,bh⟩ s' ⟨rfl,har,hf⟩;dsimp only;have gp:=kat_snds (ks:=vs) (vs:=vs) rfl har;obtain⟨c1,c2⟩:=zX tr as (by omega);refine yw (seqEpoch_at j3 rfl ?_);refine yw (QN j3 rfl ?_ (zz _) (hsz2:=by
   have:(Array.map (λx=>x.snd) (arrOf bh)).size<=zk:=by
    rw[gp,ze,za,c1.length_eq,QY,Pj];omega
   first|exact this|exact Nat.le_succ_of_le this))
  rw[hf];simp only[bne_self_eq_false,Pb,if_false];have key:=h _ c1 c2;rw[<-gp]at key;exact yy key
def kD:Key->D
 |.inl i=>.int i
 |.inr x=>.str x
def tD(ks:List Key):D:=.tup (ks.map kD)
theorem GY{k:Key}(h:Rep K H (kD k) v):v=kV k:=by
 cases k <;> exact h
theorem GZ(k:Key):Rep K H (kD k) (kV k):=by
 cases k <;> rfl
theorem vF{K:yz}{H:Hp}:∀{ks:List Key}{vs:List V},cP K H (ks.map kD) vs->vs=ks.map kV
 |[],[],_=>rfl
 |k::ks,v::vs,⟨h,r⟩=>by rw[GY h,vF (ks:=ks) r];rfl
 |[],_::_,h=>h.elim
 |_::_,[],h=>h.elim
theorem vG{K:yz}{H:Hp}:∀(ks:List Key),cP K H (ks.map kD) (ks.map kV)
 |[]=>trivial
 |k::ks=>⟨GZ k,vG ks⟩
abbrev eX(h:Heap):List Value->List (List Key)->Prop:=Paired λv ks=>∃a us,v=.ref a/\IsTup h a us.toArray/\aJ (ks.map kV) us
theorem eX.kept{h:Heap}(k:∀b o,h.get? b=some o->h'.get? b=some o):∀{vs:List Value}{kss:List (List Key)},eX h vs kss->eX h' vs kss
 |_,_,.nil=>.nil
 |_,_,.cons ⟨a,us,e,⟨o,ho,r⟩,q⟩ t=>.cons ⟨a,us,e,⟨o,k a o ho,r⟩,q⟩ (eX.kept k t)
theorem eX.get{h:Heap}:∀{vs:List Value}{kss:List (List Key)}{i:Nat},eX h vs kss->i<vs.length->∃a us,vs.getD i zm=.ref a/\IsTup h a us.toArray/\aJ ((kss.getD i []).map kV) us
 |_,_,i,.nil,hi=>by simp at hi
 |_,_,0,.cons ⟨a,us,e,p,q⟩ t,hi=>⟨a,us,by simpa using e,p,by simpa using q⟩
 |_,_,i+1,.cons _ t,hi=>by
  obtain⟨a,us,e,p,q⟩:=eX.get (i:=i) t (by simpa using hi)
  exact⟨a,us,by simpa using e,p,by simpa using q⟩
theorem lI{X:Cx}{pins:List (Addr×Obj)}{σ:St}{H:Hp}{s:Shared}(I:Inv X pins σ H s):∀{kss:List (List Key)}{vs:List V}{us:List Value},cP X.K H (kss.map tD) vs->aJ vs us->eX s.heap us kss
 |[],[],_,_,.nil=>.nil
 |ks::kss,v::vs,_,⟨⟨a,ws,e,q,r⟩,rs⟩,.cons rv i5=>by
  subst e;cases rv
  obtain⟨its,r2,p,_⟩:=I.tuple q;rw[vF r]at r2;exact .cons ⟨a,its,rfl,p,r2⟩ (lI I rs i5)
 |[],_::_,_,h,_=>h.elim
 |_::_,[],_,h,_=>h.elim
variable{ls:List Key}{us ws:List Value}{kss:List (List Key)}{sh:List Bool}
section
theorem jN{b:Bool}{Q:Bool->Shared->Prop}:∀(ks ls:List Key)(us ws:List Value)(i:Nat),aJ (ks.map kV) us->aJ (ls.map kV) ws->shape ks=shape ls->Q (bD ks ls) s->KatLex prog w A b false Q (us.zip ws) i s
 |[],[],_,_,i,.nil,.nil,_,h=>h
 |[],_::_,_,_,_,_,_,e,_=>by cases e
 |_::_,[],_,_,_,_,_,e,_=>by cases e
 |x::ks,y::ls,_,_,i,.cons (b:=u) r1 t1,.cons (b:=v) r2 t2,e,h=>by
  have s1:cT x=cT y:=by simpa using congrArg List.head? e
  have s2:shape ks=shape ls:=by simpa using congrArg List.tail e
  rw[List.zip_cons_cons];unfold bD at h;cases x with
  |inl a=>
   cases y with
   |inr c=>cases s1
   |inl c=>
    obtain⟨t,rfl⟩:=r1;obtain⟨t',rfl⟩:=r2;refine kat_cons (EqAt.int_int a t c t' prog w _ _ ?_)
    by_cases ac:a=c
    ·subst ac;rw[if_pos rfl]at h;rw[beq_self_eq_true];exact kat_yes (jN ks ls _ _ (i+1) t1 t2 s2 h)
    ·rw[if_neg (λz=>ac (Sum.inl.inj z))]at h;rw[beq_eq_false_iff_ne.mpr ac];refine kat_no ?_;cases hb:(b&&i == 0) with
     |true=>exact oneLt_int h
     |false=>exact kat_one _ _ (lt_int (show PySem.W.BoolBack Q (.bool (decide (a<c))) s from h))
  |inr a=>
   cases y with
   |inl c=>cases s1
   |inr c=>
    obtain⟨t,rfl⟩:=r1;obtain⟨t',rfl⟩:=r2;refine kat_cons (EqAt.str_str a t c t' prog w _ _ ?_)
    by_cases ac:a=c
    ·subst ac;rw[if_pos rfl]at h;rw[beq_self_eq_true];exact kat_yes (jN ks ls _ _ (i+1) t1 t2 s2 h)
    ·rw[if_neg (λz=>ac (Sum.inr.inj z))]at h;rw[beq_eq_false_iff_ne.mpr ac];refine kat_no ?_;cases hb:(b&&i == 0) with
     |true=>exact oneLt_str h
     |false=>exact kat_one _ _ (lt_str (show PySem.W.BoolBack Q (.bool (decide (a.cps.toList<c.cps.toList))) s from h))
theorem sE{x y:Addr}{ks:List Key}{Q:Bool->Shared->Prop}(hx:IsTup s.heap x us.toArray)(hy:IsTup s.heap y ws.toArray)(r1:aJ (ks.map kV) us)(r2:aJ (ls.map kV) ws)(e:shape ks=shape ls)(h:Q (bD ks ls) s):
  wpAny (model prog w) A (keyLt' (tuples' b) (.ref x) (.ref y)) Q E s:=by
 obtain⟨ox,vt,_,n,dx⟩:=hx;obtain⟨oy,vy,_,m,dy⟩:=hy;refine kat_lt vt dx vy dy ?_;have l1:=r1.length;have l2:=r2.length;have l3:ks.length=ls.length:=by simpa using congrArg List.length e
 rw[za]at l1 l2;have hf:decide (us.toArray.size<ws.toArray.size)=false:=decide_eq_false (by simp;omega);rw[hf];exact jN ks ls us ws 0 r1 r2 e h
set_option tactic.hygienic true in
theorem sF{h:Heap}{b:Bool}{sh:List Bool}:∀{vs:List Value}{kss:List (List Key)},eX h vs kss->(∀ks∈kss,shape ks=b::sh)->∃fs:List Value,fs.length=vs.length/\KatTups h vs fs/\∀f∈fs,typeOf f=pure (.type (if b then "int" else "str"))
 |_,_,.nil,_=>⟨[],rfl,KatTups.nil,λ_ hf=>nomatch hf⟩
 |_,_,.cons (b:=ks) ⟨a,us,e,⟨o,ho,hc,n,hd⟩,r⟩ t,hs=>by
  obtain⟨fs,hl,ht,hT⟩:=sF t λx hx=>hs x (zc _ hx);have h0:=hs ks zd;subst e;cases ks with
  |nil=>cases h0
  |cons k ks=>
   cases r with
   |cons rk rks=>
    rename_i u us';have hk:cT k=b:=by simpa using congrArg List.head? h0
    refine⟨u::fs,by simp[hl],KatTups.cons ho hc hd (by simp) ht,λf hf=>?_⟩;rcases zq.mp hf with rfl|hf
    ·cases k with
     |inl i=>obtain⟨tk,rfl⟩:=rk;subst hk;rfl
     |inr x=>obtain⟨tk,rfl⟩:=rk;subst hk;rfl
    ·exact hT f hf
theorem vH{vs:List Value}{Q:SortKind->Shared->Prop}(t:eX s.heap vs kss)(hs:∀ks∈kss,shape ks=b::sh)(h0:0<vs.length)(h:Q (tuples' true) s):wpAny (model prog w) A (keyKind' vs.toArray) Q E s:=by
 obtain⟨fs,hl,ht,hT⟩:=sF t hs;refine kat_kind (T:=.type (if b then "int" else "str")) ht (by omega) (λv hv=>by rw[hT v hv];exact Looks.now) (by cases b <;> rfl) ?_;have:((Value.type (if b then "int" else "str")) != Value.type "tuple")=true:=by cases b <;> rfl
 rw[this];exact h
theorem oY{P:PySem.Fin->Shared->Prop}(ho:s.heap.get? a=some (seqObj "list" ([]:List Value).toArray n))(h:P (.done (.ret .none)) { s with heap:=sortedHeap s.heap a [] #[] }):wpAny (model prog w) A (Builtin.«list.sort» ⟨[.ref a],[]⟩) P E s:=by
 rw[list_sort_plain];refine yw (listItems_at ho rfl ?_);refine yw (QN ho rfl ?_ (zz _) (zz _));have ha:a<s.heap.objs.size:=zl ho;obtain⟨e1,c9⟩:∃e1,(s.heap.update a (Pd λ_=>#[])).get? a=some (seqObj "list" #[] e1):=⟨_,Rq ho (λ_=>#[])⟩;refine yw (seqEpoch_at c9 rfl ?_);refine yw (wpAny_newTuple ?_ (zz _));refine yw (wpAny_newList ?_ (zz _));refine PF ?_;have j3:(((s.heap.update a (Pd λ_=>#[])).push (seqObj "tuple" ([]:List Value).toArray 0)).push (seqObj "list" #[] 0)).get? a=some (seqObj "list" #[] e1):=by
  rw[QX _ _ _ (by rw[size_push',RK];exact z7 (Nat.lt_succ_of_lt ha)),QX _ _ _ (by rw[RK];exact z7 ha)];exact c9
 show wpAny (model prog w) A _ P E { s with heap:=((s.heap.update a (Pd λ_=>#[])).push (seqObj "tuple" ([]:List Value).toArray 0)).push (seqObj "list" #[] 0) }
 dsimp only;rw[if_pos (by decide),if_pos (by decide)];refine yw (yy ?_);rw[StateT.run_pure];refine yw (yy ?_);dsimp only;refine yw (seqEpoch_at j3 rfl ?_);have e0:(Array.map (λx=>x.snd) (arrOf (SortSt.mk' general' ((#[]:Array Value).zip (#[]:Array Value)) #[] 7 none)))=(#[]:Array Value):=by
  show Array.map (λx=>x.snd) ((#[]:Array Value).zip (#[]:Array Value))=#[]
  simp
 refine yw (QN j3 rfl ?_ (zz _) (hsz2:=by
  have e1:(Array.map (λx=>x.snd) (arrOf (SortSt.mk' general' ((#[]:Array Value).zip (#[]:Array Value)) #[] 7 none))).size=0:=by rw[e0];rfl
  first|exact Ph (Nat.le_of_eq e1) (zz _)|(show _<=_;omega)))
 simp only[bne_self_eq_false,Pb,if_false];refine yy ?_
 show P (.done (.ret .none)) { s with heap:=(((s.heap.update a (Pd λx=>#[])).push (seqObj "tuple" ([]:List Value).toArray 0)).push (seqObj "list" #[] 0)).update a (Pd λx=>Array.map (λx=>x.snd) (arrOf (SortSt.mk' general' ((#[]:Array Value).zip (#[]:Array Value)) #[] 7 none))) }
 rw[e0];exact h
theorem CV{v:Value}(tw:List Value->Shared->Prop)(hc:wpAny (model prog w) A.in1 (collect v) tw E s)(h:∀vs s1,tw vs s1->vs.length<64/\∃lt:Nat->Nat->Bool,(∀i j k,i<vs.length->j<vs.length->k<vs.length->lt j i=false->lt k j=false->lt k i=false)/\(∀i j,i<vs.length->j<vs.length->lt i j=true->lt j i=false)/\
   (∀(A':Around)(s':Shared),(∀b o,s1.heap.get? b=some o->s'.heap.get? b=some o)->0<vs.length->∀(Q:SortKind->Shared->Prop) E',Q κ s'->wpAny (model prog w) A' (keyKind' vs.toArray) Q E' s')/\
   (∀(s':Shared),(∀b o,s1.heap.get? b=some o->s'.heap.get? b=some o)->∀i j,i<vs.length->j<vs.length->∀Q:Bool->Shared->Prop,Q (lt i j) s'->wpAny (model prog w) A.in1.in1 (keyLt' κ (vs.getD i zm) (vs.getD j zm)) Q (λ_ _=>False) s')/\
   ∀(p:List Nat)(h':Heap)(e:Nat),p.Perm (Io vs.length)->p.Pairwise (λi j=>lt j i=false)->(∀b o,s1.heap.get? b=some o->h'.get? b=some o)->h'.get? s1.heap.objs.size=some (seqObj "list" (p.map λi=>vs.getD i zm).toArray e)->Q (.ref s1.heap.objs.size) { s1 with heap:=h' }):
  wpAny (model prog w) A (call (.builtin "sorted") [v]) Q E s:=by
 refine Calls.call_function_entry kind_sorted plain_sorted entry_sorted (args_sorted1 _) ?_;unfold Builtin.«sorted»;refine yw (m:=checkCount "sorted" 1 1 _) (yy ?_);refine yw (Qu hc (λvs s1 c=>?_) λ_ _ x=>x);obtain⟨da,lt,tr,as,hk,aw,fin⟩:=h vs s1 c;refine yw (wpAny_newList ?_ (by rw[Pj];omega));have ie:(s1.heap.push (seqObj "list" vs.toArray 0)).get? s1.heap.objs.size=some (seqObj "list" vs.toArray 0):=zj _ rfl;have keep:∀b o,s1.heap.get? b=some o->b≠s1.heap.objs.size/\(s1.heap.push (seqObj "list" vs.toArray 0)).get? b=some o:=λb o q=>⟨z7 (zl q),y0 _ q⟩
 show wpAny _ _ _ _ _ { s1 with heap:=s1.heap.push (seqObj "list" vs.toArray 0) }
 refine yw (PF (Pg slot_list_sort ⟨_,ie,rfl⟩ entry_list_sort ?_ (args_list_sort _)));have tree:wpAny (model prog w) A.in1.in1 (Builtin.«list.sort» ⟨[.ref s1.heap.objs.size],[]⟩) (λr s'=>∃p:List Nat,r=.done (.ret .none)/\p.Perm (Io vs.length)/\p.Pairwise (λi j=>lt j i=false)/\s'={ s1 with heap:=sortedHeap (s1.heap.push (seqObj "list" vs.toArray 0)) s1.heap.objs.size vs (p.map λi=>vs.getD i zm).toArray }) E { s1 with heap:=s1.heap.push (seqObj "list" vs.toArray 0) }:=by
  by_cases h0:0<vs.length
  ·exact qT (κ:=κ) lt tr as ie da (λs' kp Q hq=>hk _ s' (λb o e=>kp b o (keep b o e).1 (keep b o e).2) h0 Q _ hq) (λs' kp i j hi hj Q hq=>aw s' (λb o e=>kp b o (keep b o e).1 (keep b o e).2) i j hi hj Q hq) λp a1 a2=>⟨p,rfl,a1,a2,rfl⟩
  ·have e0:vs=[]:=List.length_eq_zero_iff.mp (by omega);subst e0;exact oY ie ⟨[],rfl,List.Perm.refl _,List.Pairwise.nil,rfl⟩
 refine Qu tree (λr s' hr=>?_) λ_ _ x=>x;obtain⟨p,rfl,a1,a2,rfl⟩:=hr;refine⟨_,rfl,yy ⟨_,rfl,?_⟩⟩;obtain⟨e,he⟩:=sortedHeap_at (h:=s1.heap.push (seqObj "list" vs.toArray 0)) (out:=(p.map λi=>vs.getD i zm).toArray) ie;exact fin p _ e a1 a2 (λb o q=>(sortedHeap_old (keep b o q).1 (by rw[size_push'];exact Nat.lt_succ_of_lt (zl q))).trans (keep b o q).2) he
end
def oZ(H:Hp)(ps:List (Addr×List V)):Hp:=λb=>match ps.lookup b with
 |some xs=>some (.tup xs)
 |none=>H b
theorem qM{κ:Type}{x:Addr}{k:κ}:∀{l:List (Addr×κ)},l.lookup x=some k->(x,k)∈l
 |[],h=>by simp at h
 |(n,v)::r,h=>by
  by_cases hx:x=n
  ·subst hx;simp only[zw,beq_self_eq_true]at h;cases h
   exact zd
  ·have:(x == n)=false:=by simpa using hx
   simp only[zw,this]at h;exact zc _ (qM h)
theorem nI{κ:Type}{x:Addr}:∀{l:List (Addr×κ)},(∀p∈l,p.1≠x)->l.lookup x=none
 |[],_=>rfl
 |(n,v)::r,h=>by
  have hx:(x == n)=false:=by
   have:=h (n,v) zd;simpa using λe:x=n=>this e.symm
  simp only[zw,hx];exact nI λp hp=>h p (zc _ hp)
theorem zY{ps:List (Addr×List V)}{b:Addr}(h:∀p∈ps,p.1≠b):oZ H ps b=H b:=by
 unfold oZ;rw[nI h]
theorem zZ{H:Hp}:∀{ps:List (Addr×List V)}{j:Nat}{a:Addr}{xs:List V},(ps.map (·.1)).Nodup->ps[j]?=some (a,xs)->oZ H ps a=some (.tup xs)
 |[],_,_,_,_,h=>by simp at h
 |(n,v)::r,0,a,xs,_,h=>by
  simp at h;obtain⟨rfl,rfl⟩:=h;unfold oZ;simp[zw]
 |(n,v)::r,j+1,a,xs,nd,h=>by
  have k0:(n::r.map (·.1)).Nodup:=nd;obtain⟨n1,n2⟩:=Qq.mp k0;have h':r[j]?=some (a,xs):=by simpa using h
  have ne:(a == n)=false:=by
   have:a∈r.map (·.1):=z9.mpr ⟨_,Pn h',rfl⟩;simpa using λe:a=n=>n1 (e▸this)
  have ih:=zZ (H:=H) n2 h';unfold oZ at ih⊢;simp only[zw,ne];exact ih
theorem Inv.laidT{ps:List (Addr×List V)}(I:Inv X pins σ H s)(k:∀b u,s.heap.get? b=some u->h'.get? b=some u)(hp:∀p∈ps,s.heap.objs.size<=p.1)(new:∀p∈ps,p.2.length<=zk/\∃its:List Value,aJ p.2 its/\oQ h' p.1 its.toArray):
  Inv X pins σ (oZ H ps) { s with heap:=h',toks:=t' }:=by
 have nb:∀b,b<s.heap.objs.size->∀p∈ps,p.1≠b:=λb hb p cj e=>P3 _ (zr hb (e▸hp p cj));have old:∀b,b<s.heap.objs.size->oZ H ps b=H b:=λb hb=>zY (nb b hb);refine I.un ⟨λb u q _ _ _=>k b u q,λb u q _ _ _=>⟨u.slots,k b u q⟩,λb u q n _=>(old b (zl q)).trans n,λb u q _=>⟨u,k b u q⟩,λb xs q=>(old b (I.hok.lt q)).trans q,λb u xs q=>(old b (I.hok.lt q)).trans q,λb ps' q=>⟨#[],by rw[old b (I.hok.lt q),q];simp⟩⟩ ?_;intro b u e;unfold oZ at e;cases q:ps.lookup b with
 |some xs=>
  rw[q]at e;cases e
  obtain⟨z,its,r,p⟩:=new _ (qM q);exact⟨z,its,r,p⟩
 |none=>
  rw[q]at e;have hb:=I.hok.lt e;exact(I.hok b u e).stay (λc v _ q=>k c v q) (λc q=>(old c (I.hok.lt q)).trans q) λc xs q=>(old c (I.hok.lt q)).trans q
theorem CW(I:Inv X pins σ H s){ps:List (Addr×List V)}(hp:∀p∈ps,s.heap.objs.size<=p.1):zQ H (oZ H ps):=λb o e=>by
 have nb:∀p∈ps,p.1≠b:=λp cj z=>P3 _ (zr (I.hok.lt e) (z▸hp p cj));rw[zY nb];exact e
def JR(v d:Addr):HO:=.ext λh=>h.IsItemsView v d
def xG(K:yz)(kss:List (List Key))(Q:VK)(H1:Hp):Prop:=∀(l:Addr)(fe:List (List Key))(cy:List V),H1 l=none->fe.Perm kss->fe.Pairwise (λa b=>bD b a=false)->cP K H1 (fe.map tD) cy->Q (.ref l) (upd H1 l (.lst cy))
def JS(K:yz):List V->Hp->VK->Prop:=λxs H Q=>∃(p:Addr)(kss:List (List Key))(sh:List Bool)(b:Bool),xs=[.ref p]/\kss.length<64/\(∀ks∈kss,shape ks=b::sh)/\
 ((∃vs,SqL K H p vs/\cP K H (kss.map tD) vs/\xG K kss Q H)\/
  (∃d kvs,H p=some (JR p d)/\H d=some (.dK kvs)/\kvs.map (λkv=>[kV kv.1,kv.2])=kss.map (λks=>ks.map kV)/\∀H1,zQ H H1->xG K kss Q H1))
theorem vI{α:Type}{xs:List α}{d:α}{p:List Nat}(h:p.Perm (Io xs.length)):(p.map λi=>xs.getD i d).Perm xs:=by
 have e:(Io xs.length).map (λi=>xs.getD i d)=xs:=by
  apply QA;intro i
  by_cases hi:i<xs.length
  ·simp[hi]
  ·simp[hi]
 have:=h.map λi=>xs.getD i d
 rwa[e]at this
theorem vJ{K:yz}{H:Hp}{ds:List D}{vs:List V}(r:cP K H ds vs):∀{p:List Nat},(∀i∈p,i<ds.length)->cP K H (p.map λi=>ds.getD i .non) (p.map λi=>vs.getD i .non)
 |[],_=>trivial
 |i::p,h=>by
  have hi:=h i zd;have g:ds[i]?=some (ds.getD i .non):=by simp[hi]
  obtain⟨v,hv,hr⟩:=r.at g;have e:vs.getD i .non=v:=by simp[Qf,hv]
  refine⟨?_,vJ r λj hj=>h j (zc _ hj)⟩
  show Rep K H (ds.getD i .non) (vs.getD i .non)
  rw[e];exact hr
theorem pA{vs:List V}{us:List Value}(r:aJ vs us):∀{p:List Nat},(∀i∈p,i<vs.length)->aJ (p.map λi=>vs.getD i .non) (p.map λi=>us.getD i zm)
 |[],_=>.nil
 |i::p,h=>by
  have hi:=h i zd;have g:vs[i]?=some (vs.getD i .non):=by simp[hi]
  obtain⟨u,hu,hr⟩:=r.get g;have e:us.getD i zm=u:=by simp[Qf,hu]
  refine .cons ?_ (pA r λj hj=>h j (zc _ hj))
  show RelV (vs.getD i .non) (us.getD i zm)
  rw[e];exact hr
theorem xH(hc:X.calm=true)(K:yz)(hK:X.K=K):bT X (.builtin "sorted") (JS K):=by
 subst hK;intro pins s σ H xs us Q I r h;obtain⟨p,kss,sh,b,rfl,da,hsh,h⟩:=h;obtain⟨u,rfl,ru⟩:=vals1 r;cases ru
 have a8:∀i,i<kss.length->shape (kss.getD i [])=b::sh:=λi hi=>by
  have:kss.getD i []=kss[i]:=by simp[hi]
  rw[this];exact hsh _ (RL hi)
 refine CV (κ:=tuples' true) (λits s1=>∃H1 vs,Inv X pins σ H1 s1/\aJ vs its/\cP X.K H1 (kss.map tD) vs/\xG X.K kss Q H1) ?col ?fin
 case fin=>
  rintro its s1 ⟨H1,vs,I1,rv,rr,fin⟩;have l1:=rv.length;have l2:kss.length=vs.length:=by simpa using rr.length
  have hlen:its.length=kss.length:=by omega
  have tk:=lI I1 rr rv;refine⟨by omega,λi j=>bD (kss.getD i []) (kss.getD j []),λi j k hi hj hk h1 h2=>?_,λi j _ _ h=>nD h,λA' s' kp h0 Q' E' hq=>?_,λs' kp i j hi hj Q' hq=>?_,λq h' e a1 a2 kp he=>?_⟩
  ·exact kF ((a8 i (by omega)).trans (a8 j (by omega)).symm) ((a8 j (by omega)).trans (a8 k (by omega)).symm) h1 h2
  ·exact vH (tk.kept kp) hsh h0 hq
  ·obtain⟨a,ua,e1,p1,r1⟩:=(tk.kept kp).get hi;obtain⟨c,uc,e2,p2,r2⟩:=(tk.kept kp).get hj;rw[e1,e2];exact sE p1 p2 r1 r2 ((a8 i (by omega)).trans (a8 j (by omega)).symm) hq
  ·have bj:∀i∈q,i<kss.length:=λi hi=>by
    have:=a1.mem_iff.mp hi;rw[List.mem_range]at this;omega
   rw[hlen]at a1;have ur:=vJ rr (p:=q) (λi hi=>by rw[za];exact bj i hi);have em:(q.map λi=>(kss.map tD).getD i .non)=(q.map λi=>kss.getD i []).map tD:=by
    rw[Pm];apply Ql;intro i hi;have:=bj i hi;simp[this]
   rw[em]at ur;refine⟨.ref s1.heap.objs.size,_,I1.laid (t':=s1.toks) (o:=.lst (q.map λi=>vs.getD i .non)) kp (zb _) ?_,rfl,fin _ _ _ I1.fresh (vI a1) ?_ ur⟩
   ·refine⟨?_,q.map (λi=>its.getD i zm),e,pA rv (λi hi=>by have:=bj i hi;omega),he⟩;rw[za,a1.length_eq,QY,Pj];omega
   ·rw[Qm];exact a2
 case col=>
  rcases h with⟨vs,hq,rr,fin⟩|⟨d,kvs,hv,hd,hk,fin⟩
  ·obtain⟨its,rv,pl,hz⟩:=I.list hq;refine collect_list pl.isList ?_ (by have:=rv.length;omega);exact⟨H,vs,I.kept (t':=s.toks) λb o e=>by
    have aw:b<s.heap.objs.size:=zl e
    first
     |(rw[Heap.get?_update_ne _ _ _ _ (z7 aw),QX _ _ _ (z7 aw)];exact e)
     |exact y0 _ e,rv,rr,fin⟩
  ·obtain⟨e7,_,_⟩:=I.hok p _ hv;obtain⟨z,y,vs,iq,D⟩:=I.hok d _ hd;obtain⟨ep,D'⟩:=D.dictAt;have lkv:kvs.length=vs.length:=KV.length iq;have lks:kvs.length=kss.length:=by simpa using congrArg List.length hk
   refine kdx_collect (A:=X.A.in1) (knd:=bF X.prog X.w) (kvs:=vs) (ep:=ep) (I.ok.hd hc) e7 D' (by rw[Pj];omega) λh' tk as kp hl hG=>?_
   -- the new tuples
   let ps:List (Addr×List V):=as.zip (kss.map λks=>ks.map kV);have r9:ps.map (·.1)=as:=by
    show(as.zip _).map Prod.fst=as
    rw[List.map_fst_zip];rw[za];omega
   have ay:∀q∈ps,s.heap.objs.size<=q.1:=λq hq=>by
    have:q.1∈as:=by rw[<-r9];exact z9.mpr ⟨q,hq,rfl⟩
    exact QH (hG.above _ this)
   have nd:(ps.map (·.1)).Nodup:=by
    rw[r9];exact hG.rise.imp λh=>z7 h
   have each:∀(j:Nat)(a:Addr),as[j]?=some a->∃ks us,kss[j]?=some ks/\ps[j]?=some (a,ks.map kV)/\aJ (ks.map kV) us/\oQ h' a us.toArray/\ks.length<=2:=λj a ha=>by
    obtain⟨key,kk,x,e1,e2,e3⟩:=hG.pairs j a ha;have hj:j<kss.length:=by
     have:=(yx.mp ha).1;omega
    have xm:j<kvs.length:=by omega
    have g1:kss[j]?=some kss[j]:=by simp[hj]
    have g2:kvs[j]?=some kvs[j]:=by simp[xm]
    have g3:(kss[j]).map kV=[kV kvs[j].1,kvs[j].2]:=by
     have:=congrArg (λl=>l[j]?) hk;simp[g1,g2]at this;exact this.symm
    -- the raw pair
    have rr:∀{kvs:List (Key×V)}{vs:List (Key×Value)}{j:Nat}{kv:Key×V}{w':Key×Value},KV kvs vs->kvs[j]?=some kv->vs[j]?=some w'->kv.1=w'.1/\RelV kv.2 w'.2:=by
     intro kvs vs j kv w' h
     induction h generalizing j with
     |nil=>intro h1;simp at h1
     |cons r t ih=>
      intro h1 h2;cases j with
      |zero=>simp at h1 h2;subst h1 h2;exact r
      |succ j=>exact ih (by simpa using h1) (by simpa using h2)
    obtain⟨q1,q2⟩:=rr iq g2 e1;refine⟨kss[j],[key,x],g1,?_,?_,⟨_,e3,rfl,⟨0,rfl⟩,rfl⟩,?_⟩
    ·show(as.zip _)[j]?=_
     rw[List.getElem?_zip_eq_some];exact⟨ha,by simp[g1]⟩
    ·rw[g3];refine .cons ?_ (.cons q2 .nil);rw[q1];have vm:qB kk key=true:=e2;rcases bC vm with⟨i,t,rfl,rfl⟩|⟨y,t,rfl,rfl⟩
     ·exact⟨t,rfl⟩
     ·exact⟨t,rfl⟩
    ·have:=congrArg List.length g3;simp at this;omega
   have I1:Inv X pins σ (oZ H ps) { s with heap:=h',toks:=tk }:=I.laidT kp ay λq hq=>by
    obtain⟨j,hj⟩:=List.mem_iff_getElem?.mp hq;have ha:as[j]?=some q.1:=by
     have:=congrArg (λl=>l[j]?) r9;simp[hj]at this;exact this.symm
    obtain⟨ks,us,_,e2,e3,e4,e5⟩:=each j q.1 ha;rw[hj]at e2;have eq2:q.2=ks.map kV:=by
     have:=zy e2;rw[this]
    refine⟨?_,us,by rw[eq2];exact e3,e4⟩;rw[eq2,za,Pj];omega
   refine⟨oZ H ps,as.map V.ref,I1,?_,?_,fin _ (CW I ay)⟩
   ·have:∀l:List Addr,aJ (l.map V.ref) (l.map Pf):=λl=>by
     induction l with
     |nil=>exact .nil
     |cons a l ih=>exact .cons rfl ih
    exact this as
   ·have gen:∀(l:List Addr)(ls:List (List Key)),l.length=ls.length->(∀(j:Nat) a ks,l[j]?=some a->ls[j]?=some ks->oZ H ps a=some (.tup (ks.map kV)))->cP X.K (oZ H ps) (ls.map tD) (l.map V.ref):=by
     intro l
     induction l with
     |nil=>
      intro ls hl _;cases ls with
      |nil=>exact trivial
      |cons _ _=>cases hl
     |cons a l ih=>
      intro ls hl hh;cases ls with
      |nil=>cases hl
      |cons ks ls=>
       refine⟨⟨a,_,rfl,SqT.of (hh 0 a ks rfl rfl),vG ks⟩,ih ls (by simpa using hl) λj a' cv h1 h2=>hh (j+1) a' cv (by simpa using h1) (by simpa using h2)⟩
    refine gen as kss (by omega) λj a ks h1 h2=>?_;obtain⟨cv,us,e1,e2,_⟩:=each j a h1;rw[h2]at e1;cases e1
    exact zZ nd e2
open PySem PySem.Spec PyProof.Rows
variable{dc:Addr}{ep:Nat}{oc:Obj}{it:Addr}
section
variable{v:Addr}{es:Array Ra}
theorem CY(hv:s.heap.IsValuesView v dc)(h1:s.heap.get? dc=some oc)(h2:oc.data=.dict es ep)(q:Q (.ref s.heap.objs.size) { s with heap:=s.heap.push { cls:=.type "dict_valueiterator",data:=.fields #[.ref dc,.int 0 0,.int es.size 0,.int ep 0] } }):wpAny (model prog w) A (pyIter (.ref v)) Q E s:=by
 obtain⟨ov,g1,g2,g3⟩:=id hv;refine wpAny_pyIter_slot hv.typeIs F.slot_dict_values_iter (Pg F.slot_dict_values_iter hv.typeIs F.entry_dict_values_iter (show wpAny _ _ (Builtin.«dict_values.__iter__» _) _ _ _ from ?_) (F.args_dict_values_iter_1 _))
 unfold Builtin.«dict_values.__iter__»;refine yw (yy (yw ?_));unfold Builtin.Dict_items.dictOf;refine yw (RN g1 g3 (x:=.ref dc) rfl (yy (yw ?_)));unfold Builtin.Dict_items.newIterator;refine yw (PN h1 h2 (yw (PZ h1 h2 ?_)));rw[show Pi "dict_valueiterator" = false by decide];simp only[Pb,if_false];refine Pc (yy ⟨_,rfl,"dict_valueiterator",_,⟨_,zj _ rfl,rfl⟩,PQ.lookup,(by simpa[rawInt] using q)⟩)
theorem Ei{Q:Option Value->Shared->Prop}(hI:s.heap.IsValIter it dc i es.size ep)(h1:s.heap.get? dc=some oc)(h2:oc.data=.dict es ep)(aw:i<es.size)(q:∀h',h'.IsValIter it dc (i+1) es.size ep->QI it s.heap h'->Q (some es[i].val) { s with heap:=h' }):wpAny (model prog w) A (pyNext (.ref it)) Q E s:=by
 obtain⟨oi,g1,g2,g3⟩:=id hI;unfold pyNext;refine yw (Rx (Px (name:=zg "__next__") hI.typeIs PQ (Pg PQ hI.typeIs F.entry_dict_valueiterator_next ?_ (F.args_dict_valueiterator_next_1 _))));refine yw (yy (yw (yw ?_)))
 first|refine yw (Qw hI.typeIs (yy ?_))|refine yw (QZ hI.typeIs (yy ?_))
 refine yw (RF g1 g3 ?_);rw[show Pi "dict_valueiterator" = false by decide];simp only[Pb,if_false]
 show wpAny _ _ (if(Pf dc == zm)=true then _ else _) _ _ s
 rw[if_neg (show ¬ ((Pf dc == zm)=true) from zi)]
 refine yw (yy (yw (PN h1 h2 ?_)));rw[if_neg (show ¬ _ by simp)];refine yw (yy (yw (PZ h1 h2 ?_)));rw[if_neg (show ¬ _ by simp)];refine yy ?_;simp only[show ¬ ((i:Int)<0) by omega,if_false,Q1,Qp aw];refine yw ?_
 first|refine yw (Qw hI.typeIs (yy ?_))|refine yw (QZ hI.typeIs (yy ?_))
 refine yw (wpAny_isOneOf_valiter hI.typeIs (show wpAny _ _ (setField (.ref it) 1 (rawInt ((i:Int)+1)) >>= _) _ _ s from yw (Rf g1 g3 (by simp) ?_)))
 have il:(s.heap.update it (Qy (·.setIfInBounds 1 (rawInt ((i:Int)+1))))).IsValIter it dc (i+1) es.size ep:=
  ⟨_,QK _ g1 (Rr (QO g3 _)),(Obj.cls_mapFields ..).trans g2,by rw[QO g3];simp[rawInt]⟩
 have jv:({ s with heap:=s.heap.update it (Qy (·.setIfInBounds 1 (rawInt ((i:Int)+1)))) }:Shared).TypeIs (.ref it) "dict_valueiterator" := il.typeIs;refine yw (PF (yw (wpAny_isOneOf_valiter jv (yw (wpAny_isOneOf_valiter jv ?_)))))
 show wpAny _ _ (pure es[i].val) _ _ _
 exact yy (yy ⟨_,rfl,yy (q _ il (Pk ..))⟩)
theorem Ej{Q:Option Value->Shared->Prop}(hh:A.handled=none)(hI:s.heap.IsValIter it dc i es.size ep)(h1:s.heap.get? dc=some oc)(h2:oc.data=.dict es ep)(iu:es.size<=i)(q:∀h',Heap.ExtBut it s.heap h'->Q none { s with heap:=h' }):wpAny (model prog w) A (pyNext (.ref it)) Q E s:=by
 obtain⟨oi,g1,g2,g3⟩:=id hI;unfold pyNext;refine yw (Rx (Px (name:=zg "__next__") hI.typeIs PQ (Pg PQ hI.typeIs F.entry_dict_valueiterator_next ?_ (F.args_dict_valueiterator_next_1 _))));refine yw (yy (yw (yw ?_)))
 first|refine yw (Qw hI.typeIs (yy ?_))|refine yw (QZ hI.typeIs (yy ?_))
 refine yw (RF g1 g3 ?_);rw[show Pi "dict_valueiterator" = false by decide];simp only[Pb,if_false]
 show wpAny _ _ (if(Pf dc == zm)=true then _ else _) _ _ s
 rw[if_neg (show ¬ ((Pf dc == zm)=true) from zi)]
 refine yw (yy (yw (PN h1 h2 ?_)));rw[if_neg (show ¬ _ by simp)];refine yw (yy (yw (PZ h1 h2 ?_)));rw[if_neg (show ¬ _ by simp)];refine yy ?_;simp only[show ¬ ((i:Int)<0) by omega,if_false,Q1,Qh iu];refine yw ?_
 first|refine yw (Qw hI.typeIs (yy ?_))|refine yw (QZ hI.typeIs (yy ?_))
 refine(show wpAny _ _ (setField (.ref it) 0 .none >>= _) _ _ s from yw (Rf g1 g3 (by simp) ?_))
 refine(show wpAny _ _ (newExc (.type "StopIteration") [] >>= _) _ _ _ from yw ?_);simp only[newExc,newTuple]
 refine yw (Pc (yw (m:=RG _ _) (wpAny_of_eq (a:=zm) (by first|rfl|(simp only[RG];rfl)) (Pc ?_ (by size_fits)))) (by size_fits))
 simp only[raiseNew];refine yw (wpAny_handled ?_);rw[show A.in1.handled=none from hh]
 refine yw (yy (wpAny_throw ?_));refine yw (wpAny_isInstance (T:="StopIteration") (b:=true) ⟨_,zj _ rfl,rfl⟩ isSubtype_stop ?_);exact yy (q _ (((Pk ..).extBut.push _).push _))
theorem B3(hh:A.handled=none)(I dc:Addr)(qf:dc≠I)(oc:Obj)(es:Array Ra)(ep:Nat)(h2:oc.data=.dict es ep):
  Walks prog w A I [I,dc] [I] es.size (λi v=>∃e,es[i]?=some e/\v=e.val) (λi h=>h.IsValIter I dc i es.size ep/\h.get? dc=some oc) where
 sub:=λb hb=>by rw[OY.mp hb];exact zd
 frame:=λ_ _ _ st hk=>⟨let ⟨o,e,r⟩:=st.1;⟨o,hk I zd o e,r⟩,hk dc (zc _ zd) _ st.2⟩
 item:=λi s Q E hi st hQ=>Ei st.1 st.2 h2 hi λh' qb dj=>hQ _ h' s.toks ⟨es[i],by simp[hi],rfl⟩ ⟨qb,(dj.2 dc qf).trans st.2⟩ λb o hb e=>(dj.2 b λz=>hb (by rw[z];exact zd)).trans e
 done:=λs Q E st hQ=>Ej hh st.1 st.2 h2 (zb _) λh' gj=>hQ h' s.toks λb o hb e=>gj b o (λz=>hb (by rw[z];exact zd)) e
 self:=λ_ _ _ _ st hQ=>wpAny_pyIter_valiter st.1 hQ
theorem Ek{r:Addr}(h2:oc.data=.dict es ep):PySem.W.KdlSrc prog w "dict_values" r dc es.size (λi v=>∃e,es[i]?=some e/\v=e.val) (λh=>h.IsValuesView r dc/\h.get? dc=some oc) where
 type:=λ_ hm=>hm.1.typeIs
 there:=λ_ hm=>⟨let ⟨_,ho,_⟩:=hm.1;zl ho,zl hm.2⟩
 keep:=λ_ _ hm hk=>⟨let ⟨o,ho,x⟩:=hm.1;⟨o,hk r (.inl rfl) o ho,x⟩,hk dc (.inr rfl) _ hm.2⟩
 notList:=by decide
 notTuple:=by decide
 hint:=λ_ _ _ _ hm hq=>PySem.W.kdl_hint_values hm.1.typeIs hq
 iter:=λ_ _ hh hm=>⟨_,_,(λ_ _ hq=>CY hm.1 hm.2 h2 hq),B3 hh _ dc (z7 (zl hm.2)) oc es ep h2,⟨⟨_,zj _ rfl,rfl,rfl⟩,y0 _ hm.2⟩⟩
theorem xI(dc:Addr)(hd:(dc == PR)=false):MeetsIn prog w (Builtin.«dict.values» ⟨[.ref dc],[]⟩) (λ_ R s=>s.TypeIs (.ref dc) "dict" /\
   R (.ok (.ret (.ref s.heap.objs.size))) { s with heap:=s.heap.push { cls:=.type "dict_values",data:=.fields #[.ref dc] } }):=
 .of_wp λA R s ⟨hT,h⟩=>by
  refine yw ?_;unfold Builtin.Dict.noArgs;refine yw (wpAny_notOrdered_dict hT (show wpAny _ _ (pure dc) _ _ s from yy (show wpAny _ _ (Qs dc >>= _) _ _ s from ?_)))
  unfold Qs;rw[if_neg (show ¬ _ from by rw[hd];decide)]
  refine yw (yy (yw (Pc (yy ⟨_,rfl,h⟩))))
end
variable{ov:Value}
theorem gG{ok:Value}(hI:IsItemIter s.heap it dc i n ep ok ov):s.TypeIs (.ref it) "dict_itemiterator" := ⟨_,hI,rfl⟩
theorem B4{v:Addr}{es:Array Ra}(hv:s.heap.IsItemsView v dc)(h1:s.heap.get? dc=some oc)(h2:oc.data=.dict es ep)(q:Q (.ref s.heap.objs.size) { s with heap:=s.heap.push { cls:=.type "dict_itemiterator",data:=.fields #[.none,.bool false,.ref dc,.int 0 0,.int es.size 0,.int ep 0,.none,.none] } }):wpAny (model prog w) A (pyIter (.ref v)) Q E s:=by
 obtain⟨ov,g1,g2,g3⟩:=id hv;refine wpAny_pyIter_slot hv.typeIs F.slot_dict_items_iter (Pg F.slot_dict_items_iter hv.typeIs F.entry_dict_items_iter (show wpAny _ _ (Builtin.«dict_items.__iter__» _) _ _ _ from ?_) (F.args_dict_items_iter_1 _))
 unfold Builtin.«dict_items.__iter__»;refine yw (yy (yw ?_));unfold Builtin.Dict_items.dictOf;refine yw (RN g1 g3 (x:=.ref dc) rfl (yy (yw ?_)));unfold Builtin.Dict_items.newIterator;refine yw (PN h1 h2 (yw (PZ h1 h2 ?_)));rw[show Pi "dict_itemiterator" = true by decide];simp only[if_true,Builtin.Dict_items.ownedTupleFields,List.cons_append,List.nil_append,Pb,if_false];refine Pc (yy ⟨_,rfl,"dict_itemiterator",_,⟨_,zj _ rfl,rfl⟩,PB.lookup,(by simpa[rawInt] using q)⟩)
theorem next_item{es:Array Ra}{ok:Value}{Q:Option Value->Shared->Prop}(hI:IsItemIter s.heap it dc i es.size ep ok ov)(h1:s.heap.get? dc=some oc)(h2:oc.data=.dict es ep)(aw:i<es.size)(q:∀h',IsItemIterOut h' it dc (i+1) es.size ep es[i].key es[i].val s.heap.objs.size->h'.get? s.heap.objs.size=some { cls:=.type "tuple",data:=.seq #[es[i].key,es[i].val] }->
   (∀(b:Addr)(o:Obj),b≠it->s.heap.get? b=some o->h'.get? b=some o)->Q (some (.ref s.heap.objs.size)) { s with heap:=h' }):wpAny (model prog w) A (pyNext (.ref it)) Q E s:=by
 have hT:=gG hI;unfold pyNext;refine yw (Rx (Px (name:=zg "__next__") hT PB (Pg PB hT F.entry_dict_itemiterator_next ?_ (F.args_dict_itemiterator_next_1 _))));refine yw (yy (yw (yw ?_)))
 first|refine yw (Qt hT (yy ?_))|refine yw (QS hT (yy ?_))
 refine yw (RF hI rfl ?_);rw[show Pi "dict_itemiterator" = true by decide];simp only[if_true]
 show wpAny _ _ (if(Pf dc == zm)=true then _ else _) _ _ s
 rw[if_neg (show ¬ ((Pf dc == zm)=true) from zi)]
 refine yw (yy (yw (PN h1 h2 ?_)));rw[if_neg (show ¬ _ by simp)];refine yw (yy (yw (PZ h1 h2 ?_)));rw[if_neg (show ¬ _ by simp)];refine yy ?_;simp only[show ¬ ((i:Int)<0) by omega,if_false,Q1,Qp aw];refine yw ?_
 first|refine yw (Qt hT (yy ?_))|refine yw (QS hT (yy ?_))
 refine yw (wpAny_isOneOf_itemiter hT (show wpAny _ _ (setField (.ref it) 3 (rawInt ((i:Int)+1)) >>= _) _ _ s from yw (Rf hI rfl (by simp) ?_)))
 have il:IsItemIter (s.heap.update it (Qy (·.setIfInBounds 3 (rawInt ((i:Int)+1))))) it dc (i+1) es.size ep ok ov:=by
  show(s.heap.update it _).get? it=_
  rw[QK _ hI (Rr (QO rfl _))];simp[Qy,rawInt]
 have kp:∀(b:Addr)(o:Obj),b≠it->s.heap.get? b=some o->(s.heap.update it (Qy (·.setIfInBounds 3 (rawInt ((i:Int)+1))))).get? b=some o:=λb o hb e=>by
  rw[(Pk ..).2 b hb];exact e
 have sz:(s.heap.update it (Qy (·.setIfInBounds 3 (rawInt ((i:Int)+1))))).objs.size=s.heap.objs.size:=(Pk ..).1;generalize s.heap.update it (Qy (·.setIfInBounds 3 (rawInt ((i:Int)+1))))=hA at il kp sz;have jv:({ s with heap:=hA }:Shared).TypeIs (.ref it) "dict_itemiterator" := gG il;refine yw (PF (yw (wpAny_isOneOf_itemiter jv (yw (wpAny_isOneOf_itemiter jv ?_)))))
 show wpAny _ _ (Builtin.Dict_items.pairFromOwner (.ref it) 6 es[i].key es[i].val) _ _ _
 unfold Builtin.Dict_items.pairFromOwner;simp only[newTuple];refine yw (Pc ?_ (by size_fits));have lz:IsItemIter (hA.push { cls:=.type "tuple",data:=.seq #[es[i].key,es[i].val] }) it dc (i+1) es.size ep ok ov:=y0 _ il;have gt:(hA.push { cls:=.type "tuple",data:=.seq #[es[i].key,es[i].val] }).get? hA.objs.size=some { cls:=.type "tuple",data:=.seq #[es[i].key,es[i].val] }:=zj _ rfl;have va:∀(b:Addr)(o:Obj),b≠it->s.heap.get? b=some o->(hA.push { cls:=.type "tuple",data:=.seq #[es[i].key,es[i].val] }).get? b=some o:=λb o hb e=>y0 _ (kp b o hb e);rw[sz]at gt;have ne:s.heap.objs.size≠it:=RQ (zl hI)
 show wpAny _ _ _ _ _ { s with heap:=hA.push { cls:=.type "tuple",data:=.seq #[es[i].key,es[i].val] } }
 generalize hA.push { cls:=.type "tuple",data:=.seq #[es[i].key,es[i].val] }=hB at lz gt va;have eA:(Pf ({ s with heap:=hA }:Shared).heap.objs.size)=.ref s.heap.objs.size:=by rw[<-sz]
 simp only[eA];unfold Builtin.Dict_items.ownedTupleIsFree;refine yw (yw (RN (s:={ s with heap:=hB }) lz rfl (x:=.none) rfl (yy ?_)));simp only[if_true];refine yw (RN (s:={ s with heap:=hB }) lz rfl (x:=ok) rfl (yw (RN (s:={ s with heap:=hB }) lz rfl (x:=ov) rfl ?_)));have om:∀{h1:Heap}{fs:Array Value}{j:Nat}{x:Value}{α:Type}{f:Unit->Sem α}{R:α->Shared->Prop}{E':Value->Shared->Prop},h1.get? it=some { cls:=.type "dict_itemiterator",data:=.fields fs }->j<fs.size->
   (∀h2:Heap,h2.get? it=some { cls:=.type "dict_itemiterator",data:=.fields (fs.setIfInBounds j x) }->(∀(b:Addr),b≠it->h2.get? b=h1.get? b)->wpAny (model prog w) A.in1 (f ()) R E' { s with heap:=h2 })->
   wpAny (model prog w) A.in1 (setField (.ref it) j x >>= f) R E' { s with heap:=h1 }:=λ{h1 fs j x α f R E'} g hj k=>by
  refine yw (Rf (s:={ s with heap:=h1 }) g rfl hj ?_);refine k _ ?_ λb hb=>(Pk ..).2 b hb;rw[QK _ g (Rr (QO rfl _))];simp[Qy]
 refine om lz (by simp) λh3 g3 s3=>?_;refine om g3 (by simp) λh4 g4 s4=>?_;refine om g4 (by simp) λh5 g5 s5=>?_;refine om g5 (by simp) λh6 g6 s6=>?_;refine yw (wpAny_letGo (yy (yy ⟨_,rfl,yy (q h6 (by rw[<-sz];show h6.get? it=_;rw[g6];simp) ?_ λb o hb e=>?_)⟩)))
 ·rw[s6 _ ne,s5 _ ne,s4 _ ne,s3 _ ne];exact gt
 ·rw[s6 _ hb,s5 _ hb,s4 _ hb,s3 _ hb];exact va b o hb e
theorem CZ{es:Array Ra}{ok:Value}{Q:Option Value->Shared->Prop}(hh:A.handled=none)(hI:IsItemIter s.heap it dc i es.size ep ok ov)(h1:s.heap.get? dc=some oc)(h2:oc.data=.dict es ep)(iu:es.size<=i)(q:∀h',Heap.ExtBut it s.heap h'->Q none { s with heap:=h' }):wpAny (model prog w) A (pyNext (.ref it)) Q E s:=by
 have hT:=gG hI;unfold pyNext;refine yw (Rx (Px (name:=zg "__next__") hT PB (Pg PB hT F.entry_dict_itemiterator_next ?_ (F.args_dict_itemiterator_next_1 _))));refine yw (yy (yw (yw ?_)))
 first|refine yw (Qt hT (yy ?_))|refine yw (QS hT (yy ?_))
 refine yw (RF hI rfl ?_);rw[show Pi "dict_itemiterator" = true by decide];simp only[if_true]
 show wpAny _ _ (if(Pf dc == zm)=true then _ else _) _ _ s
 rw[if_neg (show ¬ ((Pf dc == zm)=true) from zi)]
 refine yw (yy (yw (PN h1 h2 ?_)));rw[if_neg (show ¬ _ by simp)];refine yw (yy (yw (PZ h1 h2 ?_)));rw[if_neg (show ¬ _ by simp)];refine yy ?_;simp only[show ¬ ((i:Int)<0) by omega,if_false,Q1,Qh iu];refine yw ?_
 first|refine yw (Qt hT (yy ?_))|refine yw (QS hT (yy ?_))
 refine(show wpAny _ _ (setField (.ref it) 2 .none >>= _) _ _ s from yw (Rf hI rfl (by simp) ?_))
 refine(show wpAny _ _ (newExc (.type "StopIteration") [] >>= _) _ _ _ from yw ?_);simp only[newExc,newTuple]
 refine yw (Pc (yw (m:=RG _ _) (wpAny_of_eq (a:=zm) (by first|rfl|(simp only[RG];rfl)) (Pc ?_ (by size_fits)))) (by size_fits))
 simp only[raiseNew];refine yw (wpAny_handled ?_);rw[show A.in1.handled=none from hh]
 refine yw (yy (wpAny_throw ?_));refine yw (wpAny_isInstance (T:="StopIteration") (b:=true) ⟨_,zj _ rfl,rfl⟩ isSubtype_stop ?_);exact yy (q _ (((Pk ..).extBut.push _).push _))
theorem sG:entryFor table "dict_itemiterator.__iter__" = some Builtin.«dict_keyiterator.__iter__»:=entryFor_alias (id:="dict_itemiterator.__iter__") (id':="dict_keyiterator.__iter__") (by first|rfl|decide +kernel) (by first|rfl|decide +kernel) (by decide +kernel) (by rfl)
theorem B5{ok:Value}(hI:IsItemIter s.heap it dc i n ep ok ov)(q:Q (.ref it) s):wpAny (model prog w) A (pyIter (.ref it)) Q E s:=by
 have hT:=gG hI;refine wpAny_pyIter_slot hT F.slot_dict_itemiterator_iter (Pg F.slot_dict_itemiterator_iter hT sG (show wpAny _ _ (Builtin.«dict_keyiterator.__iter__» _) _ _ _ from ?_) (F.args_dict_itemiterator_iter_1 _))
 unfold Builtin.«dict_keyiterator.__iter__»;refine yw (yy ?_);exact yy ⟨_,rfl,"dict_itemiterator",_,hT,PB.lookup,q⟩
theorem A0(dc:Addr)(hd:(dc == PR)=false):MeetsIn prog w (Builtin.«dict.items» ⟨[.ref dc],[]⟩) (λ_ R s=>s.TypeIs (.ref dc) "dict" /\
   R (.ok (.ret (.ref s.heap.objs.size))) { s with heap:=s.heap.push { cls:=.type "dict_items",data:=.fields #[.ref dc] } }):=
 .of_wp λA R s ⟨hT,h⟩=>by
  refine yw ?_;unfold Builtin.Dict.noArgs;refine yw (wpAny_notOrdered_dict hT (show wpAny _ _ (pure dc) _ _ s from yy (show wpAny _ _ (Qs dc >>= _) _ _ s from ?_)))
  unfold Qs;rw[if_neg (show ¬ _ from by rw[hd];decide)]
  refine yw (yy (yw (Pc (yy ⟨_,rfl,h⟩))))
open PySem PySem.Spec PyProof.Rows PySem.SeqAt PySem.W
def cE(b:Bool)(n i:Nat):Nat:=if b then n-1-i else i
def A1(b:Bool)(n:Nat)(p:List Nat):List Nat:=katRev b (p.map (cE b n))
theorem jO{α:Type}(b:Bool){l:List α}{d:α}(hi:i<l.length):(katRev b l).getD i d=l.getD (cE b l.length i) d:=by
 cases b with
 |false=>rfl
 |true=>
  show l.reverse.getD i d=l.getD (l.length-1-i) d
  rw[Qf,Qf,List.getElem?_reverse hi]
theorem fQ(h:i<n):cE b n i<n:=by
 unfold cE;split <;> omega
theorem B6{p:List Nat}(h:p.Perm (Io n)):(A1 b n p).Perm (Io n):=by
 cases b with
 |false=>
  have e:A1 false n p=p:=by
   show p.map (λi=>cE false n i)=p
   have:(λi=>cE false n i)=id:=by funext i;rfl
   rw[this,List.map_id]
  rw[e];exact h
 |true=>
  have e:(Io n).map (cE true n)=(Io n).reverse:=by
   apply List.ext_getElem
   ·simp
   ·intro i h1 h2;simp[cE]
  show((p.map (cE true n)).reverse).Perm _
  refine(List.reverse_perm _).trans ((h.map _).trans ?_);rw[e];exact List.reverse_perm _
theorem B7{p:List Nat}{lt:Nat->Nat->Bool}(h:p.Pairwise (λi j=>lt (cE b n j) (cE b n i)=false)):(A1 b n p).Pairwise (λi j=>(if b then lt i j else lt j i)=false):=by
 have h1:(p.map (cE b n)).Pairwise (λi j=>lt j i=false):=Qm.mpr h;cases b with
 |false=>exact h1
 |true=>
  show((p.map (cE true n)).reverse).Pairwise _
  rw[List.pairwise_reverse];exact h1
theorem D0{vs:List Value}{p:List Nat}(h:∀i∈p,i<vs.length):katRev b (p.map λi=>(katRev b vs).getD i zm)=(A1 b vs.length p).map λi=>vs.getD i zm:=by
 have e:(p.map λi=>(katRev b vs).getD i zm)=(p.map (cE b vs.length)).map λi=>vs.getD i zm:=by
  rw[Pm];exact Ql λi hi=>jO b (h i hi)
 rw[e];unfold A1 katRev;split
 ·rw[List.map_reverse]
 ·rfl
theorem B8{α:Type}(b:Bool)(l:List α):katRev b (katRev b l)=l:=by
 unfold katRev;split <;> simp
theorem range_getD(vs:List Value):((Io vs.length).map λi=>vs.getD i zm)=vs:=by
 apply QA;intro i
 by_cases hi:i<vs.length
 ·simp[hi]
 ·simp[hi]
variable{e1:Nat}{kS:Addr}{out:List Value}
section
variable{vs ks:List Value}
theorem IG{st:SortSt}{e:Nat}{P:PySem.Fin->Shared->Prop}(gp:(arrOf st).map (·.2)=out.toArray)(hz:out.length<64)(hkz:ks.length<64)(hf:failedOf st=none)(ji:kS≠a)(gk:s.heap.get? kS=some (seqObj "list" ks.toArray e))(ga:s.heap.get? a=some (seqObj "list" #[] e1))(h:∀(h':Heap)(c:Nat),(∀x o,x≠a->x≠kS->s.heap.get? x=some o->h'.get? x=some o)->h'.get? a=some (seqObj "list" (katRev b out).toArray c)->(∃o,h'.get? kS=some o)->P (.done (.ret .none)) { s with heap:=h' }):
  wpAny (model prog w) A (ksk_tail a b e1 (.ref kS) st) P E s:=by
 have w1:=Pk s.heap kS (Pd λ_=>(#[]:Array Value));obtain⟨ck,hck⟩:∃ck,(s.heap.update kS (Pd λ_=>(#[]:Array Value))).get? kS=some (seqObj "list" #[] ck):=⟨_,Rq gk λ_=>#[]⟩;have rn:=(w1.2 a ji.symm).trans ga;have w2:=Pk (s.heap.update kS (Pd λ_=>(#[]:Array Value))) a (Pd λ_=>(katRev b out).toArray);obtain⟨c2,cz⟩:∃c2,((s.heap.update kS (Pd λ_=>(#[]:Array Value))).update a (Pd λ_=>(katRev b out).toArray)).get? a=some (seqObj "list" (katRev b out).toArray c2):=⟨_,Rq rn λ_=>(katRev b out).toArray⟩;have hsz:(katRev b out).toArray.size=out.length:=by rw[ze,kat_len]
 unfold ksk_tail
 try dsimp only
 rw[gp,kat_outs];refine yw (QN gk rfl ?_ (by rw[ze,Pj];omega) (zz _));refine yw (wpAny_letGo (yw (seqEpoch_at rn rfl ?_)));refine yw (QN rn rfl ?_ (zz _) (Ph (Nat.le_of_eq hsz) (by rw[Pj];omega)));rw[hf];simp only[bne_self_eq_false,Pb,if_false];exact yy (h _ c2 (λx o h1 h2 q=>(w2.2 x h1).trans ((w1.2 x h2).trans q)) cz ⟨_,(w2.2 kS ji).trans hck⟩)
theorem Oc{e:Nat}{P:PySem.Fin->Shared->Prop}(lt:Nat->Nat->Bool)(hl:ks.length=vs.length)(da:vs.length<64)(ji:kS≠a)(tr:∀i j k,i<vs.length->j<vs.length->k<vs.length->lt j i=false->lt k j=false->lt k i=false)(as:∀i j,i<vs.length->j<vs.length->lt i j=true->lt j i=false)(gk:s.heap.get? kS=some (seqObj "list" ks.toArray e))(ga:s.heap.get? a=some (seqObj "list" #[] e1))(hk:2<=vs.length->∀(Q:SortKind->Shared->Prop) E',Q κ s->wpAny (model prog w) A (keyKind' ks.toArray) Q E' s)(aw:∀i j,i<vs.length->j<vs.length->∀Q:Bool->Shared->Prop,Q (lt i j) s->wpAny (model prog w) A (keyLt' κ (ks.getD i zm) (ks.getD j zm)) Q (λ_ _=>False) s)(h:∀(p:List Nat)(h':Heap)(c:Nat),p.Perm (Io vs.length)->p.Pairwise (λi j=>(if b then lt i j else lt j i)=false)->(∀x o,x≠a->x≠kS->s.heap.get? x=some o->h'.get? x=some o)->
   h'.get? a=some (seqObj "list" (p.map λi=>vs.getD i zm).toArray c)->(∃o,h'.get? kS=some o)->P (.done (.ret .none)) { s with heap:=h' }):
  wpAny (model prog w) A (ksk_end a b vs.toArray e1 (.ref kS) ks.toArray) P E s:=by
 have skip:∀t:Sem PySem.Fin,wpAny (model prog w) A t P E s->wpAny (model prog w) A (if b=true then(do let _ <-rule "list.sort.reverse";t) else t) P E s:=λt ht=>by
  split
  ·exact yw (wpAny_rule ht)
  ·exact ht
 have rj:(katRev b ks).length=(katRev b vs).length:=by rw[kat_len,kat_len,hl]
 unfold ksk_end
 try dsimp only
 refine skip _ ?_
 rw[kat_pairs b hl]
 by_cases h2:vs.toArray.size<2
 ·rw[if_pos h2,if_pos h2]
  rw[ze]at h2
  refine yw (yy ?_)
  rw[StateT.run_pure]
  refine yw (yy ?_)
  try dsimp only
  refine IG (st:=SortSt.mk' general' ((katRev b ks).toArray.zip (katRev b vs).toArray) #[] 7 none) (out:=katRev b vs) (ks:=ks) ?_ (by rw[kat_len];exact da) (by omega) rfl ji gk ga λh' c k1 k2 k3=>?_
  ·show((katRev b ks).toArray.zip (katRev b vs).toArray).map (·.2)=(katRev b vs).toArray
   apply Array.toList_inj.mp
   rw[Array.toList_map,ksk_zip]
   show(List.zip _ _).map Prod.snd=_
   rw[List.map_snd_zip (by rw[rj];exact zb _)]
  ·rw[B8]at k2
   refine h (Io vs.length) h' c (List.Perm.refl _) ?_ k1 (by rw[range_getD];exact k2) k3
   rw[List.pairwise_iff_getElem]
   intro i j hi hj bp
   simp only[QY]at hi hj
   omega
 ·rw[if_neg h2,if_neg h2]
  rw[ze]at h2
  refine yw (hk (by omega) _ _ ?_)
  have qd:(kas_sort (katRev b vs).length).kasWp (kas_ask prog w A κ (katRev b ks)) (λp cq=>p=evT (λi j=>lt (cE b vs.length i) (cE b vs.length j)) (kas_sort vs.length)/\cq=s) s:=by
   rw[kat_len]
   refine sD (n:=vs.length) (lt:=λi j=>lt (cE b vs.length i) (cE b vs.length j)) (λi j C hi hj hC=>?_) (sC (by omega)) ⟨rfl,rfl⟩
   show wpAny (model prog w) A (keyLt' κ ((katRev b ks).getD i zm) ((katRev b ks).getD j zm)) C (λ_ _=>False) s
   rw[jO b (by omega),jO b (by omega),hl]
   exact aw _ _ (fQ hi) (fQ hj) C hC
  refine yw (Qu (kat_run (ks:=katRev b ks) (vs:=katRev b vs) (E:=E) (Q:=λbh s'=>s'=s/\arrOf bh=(evT (λi j=>lt (cE b vs.length i) (cE b vs.length j)) (kas_sort vs.length)).map (kas_item ((katRev b ks).toArray.zip (katRev b vs).toArray))/\failedOf bh=none)
   rj (by rw[kat_len];omega) (by rw[kat_len];exact da) (λp bh s' _ a2 a3 a4=>⟨a4.2,by rw[a2,a4.1],a3⟩) qd) ?_ λ_ _ x=>x)
  rintro⟨⟨⟩,bh⟩ s' ⟨rfl,har,hf⟩
  try dsimp only
  obtain⟨c1,c2⟩:=zX (n:=vs.length) (lt:=λi j=>lt (cE b vs.length i) (cE b vs.length j)) (λi j k hi hj hk=>tr _ _ _ (fQ hi) (fQ hj) (fQ hk)) (λi j hi hj=>as _ _ (fQ hi) (fQ hj)) (by omega)
  have bj:∀i∈(evT (λi j=>lt (cE b vs.length i) (cE b vs.length j)) (kas_sort vs.length)).toList,i<vs.length:=λi hi=>by simpa using c1.mem_iff.mp hi
  refine IG (ks:=ks) (kat_snds rj har) (by rw[za,c1.length_eq,QY];exact da) (by omega) hf ji gk ga λh' c k1 k2 k3=>?_
  rw[D0 bj]at k2
  exact h _ h' c (B6 c1) (B7 c2) k1 k2 k3
theorem B9{f:Value}{P:PySem.Fin->Shared->Prop}(ho:s.heap.get? a=some (seqObj "list" vs.toArray n))(da:vs.length<64)(J:Addr->Nat->List Value->Nat->Shared->Prop)(h0:∀(kS e1:Nat)(h':Heap),(∀x o,x≠a->s.heap.get? x=some o->h'.get? x=some o)->s.heap.objs.size<=kS->h'.get? a=some (seqObj "list" #[] e1)->h'.get? kS=some (seqObj "list" #[] 0)->J kS e1 [] 0 { s with heap:=h' })(df:∀kS e1 ks e s',J kS e1 ks e s'->kS≠a/\s'.heap.get? a=some (seqObj "list" #[] e1)/\s'.heap.get? kS=some (seqObj "list" ks.toArray e))(turn:∀kS e1 ks e s' x,vs[ks.length]?=some x->J kS e1 ks e s'->wpAny (model prog w) A (call f [x]) (λv cq=>cq.heap.get? kS=some (seqObj "list" ks.toArray e)/\∀(h':Heap) e',QI kS cq.heap h'->h'.get? kS=some (seqObj "list" (ks++[v]).toArray e')->J kS e1 (ks++[v]) e' { cq with heap:=h' }) (λ_ _=>False) s')(fin:∀kS e1 ks e s',ks.length=vs.length->J kS e1 ks e s'->∃lt:Nat->Nat->Bool,(∀i j k,i<vs.length->j<vs.length->k<vs.length->lt j i=false->lt k j=false->lt k i=false)/\(∀i j,i<vs.length->j<vs.length->lt i j=true->lt j i=false)/\
   (2<=vs.length->∀(Q:SortKind->Shared->Prop) E',Q κ s'->wpAny (model prog w) A (keyKind' ks.toArray) Q E' s')/\
   (∀i j,i<vs.length->j<vs.length->∀Q:Bool->Shared->Prop,Q (lt i j) s'->wpAny (model prog w) A (keyLt' κ (ks.getD i zm) (ks.getD j zm)) Q (λ_ _=>False) s')/\
   ∀(p:List Nat)(h':Heap)(c:Nat),p.Perm (Io vs.length)->p.Pairwise (λi j=>(if b then lt i j else lt j i)=false)->(∀x o,x≠a->x≠kS->s'.heap.get? x=some o->h'.get? x=some o)->
   h'.get? a=some (seqObj "list" (p.map λi=>vs.getD i zm).toArray c)->(∃o,h'.get? kS=some o)->P (.done (.ret .none)) { s' with heap:=h' }):
  wpAny (model prog w) A (ksk_tree a f b) P E s:=by
 have ha:a<s.heap.objs.size:=zl ho;have w1:=Pk s.heap a (Pd λ_=>(#[]:Array Value));obtain⟨e1,c9⟩:∃e1,(s.heap.update a (Pd λ_=>(#[]:Array Value))).get? a=some (seqObj "list" #[] e1):=⟨_,Rq ho λ_=>#[]⟩;unfold ksk_tree;refine yw (listItems_at ho rfl (yw (QN ho rfl ?_ (by rw[ze,Pj];omega) (zz _))));refine yw (seqEpoch_at c9 rfl (yw (wpAny_newTuple ?_ (by show vs.length<=_;rw[Pj];omega))));refine yw (wpAny_newList (PF ?_) (zz _));have xf:((s.heap.update a (Pd λ_=>(#[]:Array Value))).push (seqObj "tuple" vs.toArray 0)).objs.size=s.heap.objs.size+1:=by rw[size_push',RK]
 have J0:=h0 ((s.heap.update a (Pd λ_=>(#[]:Array Value))).push (seqObj "tuple" vs.toArray 0)).objs.size e1 (((s.heap.update a (Pd λ_=>(#[]:Array Value))).push (seqObj "tuple" vs.toArray 0)).push (seqObj "list" #[] 0))
  (λx o hx q=>y0 _ (y0 _ ((w1.2 x hx).trans q))) (by rw[xf];exact Qv _) (y0 _ (y0 _ c9)) (zj _ rfl)
 show wpAny (model prog w) A (ksk_rest a f b vs.toArray e1 (.ref ((s.heap.update a (Pd λ_=>(#[]:Array Value))).push (seqObj "tuple" vs.toArray 0)).objs.size)) P E { s with heap:=((s.heap.update a (Pd λ_=>(#[]:Array Value))).push (seqObj "tuple" vs.toArray 0)).push (seqObj "list" #[] 0) }
 generalize ((s.heap.update a (Pd λ_=>(#[]:Array Value))).push (seqObj "tuple" vs.toArray 0)).objs.size=kS at J0
 revert J0
 generalize ({ s with heap:=((s.heap.update a (Pd λ_=>(#[]:Array Value))).push (seqObj "tuple" vs.toArray 0)).push (seqObj "list" #[] 0) }:Shared)=s0;intro J0;unfold ksk_rest;refine yw (wpAny_rule ?_)
 first
  |rw[List.forIn_toArray]
  |(rw[<-Array.forIn_toList];simp only[List.toList_toArray])
 refine yw (ksk_fold (λi s'=>∃ks e,ks.length=i/\J kS e1 ks e s') vs 0 s0 ⟨[],0,rfl,J0⟩ ?step ?done)
 case step=>
  rintro j x s' hx ⟨ks,e,hl,hJ⟩;have hj:j<vs.length:=(yx.mp hx).1;have i8:ks.length=j:=by omega
  refine yw (Rx (Qu (turn kS e1 ks e s' x (by rw[i8];exact hx) hJ) (λv cq q=>?_) λ_ _ z=>z.elim));obtain⟨gk,vx⟩:=q
  try dsimp only
  have w2:=Pk cq.heap kS (Pd (·.push v));obtain⟨c2,cz⟩:∃c2,(cq.heap.update kS (Pd (·.push v))).get? kS=some (seqObj "list" (ks.toArray.push v) c2):=⟨_,Rq gk (·.push v)⟩;refine yw (QN gk rfl ?_ (by rw[ze,Pj];omega) (Ph (Nat.le_of_eq (Array.size_push ..)) (by rw[ze,Pj];omega)));refine yy ⟨rfl,ks++[v],c2,by simp;omega,vx _ c2 w2 ?_⟩;rw[cz];simp
 case done=>
  rintro s' ⟨ks,e,hl,hJ⟩;have i8:ks.length=vs.length:=by omega
  obtain⟨ji,ga,gk⟩:=df kS e1 ks e s' hJ;obtain⟨lt,tr,as,hk,aw,h⟩:=fin kS e1 ks e s' i8 hJ
  try dsimp only
  refine yw (listItems_at gk rfl ?_);exact Oc (κ:=κ) lt i8 da ji tr as gk ga hk aw h
end
open PySem PySem.Spec PyProof.Rows PySem.SeqAt
inductive PV where
 |non|bl (b:Bool)|int (i:Int)|str (x:Str)|tup (xs:List PV)|ref (n:Nat)|ty (n:String)|fl (xs:List PV)
mutual
def PV.beq:PV->PV->Bool
 |.non,.non=>true
 |.bl a,.bl b=>a == b
 |.int a,.int b=>a == b
 |.str a,.str b=>a == b
 |.tup a,.tup b=>PV.beqs a b
 |.ref a,.ref b=>a == b
 |.ty a,.ty b=>a == b
 |.fl a,.fl b=>PV.beqs a b
 |_,_=>false
def PV.beqs:List PV->List PV->Bool
 |[],[]=>true
 |x::xs,y::ys=>PV.beq x y&&PV.beqs xs ys
 |_,_=>false
end
mutual
theorem PV.beq_self:∀x:PV,PV.beq x x=true
 |.non=>rfl
 |.bl a=>by simp[PV.beq]
 |.int a=>by simp[PV.beq]
 |.str a=>by simp[PV.beq]
 |.tup a=>by simp only[PV.beq];exact PV.beqs_self a
 |.ref a=>by simp[PV.beq]
 |.ty a=>by simp[PV.beq]
 |.fl a=>by simp only[PV.beq];exact PV.beqs_self a
theorem PV.beqs_self:∀x:List PV,PV.beqs x x=true
 |[]=>rfl
 |x::xs=>by simp only[PV.beqs,PV.beq_self x,PV.beqs_self xs,Bool.and_self]
end
mutual
theorem PV.beq_eq:∀{x y:PV},PV.beq x y=true->x=y
 |.non,y,h=>by cases y <;> first|rfl|(simp[PV.beq]at h)
 |.bl a,y,h=>by cases y <;> first|(simp[PV.beq]at h;rw[h])|(simp[PV.beq]at h)
 |.int a,y,h=>by cases y <;> first|(simp[PV.beq]at h;rw[h])|(simp[PV.beq]at h)
 |.str a,y,h=>by cases y <;> first|(simp[PV.beq]at h;rw[h])|(simp[PV.beq]at h)
 |.tup a,y,h=>by
  cases y with
  |tup b=>simp only[PV.beq]at h;rw[PV.beqs_eq h]
  |_=>simp[PV.beq]at h
 |.ref a,y,h=>by cases y <;> first|(simp[PV.beq]at h;rw[h])|(simp[PV.beq]at h)
 |.ty a,y,h=>by cases y <;> first|(simp[PV.beq]at h;rw[h])|(simp[PV.beq]at h)
 |.fl a,y,h=>by
  cases y with
  |fl b=>simp only[PV.beq]at h;rw[PV.beqs_eq h]
  |_=>simp[PV.beq]at h
theorem PV.beqs_eq:∀{x y:List PV},PV.beqs x y=true->x=y
 |[],y,h=>by cases y <;> first|rfl|(simp[PV.beqs]at h)
 |x::xs,y,h=>by
  cases y with
  |nil=>simp[PV.beqs]at h
  |cons y ys=>
   simp only[PV.beqs,z0]at h;rw[PV.beq_eq h.1,PV.beqs_eq h.2]
end
instance:DecidableEq PV:=λx y=>match h:PV.beq x y with
 |true=>isTrue (PV.beq_eq h)
 |false=>isFalse λe=>by rw[e,PV.beq_self]at h;cases h
def PV.ky:Nat->PV->Bool
 |_,.int _=>true
 |_,.str _=>true
 |n+1,.tup xs=>xs.all (PV.ky n)
 |_,_=>false
section
variable(w:World)
mutual
def hsh:PV->Int
 |.int i=>IW w (.inl i)
 |.str x=>IW w (.inr x)
 |.tup xs=>reduceHash (PD (qU xs))
 |_=>0
def qU:List PV->List Int
 |[]=>[]
 |x::xs=>hsh x::qU xs
end
end
mutual
def drw:PV->Nat
 |.tup xs=>A2 xs+1
 |_=>1
def A2:List PV->Nat
 |[]=>0
 |x::xs=>drw x+A2 xs
end
mutual
/-- the raw value is the key -/
def HR(h:Heap):PV->Value->Prop
 |.int i,v=>∃t,v=.int i t
 |.str x,v=>∃t,v=.str x t
 |.tup ps,v=>∃a its,v=.ref a/\IsTup h a its.toArray/\HRs h ps its
 |_,_=>False
def HRs(h:Heap):List PV->List Value->Prop
 |[],[]=>True
 |p::ps,v::vs=>HR h p v/\HRs h ps vs
 |[],_::_=>False
 |_::_,[]=>False
end
theorem HRs.length{h:Heap}:∀{ps:List PV}{vs:List Value},HRs h ps vs->ps.length=vs.length
 |[],[],_=>rfl
 |_::_,_::_,r=>congrArg (·+1) (HRs.length r.2)
 |[],_::_,r=>r.elim
 |_::_,[],r=>r.elim
theorem HRs.at{h:Heap}:∀{ps:List PV}{vs:List Value}{j:Nat}{p:PV},HRs h ps vs->ps[j]?=some p->∃v,vs[j]?=some v/\HR h p v
 |[],[],_,_,_,e=>by simp at e
 |q::_,v::_,0,p,r,e=>by
  have:q=p:=by simpa using e
  subst this;exact⟨v,rfl,r.1⟩
 |_::ps,_::vs,j+1,p,r,e=>by
  obtain⟨v,h1,h2⟩:=HRs.at (ps:=ps) (vs:=vs) (j:=j) (p:=p) r.2 (by simpa using e)
  exact⟨v,by simpa using h1,h2⟩
 |[],_::_,_,_,r,_=>r.elim
 |_::_,[],_,_,r,_=>r.elim
theorem D3{h:Heap}{x y:Array Value}(p:IsTup h a x)(q:IsTup h a y):x=y:=by
 obtain⟨o,ho,_,n,hd⟩:=p;obtain⟨o',dr,_,n',gi⟩:=q;obtain rfl:o=o':=zy (ho.symm.trans dr);rw[hd]at gi;injection gi
mutual
theorem HR.one{h:Heap}:∀{p q:PV}{v:Value},HR h p v->HR h q v->p=q
 |.int i,q,v,r,r'=>by
  obtain⟨t,rfl⟩:=r;cases q with
  |int j=>obtain⟨t',e⟩:=r';injection e with e;rw[e]
  |str j=>obtain⟨t',e⟩:=r';cases e
  |tup j=>obtain⟨_,_,e,_⟩:=r';cases e
  |_=>exact r'.elim
 |.str i,q,v,r,r'=>by
  obtain⟨t,rfl⟩:=r;cases q with
  |int j=>obtain⟨t',e⟩:=r';cases e
  |str j=>obtain⟨t',e⟩:=r';injection e with e;rw[e]
  |tup j=>obtain⟨_,_,e,_⟩:=r';cases e
  |_=>exact r'.elim
 |.tup ps,q,v,r,r'=>by
  obtain⟨a,its,rfl,p,rs⟩:=r;cases q with
  |int j=>obtain⟨t',e⟩:=r';cases e
  |str j=>obtain⟨t',e⟩:=r';cases e
  |tup qs=>
   obtain⟨b,its',e,p',ou⟩:=r';cases e
   have:its=its':=by simpa using congrArg Array.toList (D3 p p')
   subst this;rw[HRs.one rs ou]
  |_=>exact r'.elim
 |.non,_,_,r,_=>r.elim
 |.bl _,_,_,r,_=>r.elim
 |.ref _,_,_,r,_=>r.elim
 |.ty _,_,_,r,_=>r.elim
 |.fl _,_,_,r,_=>r.elim
theorem HRs.one{h:Heap}:∀{ps qs:List PV}{vs:List Value},HRs h ps vs->HRs h qs vs->ps=qs
 |[],[],[],_,_=>rfl
 |p::ps,q::qs,v::vs,r,r'=>by rw[HR.one r.1 r'.1,HRs.one r.2 r'.2]
 |[],_::_,[],_,r=>r.elim
 |[],_,_::_,r,_=>r.elim
 |_::_,_,[],r,_=>r.elim
 |_::_,[],_::_,_,r=>r.elim
end
theorem B'{h:Heap}{d:Addr}{o:Obj}{es ep}{x:Array Value}(p:IsTup h a x)(ho:h.get? d=some o)(hd:o.data=.dict es ep)(hs:QI d h h'):IsTup h' a x:=by
 obtain⟨q,hq,hc,n,ix⟩:=p;have ne:a≠d:=by
  rintro rfl;obtain rfl:q=o:=zy (hq.symm.trans ho);rw[hd]at ix;cases ix
 exact⟨q,(hs.2 a ne).trans hq,hc,n,ix⟩
mutual
theorem HR.keep{h h':Heap}(k:∀a x,IsTup h a x->IsTup h' a x):∀{p:PV}{v:Value},HR h p v->HR h' p v
 |.int i,v,r=>r
 |.str i,v,r=>r
 |.tup ps,v,⟨a,its,e,p,rs⟩=>⟨a,its,e,k _ _ p,HRs.keep k rs⟩
 |.non,_,r=>r.elim
 |.bl _,_,r=>r.elim
 |.ref _,_,r=>r.elim
 |.ty _,_,r=>r.elim
 |.fl _,_,r=>r.elim
theorem HRs.keep{h h':Heap}(k:∀a x,IsTup h a x->IsTup h' a x):∀{ps:List PV}{vs:List Value},HRs h ps vs->HRs h' ps vs
 |[],[],_=>trivial
 |_::_,_::_,r=>⟨HR.keep k r.1,HRs.keep k r.2⟩
 |[],_::_,r=>r.elim
 |_::_,[],r=>r.elim
end
theorem El:∀(n:Nat){A:Around}{E:Value->Shared->Prop}{s:Shared}{p:PV}{v:Value}{Q:Int->Shared->Prop},p.ky n=true->A.units+n<cLine->HR s.heap p v->Q (hsh w p) { s with toks:=s.toks+drw p }->
  wpAny (model prog w) A (pyHash v) Q E s:=by
 intro n
 induction n with
 |zero=>
  intro A E s p v Q hk hu r h;cases p with
  |int i=>obtain⟨t,rfl⟩:=r;exact wpAny_pyHash_int h
  |str i=>obtain⟨t,rfl⟩:=r;exact wpAny_pyHash_str h
  |_=>cases hk
 |succ n ih=>
  intro A E s p v Q hk hu r h;cases p with
  |int i=>obtain⟨t,rfl⟩:=r;exact wpAny_pyHash_int h
  |str i=>obtain⟨t,rfl⟩:=r;exact wpAny_pyHash_str h
  |tup ps=>
   obtain⟨a,its,rfl,⟨o,ho,hc,m,hd⟩,rs⟩:=r;have jt:∀q∈ps,q.ky n=true:=zp.mp hk;have hT:s.TypeIs (.ref a) "tuple" := ⟨o,ho,hc⟩;unfold pyHash;unfold pyHashByItsType;refine yw (wpAny_cRoomFor_or (.inr (show A.units<cLine by omega)) (yw (Qr hT F.slot_tuple_hash.lookup ?_)))
   show wpAny _ _ (if((some (Value.builtin "tuple.__hash__"):Option Value) == some zm)=true then _ else _) Q E s
   rw[if_neg (show ¬ _ from by rw[beq_builtin_none];decide)]
   refine yw (Qr hT F.slot_tuple_hash.lookup (show wpAny _ _ (callSpecialIfBoundUnlessNone? (.ref a) "__hash__" _ >>= _) Q E s from ?_))
   refine yw (wpAny_callSpecialIfBoundUnlessNone?_slot hT F.slot_tuple_hash (Pg F.slot_tuple_hash hT F.entry_tuple_hash (show wpAny _ _ (Rz (.ref a) >>= _) _ _ s from ?_) (F.args_tuple_hash_1 _)))
   refine yw (wpAny_tupleItemsOf ho hd (yw ?_));rw[<-Array.forIn_toList];refine RM _ (λrest (b:Array Int) s'=>∃left,HRs s.heap left rest/\(∀q∈left,q.ky n=true)/\b.toList++qU w left=qU w ps/\s'.heap=s.heap/\s'={ s with toks:=s'.toks }/\s'.toks+A2 left=s.toks+A2 ps) _ ?turn ?stop _ _ ⟨ps,rs,jt,rfl,rfl,rfl,rfl⟩
   case turn=>
    rintro x rest b s' ⟨left,rl,kl,eb,eh,es,et⟩;cases left with
    |nil=>exact rl.elim
    |cons q left=>
     have r1:HR s'.heap q x:=by rw[eh];exact rl.1
     refine yw (ih (kl q zd) (show A.units+1+n<cLine by omega) r1 (yy ?_));refine⟨left,rl.2,λz hz=>kl z (zc _ hz),?_,eh,?_,?_⟩
     ·rw[<-eb];simp[qU]
     ·rw[es]
     ·rw[<-et]
      show s'.toks+drw q+A2 left=s'.toks+(drw q+A2 left)
      omega
   case stop=>
    rintro b s' ⟨left,rl,kl,eb,eh,es,et⟩;cases left with
    |cons q left=>exact rl.elim
    |nil=>
     have yn:b.toList=qU w ps:=by rw[<-eb];simp[qU]
     have xw:s'.toks=s.toks+A2 ps:=et
     show wpAny _ _ (retInt (PD b.toList)) _ _ _
     rw[yn,es];refine wpAny_ret_mkInt ?_
     show wpAny _ _ (if(decide (-(2:Int) ^ 63<=PD (qU w ps))&&decide (PD (qU w ps)<2 ^ 63))=true then _ else _) Q E _
     have h':Q (reduceHash (PD (qU w ps))) { s with toks:=s.toks+(A2 ps+1) }:=h;unfold reduceHash at h';rw[xw]
     by_cases hr:(decide (-(2:Int) ^ 63<=PD (qU w ps))&&decide (PD (qU w ps)<2 ^ 63))=true
     ·rw[if_pos hr]at h'⊢;exact yy (by simpa[Nat.add_assoc] using h')
     ·rw[if_neg hr]at h'⊢;exact yw (wpAny_rule (yy (by simpa[Nat.add_assoc] using h')))
  |_=>cases hk
theorem JT:∀(n:Nat){A:Around}{s:Shared}{p q:PV}{v u:Value},p.ky n=true->q.ky n=true->A.units+n<cLine->HR s.heap p v->HR s.heap q u->RcAt A s v u (decide (p=q)):=by
 intro n
 induction n with
 |zero=>
  intro A s p q v u hp hq hu r r';cases p with
  |int i=>
   obtain⟨t,rfl⟩:=r;cases q with
   |int j=>obtain⟨t',rfl⟩:=r';have:=RcAt.int_int (A:=A) (s:=s) i t j t';rwa[show decide (PV.int i=PV.int j)=(i == j) by simp[Rt]]
   |str j=>obtain⟨t',rfl⟩:=r';exact RcAt.int_str i t j t'
   |_=>cases hq
  |str i=>
   obtain⟨t,rfl⟩:=r;cases q with
   |int j=>obtain⟨t',rfl⟩:=r';exact RcAt.str_int i t j t'
   |str j=>obtain⟨t',rfl⟩:=r';have:=RcAt.str_str (A:=A) (s:=s) i t j t';rwa[show decide (PV.str i=PV.str j)=(i == j) by simp[Rt]]
   |_=>cases hq
  |_=>cases hp
 |succ n ih=>
  intro A s p q v u hp hq hu r r';cases p with
  |int i=>
   obtain⟨t,rfl⟩:=r;cases q with
   |int j=>obtain⟨t',rfl⟩:=r';have:=RcAt.int_int (A:=A) (s:=s) i t j t';rwa[show decide (PV.int i=PV.int j)=(i == j) by simp[Rt]]
   |str j=>obtain⟨t',rfl⟩:=r';exact RcAt.int_str i t j t'
   |tup js=>obtain⟨b,its,rfl,p',_⟩:=r';exact RcAt.int_tuple i t p' (by omega)
   |_=>cases hq
  |str i=>
   obtain⟨t,rfl⟩:=r;cases q with
   |int j=>obtain⟨t',rfl⟩:=r';exact RcAt.str_int i t j t'
   |str j=>obtain⟨t',rfl⟩:=r';have:=RcAt.str_str (A:=A) (s:=s) i t j t';rwa[show decide (PV.str i=PV.str j)=(i == j) by simp[Rt]]
   |tup js=>obtain⟨b,its,rfl,p',_⟩:=r';exact RcAt.str_tuple i t p' (by omega)
   |_=>cases hq
  |tup ps=>
   obtain⟨a,its,rfl,ta,rs⟩:=r;cases q with
   |int j=>obtain⟨t',rfl⟩:=r';exact RcAt.tuple_int j t' ta (by omega)
   |str j=>obtain⟨t',rfl⟩:=r';exact RcAt.tuple_str j t' ta (by omega)
   |tup qs=>
    obtain⟨b,its',rfl,tb,ou⟩:=r';have kp:∀z∈ps,z.ky n=true:=zp.mp hp;have kq:∀z∈qs,z.ky n=true:=zp.mp hq;have l1:=rs.length;have l2:=ou.length;have key:=RcAt.tuples (A:=A) (e:=λj=>match ps[j]?,qs[j]? with|some x,some y=>decide (x=y)|_,_=>false) ta tb (by omega) (λj h1 h2=>by
     have fw:j<ps.length:=by simp at h1;omega
     have cm:j<qs.length:=by simp at h2;omega
     have g1:ps[j]?=some ps[j]:=by simp[fw]
     have g2:qs[j]?=some qs[j]:=by simp[cm]
     obtain⟨xu,gq,b6⟩:=rs.at g1;obtain⟨yu,ij,bg⟩:=ou.at g2;have e1:its.toArray[j]=xu:=by simpa using(yx.mp gq).2
     have e2:its'.toArray[j]=yu:=by simpa using(yx.mp ij).2
     rw[e1,e2];simp only[g1,g2];refine eN (ih (kp _ (RL fw)) (kq _ (RL cm)) (show A.units+1+n<cLine by omega) b6 bg) (λev=>?_) (λf t e=>?_)
     ·subst ev;rw[HR.one b6 bg];exact decide_eq_true rfl
     ·subst e;generalize ps[j]=z at b6;cases z with
      |int i=>obtain⟨_,e⟩:=b6;cases e
      |str i=>obtain⟨_,e⟩:=b6;cases e
      |tup i=>obtain⟨_,_,e,_⟩:=b6;cases e
      |_=>exact b6.elim)
    have sz:((Io (min its.toArray.size its'.toArray.size)).all (λj=>match ps[j]?,qs[j]? with|some x,some y=>decide (x=y)|_,_=>false)&&its.toArray.size == its'.toArray.size)=decide (PV.tup ps=PV.tup qs):=by
     have a1:its.toArray.size=ps.length:=by simp;omega
     have a2:its'.toArray.size=qs.length:=by simp;omega
     rw[a1,a2,P8];simp only[z0,zp,List.mem_range,beq_iff_eq,decide_eq_true_eq,PV.tup.injEq];constructor
     ·rintro⟨hall,hlen⟩;apply List.ext_getElem hlen;intro i hi ax;have:=hall i (by omega);simpa[hi,ax] using this
     ·rintro rfl;refine⟨λx hx=>?_,rfl⟩;have:x<ps.length:=by omega
      simp[this]
    rw[<-sz];exact key
   |_=>cases hq
  |_=>cases hp
variable{p:PV}
theorem HR.noflt{h:Heap}{v:Value}(r:HR h p v):∀f t,v≠.float f t:=λf t e=>by
 subst e;cases p with
 |int i=>obtain⟨_,e⟩:=r;cases e
 |str i=>obtain⟨_,e⟩:=r;cases e
 |tup i=>obtain⟨_,_,e,_⟩:=r;cases e
 |_=>exact r.elim
theorem JU{q:PV}{v:Value}(hp:p.ky n=true)(hq:q.ky n=true)(hu:A.units+n<cLine)(r:HR s.heap p v)(r':HR s.heap q u):EqAt A s v u (decide (p=q)):=
 eN (JT n hp hq hu r r') (λev=>by subst ev;rw[HR.one r r'];exact decide_eq_true rfl) r.noflt
theorem D4:∀(n m:Nat){A:Around}{E:Value->Shared->Prop}{s:Shared}{p:PV}{v:Value}{Q:Bool->Shared->Prop},p.ky n=true->n<=m->HR s.heap p v->Q true s->wpAny (model prog w) A (eqIsQuiet m v) Q E s:=by
 intro n
 induction n with
 |zero=>
  intro m A E s p v Q hk hm r h;cases p with
  |int i=>obtain⟨t,rfl⟩:=r;rw[eqIsQuiet_byValue _ rfl];exact yy h
  |str i=>obtain⟨t,rfl⟩:=r;rw[eqIsQuiet_byValue _ rfl];exact yy h
  |_=>cases hk
 |succ n ih=>
  intro m A E s p v Q hk hm r h;cases p with
  |int i=>obtain⟨t,rfl⟩:=r;rw[eqIsQuiet_byValue _ rfl];exact yy h
  |str i=>obtain⟨t,rfl⟩:=r;rw[eqIsQuiet_byValue _ rfl];exact yy h
  |tup ps=>
   obtain⟨a,its,rfl,⟨o,ho,hc,m',hd⟩,rs⟩:=r;have jt:∀q∈ps,q.ky n=true:=zp.mp hk;have hT:s.TypeIs (.ref a) "tuple" := ⟨o,ho,hc⟩;obtain⟨m,rfl⟩:∃j,m=j+1:=⟨m-1,by omega⟩;unfold eqIsQuiet;refine yw (Qr hT F.slot_tuple_eq.lookup (show wpAny _ _ (isInstance (.ref a) (.type "tuple") >>= _) _ _ s from ?_))
   refine yw (wpAny_isInstance hT isSubtype_tuple_tuple ?_);simp only[Bool.not_true,Pb,if_false];refine yw (wpAny_seqItems ho hd (yw (show wpAny _ _ (forIn its.toArray _ _) _ _ s from ?_)));rw[<-Array.forIn_toList]
   refine RM _ (λrest r s'=>r.1=none/\s'=s/\∃left,HRs s.heap left rest/\∀q∈left,q.ky n=true) _ ?_ ?_ _ _ ⟨rfl,rfl,ps,rs,jt⟩
   ·rintro v rest r s' ⟨hr,rfl,left,rl,kl⟩;cases left with
    |nil=>exact rl.elim
    |cons q left=>
     refine yw (ih m (kl q zd) (by omega) rl.1 ?_);simp only[Bool.not_true,Pb,if_false];exact yy ⟨rfl,rfl,left,rl.2,λz hz=>kl z (zc _ hz)⟩
   ·rintro⟨r1,r2⟩ s' ⟨hr,rfl,_⟩;simp only at hr;subst hr;exact yy h
  |_=>cases hk
def sH(prog:Program)(w:World):HeapKind prog w PV where
 is:=λh p a=>p.ky 6=true/\HR h p (.ref a)
 hash:=hsh w
 draws:=drw
 room:=λA=>A.units+6<cLine
 inj:=λx y=>HR.one x.2 y.2
 keeps:=λx ho hd hs=>⟨x.1,HR.keep (λa it p=>B' p ho hd hs) x.2⟩
 pyHash:=λhu x h=>El 6 x.1 hu x.2 h
 eqBool:=λhu x y h=>JU x.1 y.1 hu x.2 y.2 _ _ _ _ h
 quiet:=λx h=>D4 6 8 x.1 (by omega) x.2 h
def dDO(w:World)(a:Addr)(ks:List (PV×Addr×V)):HO:=.ext λh=>ks.length<=zk/\(a == PR)=false/\∃xs:List (PV×Addr×Value),
 Paired (λ(p:PV×Addr×V)(q:PV×Addr×Value)=>p.1=q.1/\p.2.1=q.2.1/\RelV p.2.2 q.2.2) ks xs/\
 ∃o es ep,h.get? a=some o/\o.ExactDict/\o.data=.dict es ep/\es.toList=xs.map (λx=>(⟨hsh w x.1,.ref x.2.1,x.2.2⟩:Ra))/\(xs.map (·.1)).Nodup
def Em(kd:Nat)(v d:Addr):HO:=.ext λh=>match kd with
 |0=>h.IsItemsView v d
 |1=>h.IsValuesView v d
 |_=>∃o,h.get? v=some o/\o.cls=.type "dict_keys" /\ o.data=.fields #[.ref d]
open PySem PySem.Spec PyProof.Rows
inductive MO where
 |lst (xs:List PV)
 |dK (kvs:List (Key×PV))
 |ins (C:Str) (fs:List (Str×PV))
 |dD (kvs:List (PV×PV))
 |vw (kd d:Nat)
 |fz (o:MO)
abbrev PH:=List MO
abbrev Ev:=List (Option PV)
structure PX where
 cls:Str
 fs:List (Str×PV)
inductive Rs(α:Type) where
 |ok (a:α) (h:PH)
 |exc (x:PX) (h:PH)
 |bad
inductive Fl where
 |nx (δ:Ev) (h:PH)
 |rt (p:PV) (h:PH)
 |bk (δ:Ev) (h:PH)
 |ct (δ:Ev) (h:PH)
 |exc (x:PX) (h:PH)
 |bad
abbrev Me:=Ev->PH->Rs PV
abbrev Ms:=Ev->PH->Fl
abbrev Fn:=List PV->PH->Rs PV
def Rs.bind{α β:Type}(r:Rs α)(f:α->PH->Rs β):Rs β:=match r with
 |.ok a h=>f a h
 |.exc x h=>.exc x h
 |.bad=>.bad
@[simp]theorem Rs.bind_ok{α β:Type}(a:α)(h:PH)(f:α->PH->Rs β):(Rs.ok a h).bind f=f a h:=rfl
@[simp]theorem Rs.bind_exc{α β:Type}(x:PX)(h:PH)(f:α->PH->Rs β):(Rs.exc x h:Rs α).bind f=.exc x h:=rfl
@[simp]theorem Rs.bind_bad{α β:Type}(f:α->PH->Rs β):(Rs.bad:Rs α).bind f=.bad:=rfl
structure MC where
 K:yz
 cl:Str->Option Addr
 bs:List Str
 ex:List Addr->Hp->PX->Prop
 w:World
def SqF(K:yz)(H:Hp)(a:Addr)(xs:List V):Prop:=
 (∃o,H a=some (.frz o (.lst xs)))\/
  ∃(o:Obj)(its:Array Value)(n:Nat),K.lookup a=some o/\o.cls=.type "list" /\ o.dict=none/\o.data=.seq its n/\its.size<=zk/\aJ xs its.toList
theorem SqF.sq{xs:List V}(h:SqF K H a xs):SqL K H a xs:=by
 rcases h with⟨o,h⟩|h
 ·exact .inl (.inr ⟨o,h⟩)
 ·exact .inr h
def Kp(H H':Hp):Prop:=jM H H'/\∀a o u,H a=some (.frz o u)->H' a=some (.frz o u)
theorem Kp.refl(H:Hp):Kp H H:=⟨jM.refl H,λ_ _ _ h=>h⟩
theorem Kp.trans(a:Kp H H1)(b:Kp H1 H2):Kp H H2:=⟨a.1.trans b.1,λc o u h=>b.2 c o u (a.2 c o u h)⟩
theorem Kp.same(s:zQ H H'):Kp H H':=⟨jM.same s,λ_ _ _ h=>s _ _ h⟩
theorem Kp.new(h:H a=none):Kp H (upd H a o):=Kp.same (zQ.upd h)
theorem Kp.upd{p:Addr}(h:qK (H p)):Kp H (upd H p o):=⟨jM.upd h,λa ob u q=>by
 have ne:a≠p:=by
  rintro rfl;rw[q]at h;exact h
 rw[aH ne];exact q⟩
theorem Kp.lst{H:Hp}{p:Addr}{o:HO}{xs:List V}(h:H p=some (.lst xs)):Kp H (L2.upd H p o):=Kp.upd (by rw[h];trivial)
theorem Kp.dK{H:Hp}{p:Addr}{o:HO}{xs:List (Key×V)}(h:H p=some (.dK xs)):Kp H (L2.upd H p o):=Kp.upd (by rw[h];trivial)
theorem Kp.sq{xs:List V}(t:Kp H H')(h:SqT K H a xs):SqT K H' a xs:=t.1.sq h
theorem Kp.sf{xs:List V}(t:Kp H H')(h:SqF K H a xs):SqF K H' a xs:=by
 rcases h with⟨o,h⟩|h
 ·exact .inl ⟨o,t.2 _ _ _ h⟩
 ·exact .inr h
section
variable(C:MC)(φ:List Addr)(H:Hp)
mutual
def RV:PV->V->Prop
 |.non,v=>v=.non
 |.bl b,v=>v=.bl b
 |.int i,v=>v=.int i
 |.str x,v=>v=.str x
 |.ty n,v=>v=.ty n
 |.tup ps,v=>∃a vs,v=.ref a/\SqT C.K H a vs/\RVs ps vs
 |.ref n,v=>∃a,v=.ref a/\φ[n]?=some a
 |.fl ps,v=>∃a vs,v=.ref a/\SqF C.K H a vs/\RVs ps vs
def RVs:List PV->List V->Prop
 |[],[]=>True
 |p::ps,v::vs=>RV p v/\RVs ps vs
 |[],_::_=>False
 |_::_,[]=>False
end
def RKv{κ:Type}:List (κ×PV)->List (κ×V)->Prop:=Paired λp q=>p.1=q.1/\RV C φ H p.2 q.2
def RKd:List (PV×PV)->List (PV×Addr×V)->Prop:=Paired λp q=>p.1=q.1/\p.1.ky 6=true/\RV C φ H p.1 (.ref q.2.1)/\RV C φ H p.2 q.2.2
def RO(a:Addr):MO->Prop
 |.lst ps=>∃vs,H a=some (.lst vs)/\RVs C φ H ps vs
 |.dK kvs=>∃ks,H a=some (.dK ks)/\RKv C φ H kvs ks
 |.ins n fs=>∃c dx ks,C.cl n=some c/\H a=some (.ins c dx ks)/\RKv C φ H fs ks
 |.dD kvs=>∃ks,H a=some (dDO C.w a ks)/\RKd C φ H kvs ks
 |.vw kd d=>∃b,φ[d]?=some b/\H a=some (Em kd a b)
 |.fz (.dK kvs)=>∃ob ks,H a=some (.frz ob (.dK ks))/\RKv C φ H kvs ks
 |.fz (.dD kvs)=>∃ob ks,H a=some (.frz ob (dDO C.w a ks))/\RKd C φ H kvs ks
 |.fz _=>False
structure RH(h:PH):Prop where
 len:φ.length=h.length
 nd:φ.Nodup
 at':∀(n:Nat)(a:Addr)(o:MO),φ[n]?=some a->h[n]?=some o->RO C φ H a o
def RE(δ:Ev)(σ:St):Prop:=δ.length=σ.length/\∀(i:Nat)(p:PV),δ[i]?=some (some p)->∃v,σ[i]?=some (some v)/\RV C φ H p v
end
variable{C:MC}{φ φ':List Addr}{xs:List PV}{δ:Ev}{h:PH}
section
theorem fK{α:Type}{l l':List α}(p:l<+:l'){a:α}(h:l[n]?=some a):l'[n]?=some a:=by
 obtain⟨t,rfl⟩:=p;have:=(yx.mp h).1;rw[PC this];exact h
def Kq(H H':Hp):Prop:=jM H H'/\∀a o xs,H a=some (.frz o (.lst xs))->H' a=some (.frz o (.lst xs))
theorem Kp.q(t:Kp H H'):Kq H H':=⟨t.1,λa o xs h=>t.2 a o _ h⟩
theorem Kq.sq{xs:List V}(t:Kq H H')(h:SqT K H a xs):SqT K H' a xs:=t.1.sq h
theorem Kq.sf{xs:List V}(t:Kq H H')(h:SqF K H a xs):SqF K H' a xs:=by
 rcases h with⟨o,h⟩|h
 ·exact .inl ⟨o,t.2 _ _ _ h⟩
 ·exact .inr h
mutual
theorem RV.monoQ(p:φ<+:φ')(t:Kq H H'):∀{x:PV}{v:V},RV C φ H x v->RV C φ' H' x v
 |.non,_,h=>h
 |.bl _,_,h=>h
 |.int _,_,h=>h
 |.str _,_,h=>h
 |.ty _,_,h=>h
 |.tup _,_,⟨a,vs,e,q,r⟩=>⟨a,vs,e,t.sq q,RVs.monoQ p t r⟩
 |.ref _,_,⟨a,e,q⟩=>⟨a,e,fK p q⟩
 |.fl _,_,⟨a,vs,e,q,r⟩=>⟨a,vs,e,t.sf q,RVs.monoQ p t r⟩
theorem RVs.monoQ(p:φ<+:φ')(t:Kq H H'):∀{xs:List PV}{vs:List V},RVs C φ H xs vs->RVs C φ' H' xs vs
 |[],[],_=>trivial
 |_::_,_::_,⟨h,r⟩=>⟨RV.monoQ p t h,RVs.monoQ p t r⟩
 |[],_::_,h=>h.elim
 |_::_,[],h=>h.elim
end
theorem RV.mono(p:φ<+:φ')(t:Kp H H'){x:PV}(h:RV C φ H x v):RV C φ' H' x v:=RV.monoQ p t.q h
theorem RVs.mono(p:φ<+:φ')(t:Kp H H')(h:RVs C φ H xs vs):RVs C φ' H' xs vs:=RVs.monoQ p t.q h
theorem RVs.length:∀{xs:List PV}{vs:List V},RVs C φ H xs vs->xs.length=vs.length
 |[],[],_=>rfl
 |_::_,_::_,⟨_,r⟩=>by simp[RVs.length r]
 |[],_::_,h=>h.elim
 |_::_,[],h=>h.elim
theorem RVs.get:∀{xs:List PV}{vs:List V}{i:Nat}{v:V},RVs C φ H xs vs->vs[i]?=some v->∃x,xs[i]?=some x/\RV C φ H x v
 |[],[],_,_,_,e=>by simp at e
 |x::_,w::_,0,v,⟨h,_⟩,e=>by
  have:w=v:=by simpa using e
  subst this;exact⟨x,rfl,h⟩
 |_::xs,_::vs,i+1,v,⟨_,r⟩,e=>by
  obtain⟨x,h1,h2⟩:=RVs.get (xs:=xs) (vs:=vs) (i:=i) (v:=v) r (by simpa using e)
  exact⟨x,by simpa using h1,h2⟩
 |[],_::_,_,_,h,_=>h.elim
 |_::_,[],_,_,h,_=>h.elim
theorem RVs.at:∀{xs:List PV}{vs:List V}{i:Nat}{x:PV},RVs C φ H xs vs->xs[i]?=some x->∃v,vs[i]?=some v/\RV C φ H x v
 |[],[],_,_,_,e=>by simp at e
 |x::_,w::_,0,x',⟨h,_⟩,e=>by
  have:x=x':=by simpa using e
  subst this;exact⟨w,rfl,h⟩
 |_::xs,_::vs,i+1,x,⟨_,r⟩,e=>by
  obtain⟨v,h1,h2⟩:=RVs.at (xs:=xs) (vs:=vs) (i:=i) (x:=x) r (by simpa using e)
  exact⟨v,by simpa using h1,h2⟩
 |[],_::_,_,_,h,_=>h.elim
 |_::_,[],_,_,h,_=>h.elim
theorem RVs.append:∀{xs ys:List PV}{vs us:List V},RVs C φ H xs vs->RVs C φ H ys us->RVs C φ H (xs++ys) (vs++us)
 |[],_,[],_,_,h=>h
 |_::_,_,_::_,_,⟨h,r⟩,h'=>⟨h,RVs.append r h'⟩
 |[],_,_::_,_,h,_=>h.elim
 |_::_,_,[],_,h,_=>h.elim
theorem RVs.snoc{x:PV}(r:RVs C φ H xs vs)(h:RV C φ H x v):RVs C φ H (xs++[x]) (vs++[v]):=r.append ⟨h,trivial⟩
theorem RVs.drop:∀{xs:List PV}{vs:List V}(n:Nat),RVs C φ H xs vs->RVs C φ H (xs.drop n) (vs.drop n)
 |_,_,0,h=>h
 |[],[],_+1,_=>trivial
 |_::_,_::_,n+1,⟨_,r⟩=>RVs.drop n r
 |[],_::_,_+1,h=>h.elim
 |_::_,[],_+1,h=>h.elim
theorem RVs.take:∀{xs:List PV}{vs:List V}(n:Nat),RVs C φ H xs vs->RVs C φ H (xs.take n) (vs.take n)
 |[],[],0,_=>trivial
 |_::_,_::_,0,_=>trivial
 |[],[],_+1,_=>trivial
 |_::_,_::_,n+1,⟨h,r⟩=>⟨h,RVs.take n r⟩
 |[],_::_,_,h=>h.elim
 |_::_,[],_,h=>h.elim
theorem RVs.set{x:PV}(h:RV C φ H x v):∀{xs:List PV}{vs:List V}(n:Nat),RVs C φ H xs vs->RVs C φ H (xs.set n x) (vs.set n v)
 |[],[],_,_=>trivial
 |_::_,_::_,0,⟨_,r⟩=>⟨h,r⟩
 |_::_,_::_,n+1,⟨q,r⟩=>⟨q,RVs.set h n r⟩
 |[],_::_,_,h=>h.elim
 |_::_,[],_,h=>h.elim
theorem RKv.monoQ{κ:Type}(p:φ<+:φ')(t:Kq H H'){x:List (κ×PV)}{v:List (κ×V)}(h:RKv C φ H x v):RKv C φ' H' x v:=Paired.mapP h λ_ _ q=>⟨q.1,q.2.monoQ p t⟩
theorem RKd.monoQ(p:φ<+:φ')(t:Kq H H'){x:List (PV×PV)}{v:List (PV×Addr×V)}(h:RKd C φ H x v):RKd C φ' H' x v:=Paired.mapP h λ_ _ q=>⟨q.1,q.2.1,q.2.2.1.monoQ p t,q.2.2.2.monoQ p t⟩
theorem RKv.mono{κ:Type}(p:φ<+:φ')(t:Kp H H'){x:List (κ×PV)}{v:List (κ×V)}(h:RKv C φ H x v):RKv C φ' H' x v:=Paired.mapP h λ_ _ q=>⟨q.1,q.2.mono p t⟩
theorem RKd.mono(p:φ<+:φ')(t:Kp H H'){x:List (PV×PV)}{v:List (PV×Addr×V)}(h:RKd C φ H x v):RKd C φ' H' x v:=Paired.mapP h λ_ _ q=>⟨q.1,q.2.1,q.2.2.1.mono p t,q.2.2.2.mono p t⟩
theorem RE.mono(p:φ<+:φ')(t:Kp H H')(h:RE C φ H δ σ):RE C φ' H' δ σ:=⟨h.1,λi x e=>let ⟨v,q,r⟩:=h.2 i x e;⟨v,q,r.mono p t⟩⟩
theorem RE.set{x:PV}(h:RE C φ H δ σ)(r:RV C φ H x v)(i:Nat):RE C φ H (δ.set i (some x)) (σ.set i (some v)):=by
 refine⟨by rw[QC,QC];exact h.1,λj p e=>?_⟩
 by_cases hj:i=j
 ·subst hj
  by_cases hl:i<δ.length
  ·rw[PU hl]at e;cases e
   exact⟨v,by rw[PU (by rw[<-h.1];exact hl)],r⟩
  ·rw[QP (by rw[QC];omega)]at e;cases e
 ·rw[Pr hj]at e;rw[Pr hj];exact h.2 j p e
theorem RO.stayQ{o:MO}(p:φ<+:φ')(t:Kq H H')(e:H' a=H a)(h:RO C φ H a o):RO C φ' H' a o:=by
 cases o with
 |lst ps=>obtain⟨vs,q,r⟩:=h;exact⟨vs,e.trans q,r.monoQ p t⟩
 |dK ps=>obtain⟨vs,q,r⟩:=h;exact⟨vs,e.trans q,r.monoQ p t⟩
 |ins n fs=>obtain⟨c,dx,ks,hc,q,r⟩:=h;exact⟨c,dx,ks,hc,e.trans q,r.monoQ p t⟩
 |dD kvs=>obtain⟨ks,q,r⟩:=h;exact⟨ks,e.trans q,r.monoQ p t⟩
 |vw kd d=>obtain⟨b,hb,q⟩:=h;exact⟨b,fK p hb,e.trans q⟩
 |fz o=>
  cases o with
  |dK kvs=>obtain⟨ob,ks,q,r⟩:=h;exact⟨ob,ks,e.trans q,r.monoQ p t⟩
  |dD kvs=>obtain⟨ob,ks,q,r⟩:=h;exact⟨ob,ks,e.trans q,r.monoQ p t⟩
  |_=>exact h.elim
theorem RO.stay{o:MO}(p:φ<+:φ')(t:Kp H H')(e:H' a=H a)(h:RO C φ H a o):RO C φ' H' a o:=h.stayQ p t.q e
theorem RO.some{o:MO}(h:RO C φ H a o):∃u,H a=some u:=by
 cases o with
 |lst ps=>obtain⟨vs,q,r⟩:=h;exact⟨_,q⟩
 |dK ps=>obtain⟨vs,q,r⟩:=h;exact⟨_,q⟩
 |ins n fs=>obtain⟨c,dx,ks,hc,q,r⟩:=h;exact⟨_,q⟩
 |dD kvs=>obtain⟨ks,q,r⟩:=h;exact⟨_,q⟩
 |vw kd d=>obtain⟨b,hb,q⟩:=h;exact⟨_,q⟩
 |fz o=>
  cases o with
  |dK kvs=>obtain⟨ob,ks,q,r⟩:=h;exact⟨_,q⟩
  |dD kvs=>obtain⟨ob,ks,q,r⟩:=h;exact⟨_,q⟩
  |_=>exact h.elim
theorem RH.get(r:RH C φ H h){o:MO}(e:h[n]?=some o):∃a,φ[n]?=some a/\RO C φ H a o:=by
 have hn:=(yx.mp e).1;have:n<φ.length:=by rw[r.len];exact hn
 exact⟨φ[n],by simp[this],r.at' n _ o (by simp[this]) e⟩
theorem RH.tracked(r:RH C φ H h)(e:φ[n]?=some a):∃u,H a=some u:=by
 have hn:=(yx.mp e).1;have:n<h.length:=by rw[<-r.len];exact hn
 exact(r.at' n a h[n] e (by simp[this])).some
theorem RH.aside(r:RH C φ H h)(e:H a=none):RH C φ (upd H a o) h:=
 ⟨r.len,r.nd,λn b ob h1 h2=>by
  have q:=r.at' n b ob h1 h2;obtain⟨u,hu⟩:=q.some;exact q.stay (zf) (Kp.new e) (aH (cI hu e))⟩
theorem RH.new(r:RH C φ H h){u:HO}{o:MO}(e:H a=none)(q:RO C (φ++[a]) (upd H a u) a o):RH C (φ++[a]) (upd H a u) (h++[o]):=by
 refine⟨by simp[r.len],?_,λn b ob h1 h2=>?_⟩
 ·rw[Qn];refine⟨r.nd,by simp,λx hx y hy z=>?_⟩;rw[OY]at hy;subst hy z;obtain⟨n,hn⟩:=List.mem_iff_getElem?.mp hx;obtain⟨u',hu⟩:=r.tracked hn;rw[e]at hu;cases hu
 ·by_cases hn:n<φ.length
  ·rw[PC hn]at h1;rw[PC (by rw[<-r.len];exact hn)]at h2;have q':=r.at' n b ob h1 h2;obtain⟨u',hu⟩:=q'.some;exact q'.stay (Pp _ _) (Kp.new e) (aH (cI hu e))
  ·have o5:n=φ.length:=by
    have:=(yx.mp h1).1;simp at this;omega
   subst o5;rw[QF (zb _),Nat.sub_self]at h1;rw[r.len,QF (zb _),Nat.sub_self]at h2;cases h1
   cases h2
   exact q
theorem RH.write(r:RH C φ H h){u:HO}{o:MO}(e:φ[n]?=some a)(t:qK (H a))(q:RO C φ (upd H a u) a o):RH C φ (upd H a u) (h.set n o):=by
 refine⟨by rw[QC];exact r.len,r.nd,λm b ob h1 h2=>?_⟩
 by_cases hm:n=m
 ·subst hm;rw[e]at h1;cases h1;have hl:n<h.length:=by rw[<-r.len];exact(yx.mp e).1
  rw[PU hl]at h2;cases h2
  exact q
 ·rw[Pr hm]at h2;have hb:b≠a:=λz=>by
   subst z;exact hm ((List.getElem?_inj (yx.mp e).1 r.nd).mp (e.trans h1.symm))
  exact(r.at' m b ob h1 h2).stay zf (Kp.upd t) (aH hb)
end
section
variable(C:MC)(φ:List Addr)(H:Hp)
def post(r:Rs PV)(Q:VK):Prop:=match r with
 |.ok p h=>∀φ' v H',φ<+:φ'->Kp H H'->RH C φ' H' h->RV C φ' H' p v->Q v H'
 |.exc x h=>∀φ' H',φ<+:φ'->Kp H H'->RH C φ' H' h->C.ex φ' H' x
 |.bad=>False
def bG(r:Rs Bool)(Q:Bool->Hp->Prop):Prop:=match r with
 |.ok b h=>∀φ' H',φ<+:φ'->Kp H H'->RH C φ' H' h->Q b H'
 |.exc x h=>∀φ' H',φ<+:φ'->Kp H H'->RH C φ' H' h->C.ex φ' H' x
 |.bad=>False
def postA(r:Rs (List PV))(Q:List V->Hp->Prop):Prop:=match r with
 |.ok ps h=>∀φ' vs H',φ<+:φ'->Kp H H'->RH C φ' H' h->RVs C φ' H' ps vs->Q vs H'
 |.exc x h=>∀φ' H',φ<+:φ'->Kp H H'->RH C φ' H' h->C.ex φ' H' x
 |.bad=>False
def bI(r:Fl)(D:Ends):Prop:=match r with
 |.nx δ h=>∀φ' σ H',φ<+:φ'->Kp H H'->RH C φ' H' h->RE C φ' H' δ σ->D.nx σ H'
 |.rt p h=>∀φ' v H',φ<+:φ'->Kp H H'->RH C φ' H' h->RV C φ' H' p v->D.rt v H'
 |.bk δ h=>∀φ' σ H',φ<+:φ'->Kp H H'->RH C φ' H' h->RE C φ' H' δ σ->D.bk σ H'
 |.ct δ h=>∀φ' σ H',φ<+:φ'->Kp H H'->RH C φ' H' h->RE C φ' H' δ σ->D.ct σ H'
 |.exc x h=>∀φ' H',φ<+:φ'->Kp H H'->RH C φ' H' h->C.ex φ' H' x
 |.bad=>False
end
variable{φ1:List Addr}
theorem post.weak{r:Rs PV}{Q:VK}(p:φ<+:φ1)(t:Kp H H1)(h:post C φ H r Q):post C φ1 H1 r Q:=by
 cases r with
 |ok a h'=>exact λφ' v H' p' t'=>h φ' v H' (p.trans p') (t.trans t')
 |exc a h'=>exact λφ' H' p' t'=>h φ' H' (p.trans p') (t.trans t')
 |bad=>exact h
theorem bG.weak{r:Rs Bool}{Q:Bool->Hp->Prop}(p:φ<+:φ1)(t:Kp H H1)(h:bG C φ H r Q):bG C φ1 H1 r Q:=by
 cases r with
 |ok a h'=>exact λφ' H' p' t'=>h φ' H' (p.trans p') (t.trans t')
 |exc a h'=>exact λφ' H' p' t'=>h φ' H' (p.trans p') (t.trans t')
 |bad=>exact h
theorem postA.weak{r:Rs (List PV)}{Q:List V->Hp->Prop}(p:φ<+:φ1)(t:Kp H H1)(h:postA C φ H r Q):postA C φ1 H1 r Q:=by
 cases r with
 |ok a h'=>exact λφ' v H' p' t'=>h φ' v H' (p.trans p') (t.trans t')
 |exc a h'=>exact λφ' H' p' t'=>h φ' H' (p.trans p') (t.trans t')
 |bad=>exact h
theorem bI.weak{r:Fl}{D:Ends}(p:φ<+:φ1)(t:Kp H H1)(h:bI C φ H r D):bI C φ1 H1 r D:=by
 cases r with
 |nx a h'=>exact λφ' v H' p' t'=>h φ' v H' (p.trans p') (t.trans t')
 |rt a h'=>exact λφ' v H' p' t'=>h φ' v H' (p.trans p') (t.trans t')
 |bk a h'=>exact λφ' v H' p' t'=>h φ' v H' (p.trans p') (t.trans t')
 |ct a h'=>exact λφ' v H' p' t'=>h φ' v H' (p.trans p') (t.trans t')
 |exc a h'=>exact λφ' H' p' t'=>h φ' H' (p.trans p') (t.trans t')
 |bad=>exact h
theorem post.imp{r:Rs PV}{Q Q':VK}(h:post C φ H r Q)(i:∀v H',Q v H'->Q' v H'):post C φ H r Q':=by
 cases r with
 |ok a h'=>exact λφ' v H' p t rh rv=>i v H' (h φ' v H' p t rh rv)
 |exc a h'=>exact h
 |bad=>exact h
theorem post.bind{r:Rs PV}{f:PV->PH->Rs PV}{Q:VK}(h:post C φ H (r.bind f) Q):post C φ H r λv H1=>∃φ1 p h1,φ<+:φ1/\Kp H H1/\RH C φ1 H1 h1/\RV C φ1 H1 p v/\post C φ1 H1 (f p h1) Q:=by
 cases r with
 |ok a h'=>exact λφ' v H' p t rh rv=>⟨φ',a,h',p,t,rh,rv,post.weak p t h⟩
 |exc a h'=>exact h
 |bad=>exact h
theorem post.bindB{r:Rs PV}{f:PV->PH->Rs Bool}{Q:Bool->Hp->Prop}(h:bG C φ H (r.bind f) Q):post C φ H r λv H1=>∃φ1 p h1,φ<+:φ1/\Kp H H1/\RH C φ1 H1 h1/\RV C φ1 H1 p v/\bG C φ1 H1 (f p h1) Q:=by
 cases r with
 |ok a h'=>exact λφ' v H' p t rh rv=>⟨φ',a,h',p,t,rh,rv,bG.weak p t h⟩
 |exc a h'=>exact h
 |bad=>exact h
theorem bG.bind{r:Rs Bool}{f:Bool->PH->Rs PV}{Q:VK}(h:post C φ H (r.bind f) Q):bG C φ H r λb H1=>∃φ1 h1,φ<+:φ1/\Kp H H1/\RH C φ1 H1 h1/\post C φ1 H1 (f b h1) Q:=by
 cases r with
 |ok a h'=>exact λφ' H' p t rh=>⟨φ',h',p,t,rh,post.weak p t h⟩
 |exc a h'=>exact h
 |bad=>exact h
theorem bG.bindB{r:Rs Bool}{f:Bool->PH->Rs Bool}{Q:Bool->Hp->Prop}(h:bG C φ H (r.bind f) Q):bG C φ H r λb H1=>∃φ1 h1,φ<+:φ1/\Kp H H1/\RH C φ1 H1 h1/\bG C φ1 H1 (f b h1) Q:=by
 cases r with
 |ok a h'=>exact λφ' H' p t rh=>⟨φ',h',p,t,rh,bG.weak p t h⟩
 |exc a h'=>exact h
 |bad=>exact h
theorem postA.bind{r:Rs (List PV)}{f:List PV->PH->Rs PV}{Q:VK}(h:post C φ H (r.bind f) Q):postA C φ H r λvs H1=>∃φ1 ps h1,φ<+:φ1/\Kp H H1/\RH C φ1 H1 h1/\RVs C φ1 H1 ps vs/\post C φ1 H1 (f ps h1) Q:=by
 cases r with
 |ok a h'=>exact λφ' v H' p t rh rv=>⟨φ',a,h',p,t,rh,rv,post.weak p t h⟩
 |exc a h'=>exact h
 |bad=>exact h
theorem postA.bindA{r:Rs (List PV)}{f:List PV->PH->Rs (List PV)}{Q:List V->Hp->Prop}(h:postA C φ H (r.bind f) Q):postA C φ H r λvs H1=>∃φ1 ps h1,φ<+:φ1/\Kp H H1/\RH C φ1 H1 h1/\RVs C φ1 H1 ps vs/\postA C φ1 H1 (f ps h1) Q:=by
 cases r with
 |ok a h'=>exact λφ' v H' p t rh rv=>⟨φ',a,h',p,t,rh,rv,postA.weak p t h⟩
 |exc a h'=>exact h
 |bad=>exact h
theorem post.bindA{r:Rs PV}{f:PV->PH->Rs (List PV)}{Q:List V->Hp->Prop}(h:postA C φ H (r.bind f) Q):post C φ H r λv H1=>∃φ1 p h1,φ<+:φ1/\Kp H H1/\RH C φ1 H1 h1/\RV C φ1 H1 p v/\postA C φ1 H1 (f p h1) Q:=by
 cases r with
 |ok a h'=>exact λφ' v H' p t rh rv=>⟨φ',a,h',p,t,rh,rv,postA.weak p t h⟩
 |exc a h'=>exact h
 |bad=>exact h
theorem post.val{Q:VK}(q:post C φ H (.ok p h) Q)(rh:RH C φ H h)(rv:RV C φ H p v):Q v H:=q φ v H zf (Kp.refl H) rh rv
open PySem PySem.Spec PyProof.Rows
structure Cxt(C:MC)(k:Nat)(X:Cx):Prop where
 K:X.K=C.K
 calm:X.calm=true
 room:dZ k X.A
 bn:∀x∈C.bs,X.mg x=none
 w:X.w=C.w
theorem Cxt.hu{k:Nat}(c:Cxt C k X):X.A.units+1<cLine:=Ly c.room
theorem Cxt.hu64{k:Nat}(c:Cxt C k X):X.A.units+64<cLine:=c.room.units
theorem Cxt.comp{k:Nat}(c:Cxt C k X)(sc:Scope)(N:List Str)(a:Addr)(fp:List Addr)(s:Shared)(H:Hp):Cxt C k (X.comp sc N a fp s H):=⟨c.K,c.calm,c.room,c.bn,c.w⟩
section
variable(C:MC)
def rd(m:Me):TE:=λσ H Q=>∃φ δ h,RH C φ H h/\RE C φ H δ σ/\post C φ H (m δ h) Q
def rdB(m:Ev->PH->Rs Bool):TT:=λσ H Q=>∃φ δ h,RH C φ H h/\RE C φ H δ σ/\bG C φ H (m δ h) Q
def rdA(m:Ev->PH->Rs (List PV)):TA:=λσ H Q=>∃φ δ h,RH C φ H h/\RE C φ H δ σ/\postA C φ H (m δ h) Q
def rdS(m:Ms):TS:=λD σ H=>∃φ δ h,RH C φ H h/\RE C φ H δ σ/\bI C φ H (m δ h) D
def r2(g:PV->PV->PH->Rs PV):R2:=λx y H Q=>∃φ h p q,RH C φ H h/\RV C φ H p x/\RV C φ H q y/\post C φ H (g p q h) Q
def r1(g:PV->PH->Rs PV):V->Hp->VK->Prop:=λx H Q=>∃φ h p,RH C φ H h/\RV C φ H p x/\post C φ H (g p h) Q
def rL(g:List PV->PH->Rs PV):List V->Hp->VK->Prop:=λxs H Q=>∃φ h ps,RH C φ H h/\RVs C φ H ps xs/\post C φ H (g ps h) Q
end
variable{C:MC}{k:Nat}{X:Cx}
def SE(C:MC)(k:Nat)(X:Cx)(e:Expr)(m:Me):Prop:=Cxt C k X->PE X e (rd C m)
def ST(C:MC)(k:Nat)(X:Cx)(e:Expr)(m:Ev->PH->Rs Bool):Prop:=Cxt C k X->PT X e (rdB C m)
def SA(C:MC)(k:Nat)(X:Cx)(es:List Expr)(m:Ev->PH->Rs (List PV)):Prop:=Cxt C k X->PA X es (rdA C m)
def SSt(C:MC)(k:Nat)(X:Cx)(st:Stmt)(m:Ms):Prop:=Cxt C k X->PS X st (rdS C m)
def SSs(C:MC)(k:Nat)(X:Cx)(st:List Stmt)(m:Ms):Prop:=Cxt C k X->PSs X st (rdS C m)
def OpS(C:MC)(k:Nat)(X:Cx)(f:Value->Value->Sem Value)(g:PV->PV->PH->Rs PV):Prop:=Cxt C k X->OpR X f (r2 C g)
def UnS(C:MC)(k:Nat)(X:Cx)(f:Value->Sem Value)(g:PV->PH->Rs PV):Prop:=Cxt C k X->UnR X f (r1 C g)
def nJ(C:MC)(k:Nat)(X:Cx)(f:Value)(g:List PV->PH->Rs PV):Prop:=Cxt C k X->bT X f (rL C g)
def xJ:Ev->Nat->Option PV
 |[],_=>none
 |x::_,0=>x
 |_::r,n+1=>xJ r n
@[simp]theorem pB(x:Option PV)(r:Ev):xJ (x::r) 0=x:=(rfl)
@[simp]theorem L5(x:Option PV)(r:Ev)(n:Nat):xJ (x::r) (n+1)=xJ r n:=(rfl)
theorem sI:∀{δ:Ev}{i:Nat}{p:PV},xJ δ i=some p->δ[i]?=some (some p)
 |[],_,_,h=>by cases h
 |x::_,0,p,h=>by
  have h':x=some p:=h;simp[h']
 |_::r,n+1,p,h=>by
  rw[Qa];exact sI (δ:=r) (i:=n) h
def mV(i:Nat):Me:=λδ h=>match xJ δ i with
 |some p=>.ok p h
 |none=>.bad
def mC(p:PV):Me:=λ_ h=>.ok p h
theorem LN(i:Nat)(hN:X.N[i]?=some x:=by rfl)(hv:Vis X.env.scope x:=by first|exact Or.inl rfl|exact Or.inr (Or.inl rfl)|exact Or.inr (Or.inr rfl))(hd:(x == ("__debug__" : Str))=false:=by decide)(d9:(x == ("__classdict__" : Str))=false:=by decide):SE C k X (.Name x pos) (mV i):=λ_=>by
 refine(J2 hN hv hd d9).imp λσ H Q h=>?_;obtain⟨φ,δ,h,rh,re,p⟩:=h;unfold mV at p;cases e:xJ δ i with
 |none=>rw[e]at p;exact p.elim
 |some x=>
  rw[e]at p;obtain⟨v,hv,rv⟩:=re.2 i x (sI e);exact⟨v,hv,p.val rh rv⟩
theorem LO{i j pos}:SE C k X (.Constant (.int i) j pos) (mC (.int i)):=λ_=>J3.imp λσ H Q ⟨φ,δ,h,rh,re,p⟩=>p.val rh rfl
theorem Od{i j pos}:SE C k X (.Constant (.bool i) j pos) (mC (.bl i)):=λ_=>Lc.imp λσ H Q ⟨φ,δ,h,rh,re,p⟩=>p.val rh rfl
theorem LP{j pos}:SE C k X (.Constant .none j pos) (mC .non):=λ_=>J4.imp λσ H Q ⟨φ,δ,h,rh,re,p⟩=>p.val rh rfl
theorem LQ{i j pos}:SE C k X (.Constant (.str i) j pos) (mC (.str i)):=λ_=>J5.imp λσ H Q ⟨φ,δ,h,rh,re,p⟩=>p.val rh rfl
theorem En{n:String}(hv:Q3 x=some (.type n))(hb:x∈C.bs:=by decide)(hg:Gl X x:=by rfl)(hn:x≠"__name__" := by decide)(hd:(x == ("__debug__" : Str))=false:=by decide):SE C k X (.Name x pos) (mC (.ty n)):=λc=>
 (Gf (v:=.ty n) hg (c.bn x hb) hv rfl hn hd).imp λσ H Q ⟨φ,δ,h,rh,re,p⟩=>p.val rh rfl
def aB(g:PV->PV->PH->Rs PV)(ma mb:Me):Me:=λδ h=>(ma δ h).bind λx h1=>(mb δ h1).bind λy h2=>g x y h2
variable{ma mb:Me}
theorem BU{g:PV->PV->PH->Rs PV}{Q:VK}(h:rd C (aB g ma mb) σ H Q):tOp (r2 C g) (rd C ma) (rd C mb) σ H Q:=by
 obtain⟨φ,δ,h,rh,re,p⟩:=h;refine⟨φ,δ,h,rh,re,(post.bind p).imp ?_⟩;rintro v H1 ⟨φ1,x,h1,p1,t1,aa,ae,q1⟩;refine⟨φ1,δ,h1,aa,re.mono p1 t1,(post.bind q1).imp ?_⟩;rintro u H2 ⟨φ2,y,h2,p2,t2,aj,b7,q2⟩;exact⟨φ2,h2,x,y,aj,ae.mono p2 t2,b7,q2⟩
variable{op:CmpOp}
section
variable{a b:Expr}{g:PV->PV->PH->Rs PV}
theorem LR{op:Operator}(ho:OpS C k X (PK op) g)(ha:SE C k X a ma)(hb:SE C k X b mb):SE C k X (.BinOp a op b pos) (aB g ma mb):=λc=>
 (Lk (ho c) (ha c) (hb c)).imp λσ H Q h=>BU h
theorem LS(ho:OpS C k X (z8 op) g)(ha:SE C k X a ma)(hb:SE C k X b mb)(hm:behindInMarks op b=false:=by first|exact DN _|rfl):SE C k X (.Compare a [op] [b] pos) (aB g ma mb):=λc=>
 (Gu (ho c) (ha c) (hb c) hm).imp λσ H Q h=>BU h
def mUn(g:PV->PH->Rs PV)(ma:Me):Me:=λδ h=>(ma δ h).bind g
theorem Oe{op:UnaryOp}{g:PV->PH->Rs PV}(ho:UnS C k X (unaryOp op) g)(ha:SE C k X a ma):SE C k X (.UnaryOp op a pos) (mUn g ma):=λc=>
 (Ll (ho c) (ha c)).imp λσ H Q h=>by
  obtain⟨φ,δ,h,rh,re,p⟩:=h;refine⟨φ,δ,h,rh,re,(post.bind p).imp ?_⟩;rintro v H1 ⟨φ1,x,h1,p1,t1,aa,ae,q1⟩;exact⟨φ1,h1,x,aa,ae,q1⟩
end
def aN(h:PH)(n:Nat):Option (List PV):=match h[n]? with
 |some (.lst xs)=>some xs
 |_=>none
theorem bZ(rh:RH C φ H h)(e:aN h n=some xs):∃a vs,φ[n]?=some a/\SqL C.K H a vs/\RVs C φ H xs vs:=by
 unfold aN at e;cases q:h[n]? with
 |none=>rw[q]at e;cases e
 |some o=>
  rw[q]at e;obtain⟨a,ha,ro⟩:=rh.get q;cases o with
  |lst ys=>cases e;obtain⟨vs,q',r⟩:=ro;exact⟨a,vs,ha,SqL.of q',r⟩
  |_=>cases e
def cA(h:PH)(n:Nat):Option (List PV):=match h[n]? with
 |some (.lst xs)=>some xs
 |_=>none
theorem fR(e:cA h n=some xs):h[n]?=some (.lst xs):=by
 unfold cA at e;cases q:h[n]? with
 |none=>rw[q]at e;cases e
 |some o=>
  rw[q]at e;cases o with
  |lst ys=>cases e;rfl
  |_=>cases e
def eJ(x:PV)(h:PH):Option (List PV):=match x with
 |.ref n=>aN h n
 |.fl xs=>some xs
 |_=>none
theorem fS{x:PV}(rh:RH C φ H h)(rv:RV C φ H x v)(e:eJ x h=some xs):∃a vs,v=.ref a/\SqL C.K H a vs/\RVs C φ H xs vs:=by
 cases x with
 |ref n=>
  obtain⟨a,rfl,ha⟩:=rv;obtain⟨a2,vs,ar,sa,ra⟩:=bZ rh e;rw[ha]at ar;cases ar;exact⟨a,vs,rfl,sa,ra⟩
 |fl ys=>
  cases e
  obtain⟨a,vs,rfl,sa,ra⟩:=rv;exact⟨a,vs,rfl,sa.sq,ra⟩
 |_=>cases e
def IH:List PV->Bool
 |[]=>true
 |_::_=>false
def Eo:PV->PV->PH->Rs PV:=λx y h=>match x,y with
 |.int i,.int j=>.ok (.int (i+j)) h
 |.str i,.str j=>if i.length+j.length<=zk then .ok (.str (i++j)) h else .bad
 |.tup xs,.tup ys=>if IH xs=false/\xs.length+ys.length<=zk then .ok (.tup (xs++ys)) h else .bad
 |.ref a,.ref b=>match cA h a,cA h b with
  |some xs,some ys=>if xs.length+ys.length<=zk then .ok (.ref h.length) (h++[.lst (xs++ys)]) else .bad
  |_,_=>.bad
 |_,_=>.bad
theorem post.ite{c:Prop}[Decidable c]{r:Rs PV}{Q:VK}(h:post C φ H (if c then r else .bad) Q):c/\post C φ H r Q:=by
 by_cases hc:c
 ·rw[if_pos hc]at h;exact⟨hc,h⟩
 ·rw[if_neg hc]at h;exact h.elim
theorem post.lnew{Q:VK}(q:post C φ H (.ok (.ref h.length) (h++[.lst xs])) Q)(rh:RH C φ H h)(r:RVs C φ H xs vs){p:Addr}(hp:H p=none):Q (.ref p) (upd H p (.lst vs)):=
 q (φ++[p]) (.ref p) _ (Pp _ _) (Kp.new hp) (rh.new hp ⟨vs,aL,r.mono (Pp _ _) (Kp.new hp)⟩) ⟨p,rfl,by rw[<-rh.len];simp⟩
theorem post.tnew{Q:VK}(q:post C φ H (.ok (.tup xs) h) Q)(rh:RH C φ H h)(r:RVs C φ H xs vs){p:Addr}(hp:H p=none):Q (.ref p) (upd H p (.tup vs)):=
 q φ (.ref p) _ zf (Kp.new hp) (rh.aside hp) ⟨p,vs,rfl,SqT.of aL,r.mono zf (Kp.new hp)⟩
theorem post.lset{ws:List V}{Q:VK}(q:post C φ H (.ok p (h.set n (.lst xs))) Q)(rh:RH C φ H h)(e:φ[n]?=some a)(hl:H a=some (.lst ws))(r:RVs C φ H xs vs)(rv:RV C φ H p v):Q v (upd H a (.lst vs)):=
 q φ v _ zf (Kp.lst hl) (rh.write e (by rw[hl];trivial) ⟨vs,aL,r.mono zf (Kp.lst hl)⟩) (rv.mono zf (Kp.lst hl))
theorem Ep(r:RVs C φ H xs vs)(h:IH xs=false):vs≠[]:=by
 cases xs with
 |nil=>cases h
 |cons x xs=>
  cases vs with
  |nil=>exact r.elim
  |cons=>intro z;cases z
theorem LU:OpS C k X (PK .Add) Eo:=λc=>(GM C.K c.K).imp λx y H Q h=>by
 obtain⟨φ,h,p,q,rh,rx,ry,po⟩:=h;unfold Eo at po;cases p with
 |int i=>
  cases q with
  |int j=>cases rx;cases ry;exact po.val rh rfl
  |_=>exact po.elim
 |str i=>
  cases q with
  |str j=>cases rx;cases ry;exact⟨po.ite.1,po.ite.2.val rh rfl⟩
  |_=>exact po.elim
 |tup xs=>
  cases q with
  |tup ys=>
   obtain⟨a,vs,rfl,sa,ra⟩:=rx;obtain⟨b,us,rfl,sb,rb⟩:=ry;obtain⟨⟨h1,h2⟩,po⟩:=po.ite;refine .inr ⟨a,b,vs,us,rfl,rfl,sa,sb,Ep ra h1,by rw[<-ra.length,<-rb.length];exact h2,λz=>?_,λz p hp=>po.tnew rh (ra.append rb) hp⟩;subst z;have e:ys=[]:=List.eq_nil_of_length_eq_zero rb.length;subst e;exact po.val rh ⟨a,vs,rfl,sa,by rw[Rk];exact ra⟩
  |_=>exact po.elim
 |ref n=>
  cases q with
  |ref m=>
   obtain⟨a,rfl,ha⟩:=rx;obtain⟨b,rfl,hb⟩:=ry;dsimp only at po;cases e1:cA h n with
   |none=>rw[e1]at po;exact po.elim
   |some xs=>
    cases e2:cA h m with
    |none=>rw[e1,e2]at po;exact po.elim
    |some ys=>
     rw[e1,e2]at po;obtain⟨vs,h1,r1⟩:=rh.at' n a _ ha (fR e1);obtain⟨us,h2,r2⟩:=rh.at' m b _ hb (fR e2);obtain⟨hz,po⟩:=po.ite;exact .inl ⟨a,b,vs,us,rfl,rfl,h1,h2,by rw[<-r1.length,<-r2.length];exact hz,λp hp=>po.lnew rh (r1.append r2) hp⟩
  |_=>exact po.elim
 |_=>exact po.elim
def vInt(P:Int->Int->Prop)[∀i j,Decidable (P i j)](f:Int->Int->Int):PV->PV->PH->Rs PV:=λx y h=>match x,y with
 |.int i,.int j=>if P i j then .ok (.int (f i j)) h else .bad
 |_,_=>.bad
theorem BV{P:Int->Int->Prop}[∀i j,Decidable (P i j)](ho:OpR X f (uZ P g)):OpS C k X f (vInt P g):=λc=>ho.imp λx y H Q h=>by
 obtain⟨φ,h,p,q,rh,rx,ry,po⟩:=h;unfold vInt at po;cases p with
 |int i=>
  cases q with
  |int j=>cases rx;cases ry;exact⟨po.ite.1,po.ite.2.val rh rfl⟩
  |_=>exact po.elim
 |_=>exact po.elim
noncomputable instance(i j:Int):Decidable (zL i j):=Qb _
noncomputable instance(i j:Int):Decidable (DM i j):=Qb _
noncomputable instance(i j:Int):Decidable (Cv i j):=Qb _
def A3:PV->PV->PH->Rs PV:=λx y h=>match x,y with
 |.int i,.int j=>.ok (.int (i-j)) h
 |_,_=>.bad
theorem LV:OpS C k X (PK .Sub) A3:=λc=>GN.imp λx y H Q h=>by
 obtain⟨φ,h,p,q,rh,rx,ry,po⟩:=h;unfold A3 at po;cases p with
 |int i=>
  cases q with
  |int j=>cases rx;cases ry;exact po.val rh rfl
  |_=>exact po.elim
 |_=>exact po.elim
noncomputable abbrev xK:=vInt zL λi j=>i*j
noncomputable abbrev sJ:=vInt DM λi j=>i/j
abbrev fN:=vInt (λ_ j=>0<j) λi j=>i%j
noncomputable abbrev JV:=vInt Cv λi j=>i ^ j.toNat
theorem LW:OpS C k X (PK .Mult) xK:=BV GO
theorem LX:OpS C k X (PK .FloorDiv) sJ:=BV GP
theorem LY:OpS C k X (PK .Mod) fN:=BV GQ
theorem LZ:OpS C k X (PK .Pow) JV:=BV GR
def xM:PV->PH->Rs PV:=λx h=>match x with
 |.int i=>.ok (.int (-i)) h
 |_=>.bad
open PySem PySem.Spec PyProof.Rows
variable{C:MC}{k:Nat}{X:Cx}
def Er(f:Int->Int->Bool)(g:List Nat->List Nat->Bool):PV->PV->PH->Rs PV:=λx y h=>match x,y with
 |.int i,.int j=>.ok (.bl (f i j)) h
 |.str i,.str j=>.ok (.bl (g i.cps.toList j.cps.toList)) h
 |_,_=>.bad
theorem II{p:Int->Int->Bool}{g:List Nat->List Nat->Bool}(ho:OpR X f (BQ p g)):OpS C k X f (Er p g):=λc=>ho.imp λx y H Q h=>by
 obtain⟨φ,h,p,q,rh,rx,ry,po⟩:=h;unfold Er at po;cases p with
 |int i=>
  cases q with
  |int j=>cases rx;cases ry;exact po.val rh rfl
  |_=>exact po.elim
 |str i=>
  cases q with
  |str j=>cases rx;cases ry;exact po.val rh rfl
  |_=>exact po.elim
 |_=>exact po.elim
abbrev vLt:=Er (λi j=>decide (i<j)) λi j=>decide (i<j)
abbrev vGt:=Er (λi j=>decide (j<i)) λi j=>decide (j<i)
theorem Of:OpS C k X (z8 .Lt) vLt:=II JF
theorem Og:OpS C k X (z8 .Gt) vGt:=II JG
mutual
def PV.d:PV->Option D
 |.non=>some .non
 |.bl b=>some (.bl b)
 |.int i=>some (.int i)
 |.str x=>some (.str x)
 |.tup xs=>match PV.ds xs with
  |some ds=>some (.tup ds)
  |none=>none
 |.ref _=>none
 |.ty _=>none
 |.fl _=>none
def PV.ds:List PV->Option (List D)
 |[]=>some []
 |x::xs=>match PV.d x,PV.ds xs with
  |some d,some ds=>some (d::ds)
  |_,_=>none
end
mutual
theorem RV.rep:∀{x:PV}{d:D}{v:V},RV C φ H x v->x.d=some d->Rep C.K H d v
 |.non,_,_,h,e=>by cases e;exact h
 |.bl _,_,_,h,e=>by cases e;exact h
 |.int _,_,_,h,e=>by cases e;exact h
 |.str _,_,_,h,e=>by cases e;exact h
 |.tup xs,d,v,⟨a,vs,e1,q,r⟩,e=>by
  unfold PV.d at e;cases e2:PV.ds xs with
  |none=>rw[e2]at e;cases e
  |some ds=>
   rw[e2]at e;cases e
   exact⟨a,vs,e1,q,RVs.reps r e2⟩
 |.ref _,_,_,_,e=>by cases e
 |.ty _,_,_,_,e=>by cases e
 |.fl _,_,_,_,e=>by cases e
theorem RVs.reps:∀{xs:List PV}{ds:List D}{vs:List V},RVs C φ H xs vs->PV.ds xs=some ds->cP C.K H ds vs
 |[],_,[],_,e=>by cases e;trivial
 |x::xs,_,v::vs,⟨h,r⟩,e=>by
  unfold PV.ds at e;cases e1:PV.d x with
  |none=>rw[e1]at e;cases e
  |some d=>
   cases e2:PV.ds xs with
   |none=>rw[e1,e2]at e;cases e
   |some ds=>
    rw[e1,e2]at e;cases e
    exact⟨RV.rep h e1,RVs.reps r e2⟩
 |[],_,_::_,h,_=>h.elim
 |_::_,_,[],h,_=>h.elim
end
def fT(x y:PV)(h:PH):Option Bool:=match x.d,y.d with
 |some d,some e=>if d.depth<=40 then some (eqD d e) else none
 | _,_=>match eJ x h,eJ y h with
   |some xs,some ys=>match PV.ds xs,PV.ds ys with
    |some ds,some es=>if D.depths ds<=40 then some (eM ds es) else none
    |_,_=>none
   |_,_=>none
def ofB(o:Option Bool)(h:PH):Rs PV:=match o with
 |some b=>.ok (.bl b) h
 |none=>.bad
def vEq:PV->PV->PH->Rs PV:=λx y h=>ofB (fT x y h) h
def vNe:PV->PV->PH->Rs PV:=λx y h=>ofB ((fT x y h).map not) h
set_option tactic.hygienic true in
theorem iK{q:PV}{x:V}(rh:RH C φ H h)(rx:RV C φ H p x)(ry:RV C φ H q y)(e:fT p q h=some b):
  (∃d e,Rep C.K H d x/\Rep C.K H e y/\d.depth<=40/\b=eqD d e)\/(∃ds es,zV C.K H ds x/\zV C.K H es y/\D.depths ds<=40/\b=eM ds es):=by
 unfold fT at e;split at e
 ·rename_i d e' h1 h2;split at e
  ·rename_i hd;cases e
   exact .inl ⟨d,e',rx.rep h1,ry.rep h2,hd,rfl⟩
  ·cases e
 ·split at e
  ·rename_i xs ys h1 h2;split at e
   ·rename_i ds es h3 h4;split at e
    ·rename_i hd;cases e
     obtain⟨a',vs,rfl,sa,ra⟩:=fS rh rx h1;obtain⟨we,us,rfl,sb,rb⟩:=fS rh ry h2;exact .inr ⟨ds,es,⟨a',vs,rfl,sa,ra.reps h3⟩,⟨we,us,rfl,sb,rb.reps h4⟩,hd,rfl⟩
    ·cases e
   ·cases e
  ·cases e
theorem post.ofB{o:Option Bool}{Q:VK}(q:post C φ H (ofB o h) Q):∃b,o=some b/\post C φ H (.ok (.bl b) h) Q:=by
 cases o with
 |none=>exact q.elim
 |some b=>exact⟨b,rfl,q⟩
theorem M0:OpS C k X (z8 .Eq) vEq:=λc=>((JK c.hu64 C.K c.K).or (JM c.hu64 C.K c.K)).imp λx y H Q h=>by
 obtain⟨φ,h,p,q,rh,rx,ry,po⟩:=h;obtain⟨b,e,po⟩:=po.ofB;rcases iK rh rx ry e with⟨d,e',h1,h2,h3,rfl⟩|⟨d,e',h1,h2,h3,rfl⟩
 ·exact .inl ⟨d,e',h1,h2,h3,po.val rh rfl⟩
 ·exact .inr ⟨d,e',h1,h2,h3,po.val rh rfl⟩
theorem Oh:OpS C k X (z8 .NotEq) vNe:=λc=>((JL c.hu64 C.K c.K).or (JN c.hu64 C.K c.K)).imp λx y H Q h=>by
 obtain⟨φ,h,p,q,rh,rx,ry,po⟩:=h;obtain⟨b,e,po⟩:=po.ofB;cases e0:fT p q h with
 |none=>rw[e0]at e;cases e
 |some b'=>
  rw[e0]at e;cases e
  rcases iK rh rx ry e0 with⟨d,e',h1,h2,h3,rfl⟩|⟨d,e',h1,h2,h3,rfl⟩
  ·exact .inl ⟨d,e',h1,h2,h3,po.val rh rfl⟩
  ·exact .inr ⟨d,e',h1,h2,h3,po.val rh rfl⟩
def qV:PV->Option Key
 |.int i=>some (.inl i)
 |.str x=>some (.inr x)
 |_=>none
def aP{κ:Type}[DecidableEq κ]:List (κ×PV)->κ->Option PV
 |[],_=>none
 |(a,p)::r,b=>if a=b then some p else aP r b
def xN(h:PH)(n:Nat)(x:PV):Option (Option PV):=match h[n]? with
 |some (.dK kvs)=>match qV x with
  |some key=>some (aP kvs key)
  |none=>none
 |_=>none
def sL(x:PV)(ys:List PV):Option Bool:=match x.d,PV.ds ys with
 |some d,some ds=>if D.depths ds<=40 then some (ds.any λe=>eqD e d) else none
 |_,_=>none
def Ba(x y:PV)(h:PH):Option Bool:=match y with
 |.tup ys=>sL x ys
 |.ref n=>match aN h n with
  |some ys=>sL x ys
  |none=>(xN h n x).map Option.isSome
 |.fl ys=>sL x ys
 |_=>none
def vIn:PV->PV->PH->Rs PV:=λx y h=>ofB (Ba x y h) h
def Es:PV->PV->PH->Rs PV:=λx y h=>ofB ((Ba x y h).map not) h
variable{key:Key}
theorem Bb{x:PV}(r:RV C φ H x v)(e:qV x=some key):v=kV key:=by
 cases x <;> first|(cases e;exact r)|cases e
theorem vK{κ:Type}[DecidableEq κ]{kvs:List (κ×PV)}{ks:List (κ×V)}(r:RKv C φ H kvs ks)(a:κ):match aP kvs a,jG ks a with
  |some p,some v=>RV C φ H p v
  |none,none=>True
  |_,_=>False:=by
 unfold RKv at r
 induction r with
 |nil=>trivial
 | @cons p q ps qs h t ih=>
  obtain⟨h1,h2⟩:=h;obtain⟨pk,pv⟩:=p
  by_cases e:pk=a
  ·have e':q.1=a:=h1.symm.trans e;rw[mW e'];unfold aP;rw[if_pos e];exact h2
  ·have e':¬ q.1=a:=λz=>e (h1.trans z);rw[mX e'];unfold aP;rw[if_neg e];exact ih
set_option tactic.hygienic true in
theorem lJ{x:PV}{o:Option PV}(rh:RH C φ H h)(ha:φ[n]?=some a)(rv:RV C φ H x v)(e:xN h n x=some o):
  ∃o',lG H a v o'/\o.isSome=o'.isSome/\∀p,o=some p->∃w,o'=some w/\RV C φ H p w:=by
 unfold xN at e;split at e
 ·rename_i kvs hk;split at e
  ·rename_i key ee;cases e
   obtain⟨ks,hH,rk⟩:=rh.at' n a _ ha hk;have q:=vK rk key;rw[Bb rv ee];refine⟨jG ks key,lG.k hH,?_,λp hp=>?_⟩
   ·cases e1:aP kvs key <;> cases e2:jG ks key <;> rw[e1,e2]at q <;> first|rfl|exact q.elim
   ·rw[hp]at q;cases e2:jG ks key with
    |none=>rw[e2]at q;exact q.elim
    |some w=>rw[e2]at q;exact⟨w,rfl,q⟩
  ·cases e
 ·cases e
set_option tactic.hygienic true in
theorem sM{q:PV}{x:V}(rh:RH C φ H h)(rx:RV C φ H p x)(ry:RV C φ H q y)(e:Ba p q h=some b):
  (∃d a ds vs,y=.ref a/\(SqL C.K H a vs\/SqT C.K H a vs)/\Rep C.K H d x/\cP C.K H ds vs/\D.depths ds<=40/\b=ds.any λe=>eqD e d)\/∃a o,y=.ref a/\lG H a x o/\b=o.isSome:=by
 have go:∀{a:Addr}{vs:List V}{ys:List PV},(SqL C.K H a vs\/SqT C.K H a vs)->RVs C φ H ys vs->sL p ys=some b->∃d a' ds vs,V.ref a=.ref a'/\(SqL C.K H a' vs\/SqT C.K H a' vs)/\Rep C.K H d x/\cP C.K H ds vs/\D.depths ds<=40/\b=ds.any λe=>eqD e d:=by
  intro a vs ys hs hr he;unfold sL at he;split at he
  ·rename_i d ds h1 h2;split at he
   ·rename_i hd;cases he
    exact⟨d,a,ds,vs,rfl,hs,rx.rep h1,hr.reps h2,hd,rfl⟩
   ·cases he
  ·cases he
 unfold Ba at e;split at e
 ·obtain⟨a,vs,rfl,sa,ra⟩:=ry;exact .inl (go (.inr sa) ra e)
 ·rename_i n;obtain⟨a,rfl,ha⟩:=ry;split at e
  ·rename_i ys hl;obtain⟨a2,vs,ar,sa,ra⟩:=bZ rh hl;rw[ha]at ar;cases ar;exact .inl (go (.inl sa) ra e)
  ·cases e':xN h n p with
   |none=>rw[e']at e;cases e
   |some o=>
    rw[e']at e;cases e
    obtain⟨o',g,i,_⟩:=lJ rh ha rx e';exact .inr ⟨a,o',rfl,g,i⟩
 ·obtain⟨a,vs,rfl,sa,ra⟩:=ry;exact .inl (go (.inl sa.sq) ra e)
 ·cases e
theorem Oi:OpS C k X (z8 .In) vIn:=λc=>((JO c.hu64 C.K c.K).or (JH c.hu C.K c.K)).imp λx y H Q h=>by
 obtain⟨φ,h,p,q,rh,rx,ry,po⟩:=h;obtain⟨b,e,po⟩:=po.ofB;rcases sM rh rx ry e with⟨d,a,ds,vs,rfl,h1,h2,h3,h4,rfl⟩|⟨a,o,rfl,g,rfl⟩
 ·exact .inl ⟨d,a,ds,vs,rfl,h1,h2,h3,h4,po.val rh rfl⟩
 ·exact .inr (.inr ⟨a,o,rfl,g,po.val rh rfl⟩)
theorem Ha:OpS C k X (z8 .NotIn) Es:=λc=>((CT c.hu64 C.K c.K).or (CO c.hu C.K c.K)).imp λx y H Q h=>by
 obtain⟨φ,h,p,q,rh,rx,ry,po⟩:=h;obtain⟨b,e,po⟩:=po.ofB;cases e':Ba p q h with
 |none=>rw[e']at e;cases e
 |some b'=>
  rw[e']at e;cases e
  rcases sM rh rx ry e' with⟨d,a,ds,vs,rfl,h1,h2,h3,h4,rfl⟩|⟨a,o,rfl,g,rfl⟩
  ·exact .inl ⟨d,a,ds,vs,rfl,h1,h2,h3,h4,po.val rh rfl⟩
  ·exact .inr (.inr ⟨a,o,rfl,g,po.val rh rfl⟩)
def sN:PV->Bool
 |.non=>true
 |_=>false
def vIs:PV->PV->PH->Rs PV:=λx y h=>match y with
 |.non=>.ok (.bl (sN x)) h
 |.bl b=>match x with
  |.bl a=>.ok (.bl (a == b)) h
  |_=>.bad
 |_=>.bad
def fH:PV->PV->PH->Rs PV:=λx y h=>match y with
 |.non=>.ok (.bl (!sN x)) h
 |.bl b=>match x with
  |.bl a=>.ok (.bl (!(a == b))) h
  |_=>.bad
 |_=>.bad
theorem RV.isNon(r:RV C φ H p v):decide (v=.non)=sN p:=by
 cases p with
 |non=>cases r;rfl
 |tup xs=>obtain⟨a,vs,rfl,_⟩:=r;rfl
 |ref n=>obtain⟨a,rfl,_⟩:=r;rfl
 |fl xs=>obtain⟨a,vs,rfl,_⟩:=r;rfl
 |_=>cases r;rfl
theorem Hb:OpS C k X (z8 .IsNot) fH:=λc=>(Gr.or (λpins s σ H x y v u Q I rx ry(h:∃a b,x=.bl a/\y=.bl b/\Q (.bl (!(a == b))) H)=>by
  obtain⟨a,b,rfl,rfl,q⟩:=h;cases rx;cases ry;exact PyProof.Rows.isnot_bool ⟨.bl _,H,I,rfl,q⟩)).imp λx y H Q h=>by
 obtain⟨φ,h,p,q,rh,rx,ry,po⟩:=h;unfold fH at po;cases q with
 |non=>
  cases ry
  refine .inl ⟨rfl,?_⟩;rw[rx.isNon];exact po.val rh rfl
 |bl b=>
  cases p with
  |bl a=>cases rx;cases ry;exact .inr ⟨a,b,rfl,rfl,po.val rh rfl⟩
  |_=>exact po.elim
 |_=>exact po.elim
def tru(x:PV)(h:PH):Rs Bool:=match x with
 |.non=>.ok false h
 |.bl b=>.ok b h
 |.int i=>.ok (i != 0) h
 |.str y=>if y.length<=zk then .ok ((y.length:Int) != 0) h else .bad
 |.tup xs=>.ok (!xs.isEmpty) h
 |.ref n=>match aN h n with
  |some xs=>.ok (!xs.isEmpty) h
  |none=>match h[n]? with
   |some (.dK kvs)=>.ok (!kvs.isEmpty) h
   |_=>.bad
 |.fl xs=>.ok (!xs.isEmpty) h
 |.ty _=>.bad
theorem RVs.isEmpty(r:RVs C φ H xs vs):(!vs.isEmpty)=!xs.isEmpty:=by
 cases xs <;> cases vs <;> first|rfl|exact r.elim
theorem bG.ite{c:Prop}[Decidable c]{r:Rs Bool}{Q:Bool->Hp->Prop}(h:bG C φ H (if c then r else .bad) Q):c/\bG C φ H r Q:=by
 by_cases hc:c
 ·rw[if_pos hc]at h;exact⟨hc,h⟩
 ·rw[if_neg hc]at h;exact h.elim
theorem bG.val{Q:Bool->Hp->Prop}(q:bG C φ H (.ok b h) Q)(rh:RH C φ H h):Q b H:=q φ H zf (Kp.refl H) rh
set_option tactic.hygienic true in
theorem D5{Q:Bool->Hp->Prop}(rh:RH C φ H h)(rv:RV C φ H p v)(po:bG C φ H (tru p h) Q):∃b,Gv C.K v H b/\Q b H:=by
 unfold tru at po;cases p with
 |non=>cases rv;exact⟨_,rfl,po.val rh⟩
 |bl b=>cases rv;exact⟨_,rfl,po.val rh⟩
 |int i=>cases rv;exact⟨_,rfl,po.val rh⟩
 |str y=>cases rv;exact⟨_,⟨po.ite.1,rfl⟩,po.ite.2.val rh⟩
 |tup xs=>
  obtain⟨a,vs,rfl,sa,ra⟩:=rv;exact⟨_,.inr (.inl ⟨vs,sa,rfl⟩),by rw[ra.isEmpty];exact po.val rh⟩
 |ref n=>
  obtain⟨a,rfl,ha⟩:=rv;dsimp only at po;cases e:aN h n with
  |some xs=>
   rw[e]at po;obtain⟨a2,vs,ar,sa,ra⟩:=bZ rh e;rw[ha]at ar;cases ar;exact⟨_,.inl ⟨vs,sa,rfl⟩,by rw[ra.isEmpty];exact po.val rh⟩
  |none=>
   rw[e]at po;dsimp only at po;split at po
   ·rename_i kvs hk;obtain⟨ks,hH,rk⟩:=rh.at' n a _ ha hk;refine⟨_,.inr (.inr ⟨ks,hH,rfl⟩),?_⟩;have:(!ks.isEmpty)=!kvs.isEmpty:=by cases rk <;> rfl
    rw[this];exact po.val rh
   ·exact po.elim
 |fl xs=>
  obtain⟨a,vs,rfl,sa,ra⟩:=rv;exact⟨_,.inl ⟨vs,sa.sq,rfl⟩,by rw[ra.isEmpty];exact po.val rh⟩
 |ty n=>exact po.elim
open PySem PySem.Spec PyProof.Rows
variable{C:MC}{k:Nat}{X:Cx}
def aK(m:Me):Ev->PH->Rs Bool:=λδ h=>(m δ h).bind tru
variable{m:Me}
theorem Et{Q:Bool->Hp->Prop}(h:rdB C (aK m) σ H Q):rd C m σ H λv H1=>∃b,Gv C.K v H1 b/\Q b H1:=by
 obtain⟨φ,δ,h,rh,re,p⟩:=h;refine⟨φ,δ,h,rh,re,(post.bindB p).imp ?_⟩;rintro v H1 ⟨φ1,x,h1,p1,t1,aa,ae,q1⟩;exact D5 aa ae q1
section
variable{a b c':Expr}{mc:Me}{g g':PV->PV->PH->Rs PV}{ta tb:Ev->PH->Rs Bool}
theorem M1(h:SE C k X e m)(he:∀whole,isTrue e X.env whole=(do let v <-whole;standAt e.pos;holding [v] (truthy v)):=by intro _;rfl):ST C k X e (aK m):=λc=>
 (DP (h c) he).imp λσ H Q q=>by rw[c.K];exact Et q
theorem M3(ho:OpS C k X (z8 op) g)(ha:SE C k X a ma)(hb:SE C k X b mb)(hm:behindInMarks op b=false:=by first|exact DN _|rfl):ST C k X (.Compare a [op] [b] pos) (aK (aB g ma mb)):=λc=>by
 intro pins s σ H Q I h;have h:=BU (Et h);refine wpAny_isTrue_Compare1 (thn (ha c pins s σ H _ I h) λv s1 ⟨x,H1,I1,r1,q1⟩=>thn (hb c pins s1 σ H1 _ I1 q1) λu s2 ⟨y,H2,I2,r2,q2⟩=>
  thn (ho c pins s2 σ H2 x y v u _ I2 r1 r2 q2) λw s3 ⟨z,H3,I3,r3,q3⟩=>?_) hm
 rw[<-c.K]at q3;exact DO pins s3 σ H3 z w Q I3 r3 q3
def M4(z:PV)(h:PH):Rs PV:=match z with
 |.bl b=>.ok (.bl b) h
 |_=>.bad
def OR(g g':PV->PV->PH->Rs PV)(ma mb mc:Me):Me:=λδ h=>(ma δ h).bind λx h1=>(mb δ h1).bind λy h2=>(g x y h2).bind λz h3=>match z with
 |.bl true=>(mc δ h3).bind λw h4=>(g' y w h4).bind M4
 |.bl false=>.ok (.bl false) h3
 |_=>.bad
def vL(t:Ev->PH->Rs Bool):Ev->PH->Rs Bool:=λδ h=>(t δ h).bind λb h1=>.ok (!b) h1
def nK(ta tb:Ev->PH->Rs Bool):Ev->PH->Rs Bool:=λδ h=>(ta δ h).bind λb h1=>match b with
 |true=>tb δ h1
 |false=>.ok false h1
def Bc(ta tb:Ev->PH->Rs Bool):Ev->PH->Rs Bool:=λδ h=>(ta δ h).bind λb h1=>match b with
 |true=>.ok true h1
 |false=>tb δ h1
theorem bG.imp{r:Rs Bool}{Q Q':Bool->Hp->Prop}(h:bG C φ H r Q)(i:∀v H',Q v H'->Q' v H'):bG C φ H r Q':=by
 cases r with
 |ok a h'=>exact λφ' H' p t rh=>i a H' (h φ' H' p t rh)
 |exc a h'=>exact h
 |bad=>exact h
theorem M5(h:ST C k X e ta):ST C k X (.UnaryOp .Not e pos) (vL ta):=λc=>(J8 (h c)).imp λσ H Q q=>by
 obtain⟨φ,δ,h,rh,re,p⟩:=q;refine⟨φ,δ,h,rh,re,(bG.bindB p).imp ?_⟩;rintro b H1 ⟨φ1,h1,p1,t1,aa,q1⟩;exact q1.val aa
def SW(C:MC)(k:Nat)(X:Cx)(e:Expr)(m:Ev->PH->Rs Bool):Prop:=Cxt C k X->PW X e (rdB C m)
theorem SW.t(h:SW C k X e ta):ST C k X e ta:=λc=>(h c).pt
theorem PW.imp{t t':TT}(h:PW X e t)(i:∀σ H Q,t' σ H Q->t σ H Q):PW X e t':=λw pins s σ H Q I q=>h w pins s σ H Q I (i σ H Q q)
theorem JW(ha:ST C k X a ta):SW C k X (.BoolOp .And [a] pos) ta:=λc=>Gg (ha c)
theorem M6(ha:ST C k X a ta):SW C k X (.BoolOp .Or [a] pos) ta:=λc=>J6 (ha c)
theorem w_and{rest:List Expr}(ha:ST C k X a ta)(hb:SW C k X (.BoolOp .And (b::rest) pos) tb):SW C k X (.BoolOp .And (a::b::rest) pos) (nK ta tb):=λc=>PW.imp (J7 (ha c) (hb c)) λσ H Q q=>by
 obtain⟨φ,δ,h,rh,re,p⟩:=q;refine⟨φ,δ,h,rh,re,(bG.bindB p).imp ?_⟩;rintro b H1 ⟨φ1,h1,p1,t1,aa,q1⟩;cases b with
 |true=>exact AZ ⟨φ1,δ,h1,aa,re.mono p1 t1,q1⟩
 |false=>exact AY (q1.val aa)
theorem w_or{rest:List Expr}(ha:ST C k X a ta)(hb:SW C k X (.BoolOp .Or (b::rest) pos) tb):SW C k X (.BoolOp .Or (a::b::rest) pos) (Bc ta tb):=λc=>PW.imp (Ld (ha c) (hb c)) λσ H Q q=>by
 obtain⟨φ,δ,h,rh,re,p⟩:=q;refine⟨φ,δ,h,rh,re,(bG.bindB p).imp ?_⟩;rintro b H1 ⟨φ1,h1,p1,t1,aa,q1⟩;cases b with
 |true=>exact AZ (q1.val aa)
 |false=>exact AY ⟨φ1,δ,h1,aa,re.mono p1 t1,q1⟩
def A4(ma mb:Me):Me:=λδ h=>(ma δ h).bind λx h1=>match x with
 |.bl true=>mb δ h1
 |.bl false=>.ok (.bl false) h1
 |_=>.bad
def A5(ma:Me):Me:=λδ h=>(ma δ h).bind λx h1=>match x with
 |.bl b=>.ok (.bl (!b)) h1
 |_=>.bad
theorem M7{op}(h:SE C k X a ma):SE C k X (.BoolOp op [a] pos) ma:=λc=>J9 (h c)
theorem M8{rest:List Expr}(ha:SE C k X a ma)(hb:SE C k X (.BoolOp .And (b::rest) pos) mb):SE C k X (.BoolOp .And (a::b::rest) pos) (A4 ma mb):=λc=>(GS (ha c) (hb c)).imp λσ H Q q=>by
 obtain⟨φ,δ,h,rh,re,p⟩:=q;refine⟨φ,δ,h,rh,re,(post.bind p).imp ?_⟩;rintro v H1 ⟨φ1,x,h1,p1,t1,aa,rv,q1⟩;cases x with
 |bl b=>
  cases rv
  cases b with
  |true=>exact AZ ⟨φ1,δ,h1,aa,re.mono p1 t1,q1⟩
  |false=>exact AY (q1.val aa rfl)
 |_=>exact q1.elim
theorem M9(ha:SE C k X a ma):SE C k X (.UnaryOp .Not a pos) (A5 ma):=λc=>(GT (ha c)).imp λσ H Q q=>by
 obtain⟨φ,δ,h,rh,re,p⟩:=q;refine⟨φ,δ,h,rh,re,(post.bind p).imp ?_⟩;rintro v H1 ⟨φ1,x,h1,p1,t1,aa,rv,q1⟩;cases x with
 |bl b=>cases rv;exact q1.val aa rfl
 |_=>exact q1.elim
def mIf(t:Ev->PH->Rs Bool)(ma mb:Me):Me:=λδ h=>(t δ h).bind λb h1=>match b with
 |true=>ma δ h1
 |false=>mb δ h1
theorem Hc(ht:ST C k X c' ta)(ha:SE C k X a ma)(hb:SE C k X b mb):SE C k X (.IfExp c' a b pos) (mIf ta ma mb):=λc=>(DE (ht c) (ha c) (hb c)).imp λσ H Q q=>by
 obtain⟨φ,δ,h,rh,re,p⟩:=q;refine⟨φ,δ,h,rh,re,(bG.bind p).imp ?_⟩;rintro b H1 ⟨φ1,h1,p1,t1,aa,q1⟩;cases b with
 |true=>exact AZ ⟨φ1,δ,h1,aa,re.mono p1 t1,q1⟩
 |false=>exact AY ⟨φ1,δ,h1,aa,re.mono p1 t1,q1⟩
end
theorem RVs.atI{i:Int}{x:PV}(r:RVs C φ H xs vs)(e:L2.atI xs i=some x):∃v,L2.atI vs i=some v/\RV C φ H x v:=by
 unfold L2.atI at e⊢;rw[<-r.length];cases q:ixN xs.length i with
 |none=>rw[q]at e;cases e
 |some j=>
  rw[q]at e;exact r.at e
def ofO(o:Option PV)(h:PH):Rs PV:=match o with
 |some p=>.ok p h
 |none=>.bad
def vIx:PV->PV->PH->Rs PV:=λx y h=>match x with
 |.str z=>(match y with
  |.int i=>if z.length<=zk then ofO ((atI z.cps.toList i).map λc=>.str ⟨#[c]⟩) h else .bad
  |_=>.bad)
 |.tup xs=>(match y with
  |.int i=>ofO (atI xs i) h
  |_=>.bad)
 |.fl xs=>(match y with
  |.int i=>ofO (atI xs i) h
  |_=>.bad)
 |.ref n=>(match aN h n with
  |some xs=>(match y with
   |.int i=>ofO (atI xs i) h
   |_=>.bad)
  |none=>(match xN h n y with
   |some o=>ofO o h
   |none=>.bad))
 |_=>.bad
theorem post.ofO{o:Option PV}{Q:VK}(q:post C φ H (ofO o h) Q):∃p,o=some p/\post C φ H (.ok p h) Q:=by
 cases o with
 |none=>exact q.elim
 |some b=>exact⟨b,rfl,q⟩
theorem Mb{x:V}{Q:VK}(h:r2 C vIx x y H Q):LF C.K x y H Q:=by
 obtain⟨φ,h,p,q,rh,rx,ry,po⟩:=h;unfold vIx at po;cases p with
 |str z=>
  cases rx
  cases q with
  |int i=>
   cases ry
   obtain⟨hz,po⟩:=po.ite;obtain⟨p,e,po⟩:=po.ofO;cases e':atI z.cps.toList i with
   |none=>rw[e']at e;cases e
   |some c=>rw[e']at e;cases e;exact⟨hz,c,e',po.val rh rfl⟩
  |_=>exact po.elim
 |tup xs=>
  obtain⟨a,vs,rfl,sa,ra⟩:=rx;cases q with
  |int i=>
   cases ry
   obtain⟨p,e,po⟩:=po.ofO;obtain⟨v,hv,rv⟩:=ra.atI e;exact .inl ⟨vs,i,v,rfl,.inr sa,hv,po.val rh rv⟩
  |_=>exact po.elim
 |fl xs=>
  obtain⟨a,vs,rfl,sa,ra⟩:=rx;cases q with
  |int i=>
   cases ry
   obtain⟨p,e,po⟩:=po.ofO;obtain⟨v,hv,rv⟩:=ra.atI e;exact .inl ⟨vs,i,v,rfl,.inl sa.sq,hv,po.val rh rv⟩
  |_=>exact po.elim
 |ref n=>
  obtain⟨a,rfl,ha⟩:=rx;dsimp only at po;cases e:aN h n with
  |some xs=>
   rw[e]at po;obtain⟨a2,vs,ar,sa,ra⟩:=bZ rh e;rw[ha]at ar;cases ar;cases q with
   |int i=>
    cases ry
    obtain⟨p,e,po⟩:=po.ofO;obtain⟨v,hv,rv⟩:=ra.atI e;exact .inl ⟨vs,i,v,rfl,.inl sa,hv,po.val rh rv⟩
   |_=>exact po.elim
  |none=>
   rw[e]at po;dsimp only at po;cases e':xN h n q with
   |none=>rw[e']at po;exact po.elim
   |some o=>
    rw[e']at po;obtain⟨p,eo,po⟩:=po.ofO;obtain⟨o',g,_,hp⟩:=lJ rh ha ry e';obtain⟨w,rfl,bt⟩:=hp p eo;exact .inr ⟨w,g,po.val rh bt⟩
 |_=>exact po.elim
variable{items:Array Value}{vl vu:Value}
theorem kN{t sl:Addr}{lo hi:Option Int}(ht:IsTup s.heap t items)(hs:s.heap.IsSliceOf sl vl vu .none)(pl:IsPart vl lo)(pu:IsPart vu hi)(hw:HT.sIx items.size 0 lo=0/\HT.sIx items.size items.size hi=items.size)(h:Q (.ref t) s):wpAny (model prog w) A (getItem (.ref t) (.ref sl)) Q E s:=by
 obtain⟨os,jy,n8,i9⟩:=id hs;have si:s.TypeIs (.ref sl) "slice" := ⟨os,jy,n8⟩;unfold getItem
 try with_reducible refine PF ?_
 first|refine yw (yy ?_)|skip
 refine yw (wpAny_sequenceKey ht.typeIs (by decide) ?_);refine yw (Px (name:=zg "__getitem__") ht.typeIs Pu
  (Pg Pu ht.typeIs entry_tuple_getitem ?_ (args_tuple_getitem _ _)))
 show wpAny _ _ (Rz (.ref t) >>= _) _ _ s
 refine yw (tupleItemsOf_ ht ?_);refine yw (wpAny_typeOf si ?_);rw[if_pos (by decide)];refine yw (HT.sliceApplied_gen hs pl pu ?_);have gf:((((HT.sIx items.size 0 lo:Nat):Int) == 0&&(1:Int) == 1&&(HT.sIx items.size items.size hi-HT.sIx items.size 0 lo) == items.size)=true):=by
  rw[hw.1,hw.2];simp
 show wpAny _ _ (if(((HT.sIx items.size 0 lo:Nat):Int) == 0&&(1:Int) == 1&&(HT.sIx items.size items.size hi-HT.sIx items.size 0 lo) == items.size)=true then _ else _) _ _ s
 rw[if_pos gf];refine yw ?_;unfold Builtin.Tuple.tupleIsExact;refine yw (wpAny_typeOf ht.typeIs (yy ?_));rw[if_pos (by decide)];refine yw (wpAny_rule ?_);exact yy ⟨_,rfl,yy h⟩
open PySem PySem.Spec PyProof.Rows
variable{C:MC}{k:Nat}{X:Cx}
def aT{α:Type}(xs:List α)(lo hi:Option Int):List α:=(xs.drop (HT.sIx xs.length 0 lo)).take (HT.sIx xs.length xs.length hi-HT.sIx xs.length 0 lo)
theorem RVs.cut(r:RVs C φ H xs vs)(lo hi:Option Int):RVs C φ H (aT xs lo hi) (zO vs lo hi):=by
 unfold aT zO;rw[<-r.length];exact(r.drop _).take _
def vSl:PV->Option Int->Option Int->PH->Rs PV:=λx lo hi h=>match x with
 |.str z=>if z.length<=zk then .ok (.str (Txt.slice z lo hi)) h else .bad
 |.tup xs=>.ok (.tup (aT xs lo hi)) h
 |.ref n=>match aN h n with
  |some xs=>.ok (.ref h.length) (h++[.lst (aT xs lo hi)])
  |none=>.bad
 |.fl xs=>.ok (.ref h.length) (h++[.lst (aT xs lo hi)])
 |_=>.bad
def Mc(K:yz):V->Option Int->Option Int->Hp->VK->Prop:=λx lo hi H Q=>∃a xs,x=.ref a/\SqT K H a xs/\(HT.sIx xs.length 0 lo=0/\HT.sIx xs.length xs.length hi=xs.length)/\Q (.ref a) H
theorem Eu:SlR X (Mc X.K):=by
 intro pins s σ H x v vl vu lo hi sl Q I rx hs pl pu h;obtain⟨a,xs,rfl,hx,hw,q⟩:=h;cases rx
 obtain⟨its,r,ht,hz⟩:=I.tuple hx;have hlen:its.toArray.size=xs.length:=by rw[ze];exact r.length.symm
 refine⟨"tuple",_,Pu.lookup,ht.typeIs,?_⟩;exact kN ht hs pl pu (by rw[hlen];exact hw) ⟨.ref a,H,I,rfl,q⟩
variable{r r':V->Option Int->Option Int->Hp->VK->Prop}
theorem SlR.imp(h:SlR X r)(i:∀x lo hi H Q,r' x lo hi H Q->r x lo hi H Q):SlR X r':=λpins s σ H x v vl vu lo hi sl Q I rx hs pl pu q=>h pins s σ H x v vl vu lo hi sl Q I rx hs pl pu (i x lo hi H Q q)
def r3(C:MC)(g:PV->Option Int->Option Int->PH->Rs PV):V->Option Int->Option Int->Hp->VK->Prop:=λx lo hi H Q=>∃φ h p,RH C φ H h/\RV C φ H p x/\post C φ H (g p lo hi h) Q
theorem JX(hK:X.K=C.K):SlR X (r3 C vSl):=by
 have e:SlR X (λx lo hi H Q=>LC x lo hi H Q\/Lr C.K x lo hi H Q\/Lv C.K x lo hi H Q\/Mc C.K x lo hi H Q):=by rw[<-hK];exact JE.or (Js.or (GF.or Eu))
 refine e.imp λx lo hi H Q h=>?_;obtain⟨φ,h,p,rh,rv,po⟩:=h;unfold vSl at po;cases p with
 |str z=>cases rv;exact .inl ⟨z,rfl,po.ite.1,po.ite.2.val rh rfl⟩
 |tup xs=>
  obtain⟨a,vs,rfl,sa,ra⟩:=rv
  by_cases hw:HT.sIx vs.length 0 lo=0/\HT.sIx vs.length vs.length hi=vs.length
  ·refine .inr (.inr (.inr ⟨a,vs,rfl,sa,hw,po.val rh ⟨a,vs,rfl,sa,?_⟩⟩));have e:aT xs lo hi=xs:=by
    unfold aT;rw[ra.length,hw.1,hw.2,List.drop_zero,Nat.sub_zero,<-ra.length,Rb]
   rw[e];exact ra
  ·exact .inr (.inl ⟨a,vs,rfl,sa,hw,λp hp=>po.tnew rh (ra.cut lo hi) hp⟩)
 |ref n=>
  obtain⟨a,rfl,ha⟩:=rv;dsimp only at po;cases e:aN h n with
  |none=>rw[e]at po;exact po.elim
  |some xs=>
   rw[e]at po;obtain⟨a2,vs,ar,sa,ra⟩:=bZ rh e;rw[ha]at ar;cases ar;exact .inr (.inr (.inl ⟨a,vs,rfl,sa,λp hp=>po.lnew rh (ra.cut lo hi) hp⟩))
 |fl xs=>
  obtain⟨a,vs,rfl,sa,ra⟩:=rv;exact .inr (.inr (.inl ⟨a,vs,rfl,sa.sq,λp hp=>po.lnew rh (ra.cut lo hi) hp⟩))
 |_=>exact po.elim
abbrev Mo:=Ev->PH->Rs (Option Int)
def qN(C:MC)(φ:List Addr)(H:Hp)(r:Rs (Option Int))(Q:Option Int->Hp->Prop):Prop:=match r with
 |.ok b h=>∀φ' H',φ<+:φ'->Kp H H'->RH C φ' H' h->Q b H'
 |.exc x h=>∀φ' H',φ<+:φ'->Kp H H'->RH C φ' H' h->C.ex φ' H' x
 |.bad=>False
def rdO(C:MC)(m:Mo):TO:=λσ H Q=>∃φ δ h,RH C φ H h/\RE C φ H δ σ/\qN C φ H (m δ h) Q
def SO(C:MC)(k:Nat)(X:Cx)(e:Option Expr)(m:Mo):Prop:=Cxt C k X->PO X e (rdO C m)
def nL:Mo:=λ_ h=>.ok none h
def mP(m:Me):Mo:=λδ h=>(m δ h).bind λx h1=>match x with
 |.int i=>.ok (some i) h1
 |_=>.bad
theorem JY:SO C k X none nL:=λc pins s σ H Q I h=>by
 obtain⟨φ,δ,h,rh,re,p⟩:=h;exact GC pins s σ H Q I (p φ H zf (Kp.refl H) rh)
theorem JZ(h:SE C k X e m):SO C k X (some e) (mP m):=λc pins s σ H Q I q=>by
 refine Eb (h c) pins s σ H Q I ?_;obtain⟨φ,δ,h,rh,re,p⟩:=q;refine⟨φ,δ,h,rh,re,?_⟩;unfold mP at p;cases e':m δ h with
 |ok x h1=>
  rw[e']at p;intro φ' v H' p' t' a9 ak;cases x with
  |int i=>cases ak;exact p φ' H' p' t' a9
  |_=>exact p.elim
 |exc x h1=>rw[e']at p;exact p
 |bad=>rw[e']at p;exact p
def mSl(me:Me)(ml mh:Mo):Me:=λδ h=>(me δ h).bind λx h1=>(ml δ h1).bind λl h2=>(mh δ h2).bind λu h3=>vSl x l u h3
theorem qN.bind{r:Rs (Option Int)}{f:Option Int->PH->Rs PV}{Q:VK}(h:post C φ H (r.bind f) Q):qN C φ H r λb H1=>∃φ1 h1,φ<+:φ1/\Kp H H1/\RH C φ1 H1 h1/\post C φ1 H1 (f b h1) Q:=by
 cases r with
 |ok a h'=>exact λφ' H' p t rh=>⟨φ',h',p,t,rh,post.weak p t h⟩
 |exc a h'=>exact h
 |bad=>exact h
variable{Q':Option Int->Hp->Prop}
theorem qN.imp{r:Rs (Option Int)}{Q:Option Int->Hp->Prop}(h:qN C φ H r Q)(i:∀v H',Q v H'->Q' v H'):qN C φ H r Q':=by
 cases r with
 |ok a h'=>exact λφ' H' p t rh=>i a H' (h φ' H' p t rh)
 |exc a h'=>exact h
 |bad=>exact h
variable{hi lo:Option Expr}{me:Me}{mh ml:Mo}{p2:Pos}
theorem Oj(he:SE C k X e me)(hl:SO C k X lo ml)(hh:SO C k X hi mh):SE C k X (.Subscript e (.Slice lo hi none p2) pos) (mSl me ml mh):=λc=>
 (DY (JX c.K) (he c) (hl c) (hh c)).imp λσ H Q h=>by
  obtain⟨φ,δ,h,rh,re,p⟩:=h;refine⟨φ,δ,h,rh,re,(post.bind p).imp ?_⟩;rintro v H1 ⟨φ1,x,h1,p1,t1,aa,ae,q1⟩;refine⟨φ1,δ,h1,aa,re.mono p1 t1,(qN.bind q1).imp ?_⟩;rintro l H2 ⟨φ2,h2,p2,t2,aj,q2⟩;refine⟨φ2,δ,h2,aj,re.mono (p1.trans p2) (t1.trans t2),(qN.bind q2).imp ?_⟩;rintro u H3 ⟨φ3,h3,p3,t3,bq,q3⟩;exact⟨φ3,h3,x,bq,ae.mono (p2.trans p3) (t2.trans t3),q3⟩
abbrev Ma:=Ev->PH->Rs (List PV)
def aD:Ma:=λ_ h=>.ok [] h
def aA(m:Me)(ms:Ma):Ma:=λδ h=>(m δ h).bind λx h1=>(ms δ h1).bind λxs h2=>.ok (x::xs) h2
theorem PA.imp{t t':TA}(h:PA X es t)(i:∀σ H Q,t' σ H Q->t σ H Q):PA X es t':=λpos pins s σ H Q I q=>h pos pins s σ H Q I (i σ H Q q)
theorem Mf:SA C k X [] aD:=λc=>AR.imp λσ H Q h=>by
 obtain⟨φ,δ,h,rh,re,p⟩:=h;exact p φ [] H zf (Kp.refl H) rh trivial
theorem postA.imp{r:Rs (List PV)}{Q Q':List V->Hp->Prop}(h:postA C φ H r Q)(i:∀v H',Q v H'->Q' v H'):postA C φ H r Q':=by
 cases r with
 |ok a h'=>exact λφ' v H' p t rh rv=>i v H' (h φ' v H' p t rh rv)
 |exc a h'=>exact h
 |bad=>exact h
variable{ms:Ma}
theorem K0(he:SE C k X e m)(hs:SA C k X es ms)(hh:zx (e::es) X.env=(false,eval e X.env)::zx es X.env:=by rfl):SA C k X (e::es) (aA m ms):=λc=>(wQ (he c) (hs c) hh).imp λσ H Q h=>by
 obtain⟨φ,δ,h,rh,re,p⟩:=h;refine⟨φ,δ,h,rh,re,(post.bindA p).imp ?_⟩;rintro v H1 ⟨φ1,x,h1,p1,t1,aa,ae,q1⟩;refine⟨φ1,δ,h1,aa,re.mono p1 t1,(postA.bindA q1).imp ?_⟩;rintro vs H2 ⟨φ2,xs,h2,p2,t2,aj,b7,q2⟩;exact q2 φ2 (v::vs) H2 zf (Kp.refl H2) aj ⟨ae.mono p2 t2,b7⟩
def aX(ms:Ma):Me:=λδ h=>(ms δ h).bind λxs h1=>if xs.length<=zk then .ok (.tup xs) h1 else .bad
def eI(ms:Ma):Me:=λδ h=>(ms δ h).bind λxs h1=>if xs.length<=zk then .ok (.ref h1.length) (h1++[.lst xs]) else .bad
theorem Mh{x1}(hs:SA C k X es ms):SE C k X (.Tuple es x1 pos) (aX ms):=λc=>(Jp (hs c)).imp λσ H Q h=>by
 obtain⟨φ,δ,h,rh,re,p⟩:=h;refine⟨φ,δ,h,rh,re,(postA.bind p).imp ?_⟩;rintro vs H1 ⟨φ1,xs,h1,p1,t1,aa,ae,q1⟩;exact⟨by rw[<-ae.length];exact q1.ite.1,λp hp=>q1.ite.2.tnew aa ae hp⟩
theorem Mj(hs:SA C k X es ms):SE C k X (.List es pos) (eI ms):=λc=>(Jq (hs c)).imp λσ H Q h=>by
 obtain⟨φ,δ,h,rh,re,p⟩:=h;refine⟨φ,δ,h,rh,re,(postA.bind p).imp ?_⟩;rintro vs H1 ⟨φ1,xs,h1,p1,t1,aa,ae,q1⟩;exact⟨by rw[<-ae.length];exact q1.ite.1,λp hp=>q1.ite.2.lnew aa ae hp⟩
def bP:Me:=λ_ h=>.ok (.ref h.length) (h++[.dK []])
theorem He:SE C k X (.Dict [] [] pos) bP:=λc=>E7.imp λσ H Q h=>by
 obtain⟨φ,δ,h,rh,re,p⟩:=h;intro a ha;exact p (φ++[a]) (.ref a) _ (Pp _ _) (Kp.new ha) (rh.new ha ⟨[],aL,.nil⟩) ⟨a,rfl,by rw[<-rh.len];simp⟩
def mCB(g:List PV->PH->Rs PV)(ms:Ma):Me:=λδ h=>(ms δ h).bind g
theorem IJ{g:List PV->PH->Rs PV}{Q:VK}(h:rd C (mCB g ms) σ H Q):tCB (rL C g) (rdA C ms) σ H Q:=by
 obtain⟨φ,δ,h,rh,re,p⟩:=h;refine⟨φ,δ,h,rh,re,(postA.bind p).imp ?_⟩;rintro vs H1 ⟨φ1,xs,h1,p1,t1,aa,ae,q1⟩;exact⟨φ1,h1,xs,aa,ae,q1⟩
theorem nM{p:Pos}{id:String}{g:List PV->PH->Rs PV}(hc:nJ C k X (.builtin id) g)(hv:Q3 x=some (.builtin id))(ha:SA C k X (e::es) ms)(hb:x∈C.bs:=by decide)(hg:Gl X x:=by rfl)(hn:x≠"__name__" := by decide)(bf:(x == ("__debug__" : Str))=false:=by decide)(he:zx (e::es) X.env=(false,eval e X.env)::zx es X.env:=by rfl)(ay:(backTo pos (zx es X.env)).any (·.1)=false:=by rfl):SE C k X (.Call (.Name x p) (e::es) [] pos) (mCB g ms):=λc=>
 (DW (hc c) hg (c.bn x hb) hv (ha c) hn bf he ay).imp λσ H Q h=>IJ h
variable{T:String}
theorem A6{p:Pos}{g:List PV->PH->Rs PV}(hc:nJ C k X (.type T) g)(hv:Q3 x=some (.type T))(ha:SA C k X (e::es) ms)(hb:x∈C.bs:=by decide)(hg:Gl X x:=by rfl)(hn:x≠"__name__" := by decide)(bf:(x == ("__debug__" : Str))=false:=by decide)(he:zx (e::es) X.env=(false,eval e X.env)::zx es X.env:=by rfl)(ay:(backTo pos (zx es X.env)).any (·.1)=false:=by rfl):SE C k X (.Call (.Name x p) (e::es) [] pos) (mCB g ms):=λc=>
 (CF (hc c) hg (c.bn x hb) hv (ha c) hn bf he ay).imp λσ H Q h=>IJ h
def spM(C:MC)(n:Nat)(f:Fn):Sp:=λvs H Q _=>∃φ h ps,RH C φ H h/\RVs C φ H ps vs/\ps.length=n/\post C φ H (f ps h) Q
def aS(n:Nat)(f:Fn)(ms:Ma):Me:=λδ h=>(ms δ h).bind λps h1=>if ps.length=n then f ps h1 else .bad
variable{j:Nat}
theorem s_call{p:Pos}{f:Fn}(D:Def C.K X.mg x st a fd ps)(G:cD X.prog X.w C.K X.mg X.base CX0 j a fd ps (spM C n f))(ha:SA C k X (e::es) ms)(hj:j<=k:=by decide)(hg:Gl X x:=by rfl)(bf:(x == ("__debug__" : Str))=false:=by decide)(he:zx (e::es) X.env=(false,eval e X.env)::zx es X.env:=by rfl)(ay:(backTo pos (zx es X.env)).any (·.1)=false:=by rfl):
  SE C k X (.Call (.Name x p) (e::es) [] pos) (aS n f ms):=λc=>by
 have e1:=c.K;have D':Def X.K X.mg x st a fd ps:=by rw[e1];exact D
 have G':cD X.prog X.w X.K X.mg X.base CX0 j a fd ps (spM C n f):=by rw[e1];exact G
 refine(LK D' G' (c.room.mono hj) (ha c) hg bf he ay).imp λσ H Q h=>?_;obtain⟨φ,δ,h,rh,re,p⟩:=h;refine⟨φ,δ,h,rh,re,(postA.bind p).imp ?_⟩;rintro vs H1 ⟨φ1,xs,h1,p1,t1,aa,ae,q1⟩;refine⟨φ1,h1,xs,aa,by rw[Rk];exact ae,q1.ite.1,q1.ite.2⟩
def sO:List PV->PH->Rs PV:=λxs h=>match xs with
 |[.str y]=>if y.length<=zk then .ok (.int y.length) h else .bad
 |[.tup ys]=>.ok (.int ys.length) h
 |[.fl ys]=>.ok (.int ys.length) h
 |[.ref n]=>match aN h n with
  |some ys=>.ok (.int ys.length) h
  |none=>match h[n]? with
   |some (.dK kvs)=>.ok (.int kvs.length) h
   |_=>.bad
 |_=>.bad
theorem RVs.one{x:PV}(r:RVs C φ H [x] vs):∃v,vs=[v]/\RV C φ H x v:=by
 match vs,r with
 |[v],⟨h,_⟩=>exact⟨v,rfl,h⟩
 |[],h=>exact h.elim
 |_::_::_,⟨_,h⟩=>exact h.elim
theorem RVs.two{x y:PV}(r:RVs C φ H [x,y] vs):∃v w,vs=[v,w]/\RV C φ H x v/\RV C φ H y w:=by
 match vs,r with
 |[v,w],⟨h,h',_⟩=>exact⟨v,w,rfl,h,h'⟩
 |[],h=>exact h.elim
 |[_],⟨_,h⟩=>exact h.elim
 |_::_::_::_,⟨_,_,h⟩=>exact h.elim
set_option tactic.hygienic true in
theorem Ml:nJ C k X (.builtin "len") sO:=λc=>(CP C.K c.K).imp λvs H Q h=>by
 obtain⟨φ,h,ps,rh,rv,po⟩:=h;unfold sO at po;split at po
 ·obtain⟨v,rfl,rx⟩:=rv.one;cases rx
  exact⟨po.ite.1,po.ite.2.val rh rfl⟩
 ·obtain⟨v,rfl,rx⟩:=rv.one;obtain⟨a,vs,rfl,sa,ra⟩:=rx;exact .inl ⟨vs,.inr sa,by rw[<-ra.length];exact po.val rh rfl⟩
 ·obtain⟨v,rfl,rx⟩:=rv.one;obtain⟨a,vs,rfl,sa,ra⟩:=rx;exact .inl ⟨vs,.inl sa.sq,by rw[<-ra.length];exact po.val rh rfl⟩
 ·rename_i n;obtain⟨v,rfl,rx⟩:=rv.one;obtain⟨a,rfl,ha⟩:=rx;split at po
  ·rename_i ys e;obtain⟨a2,vs,ar,sa,ra⟩:=bZ rh e;rw[ha]at ar;cases ar;exact .inl ⟨vs,.inl sa,by rw[<-ra.length];exact po.val rh rfl⟩
  ·split at po
   ·rename_i kvs hk;obtain⟨ks,hH,rk⟩:=rh.at' n a _ ha hk;refine .inr ⟨ks,hH,?_⟩;have:ks.length=kvs.length:=(Pw rk).symm;rw[this];exact po.val rh rfl
   ·exact po.elim
 ·exact po.elim
def pC:List PV->PH->Rs PV:=λxs h=>match xs with
 |[.tup ys]=>.ok (.tup ys) h
 |[.fl ys]=>.ok (.tup ys) h
 |[.ref n]=>match aN h n with
  |some ys=>.ok (.tup ys) h
  |none=>.bad
 |_=>.bad
set_option tactic.hygienic true in
theorem Hf:nJ C k X (.type "tuple") pC:=λc=>(zU C.K c.K).imp λvs H Q h=>by
 obtain⟨φ,h,ps,rh,rv,po⟩:=h;unfold pC at po;split at po
 ·obtain⟨v,rfl,rx⟩:=rv.one;obtain⟨a,vs,rfl,sa,ra⟩:=rx;exact⟨a,vs,rfl,.inr ⟨sa,po.val rh ⟨a,vs,rfl,sa,ra⟩⟩⟩
 ·obtain⟨v,rfl,rx⟩:=rv.one;obtain⟨a,vs,rfl,sa,ra⟩:=rx;exact⟨a,vs,rfl,.inl ⟨sa.sq,λp hp=>po.tnew rh ra hp⟩⟩
 ·rename_i n;obtain⟨v,rfl,rx⟩:=rv.one;obtain⟨a,rfl,ha⟩:=rx;split at po
  ·rename_i ys e;obtain⟨a2,vs,ar,sa,ra⟩:=bZ rh e;rw[ha]at ar;cases ar;exact⟨a,vs,rfl,.inl ⟨sa,λp hp=>po.tnew rh ra hp⟩⟩
  ·exact po.elim
 ·exact po.elim
def vM:List PV->PH->Rs PV:=λxs h=>match xs with
 |[.tup ys]=>.ok (.ref h.length) (h++[.lst ys])
 |[.fl ys]=>.ok (.ref h.length) (h++[.lst ys])
 |[.ref n]=>match aN h n with
  |some ys=>.ok (.ref h.length) (h++[.lst ys])
  |none=>.bad
 |_=>.bad
set_option tactic.hygienic true in
theorem K1:nJ C k X (.type "list") vM:=λc=>(B1 C.K c.K).imp λvs H Q h=>by
 obtain⟨φ,h,ps,rh,rv,po⟩:=h;unfold vM at po;split at po
 ·obtain⟨v,rfl,rx⟩:=rv.one;obtain⟨a,vs,rfl,sa,ra⟩:=rx;exact⟨a,vs,rfl,.inr sa,λp hp=>po.lnew rh ra hp⟩
 ·obtain⟨v,rfl,rx⟩:=rv.one;obtain⟨a,vs,rfl,sa,ra⟩:=rx;exact⟨a,vs,rfl,.inl sa.sq,λp hp=>po.lnew rh ra hp⟩
 ·rename_i n;obtain⟨v,rfl,rx⟩:=rv.one;obtain⟨a,rfl,ha⟩:=rx;split at po
  ·rename_i ys e;obtain⟨a2,vs,ar,sa,ra⟩:=bZ rh e;rw[ha]at ar;cases ar;exact⟨a,vs,rfl,.inl sa,λp hp=>po.lnew rh ra hp⟩
  ·exact po.elim
 ·exact po.elim
def Ew:List PV->PH->Rs PV:=λxs h=>match xs with
 |[.int i,.int j]=>.ok (.int (if j>i then j else i)) h
 |_=>.bad
theorem Mm:nJ C k X (.builtin "max") Ew:=λc=>(CQ c.calm).imp λvs H Q h=>by
 obtain⟨φ,h,ps,rh,rv,po⟩:=h;unfold Ew at po;split at po
 ·obtain⟨v,w,rfl,rx,ry⟩:=rv.two;cases rx;cases ry;exact po.val rh rfl
 ·exact po.elim
open PySem PySem.Spec PyProof.Rows
variable{C:MC}{k:Nat}{X:Cx}
def Rs.fl{α:Type}(r:Rs α)(f:α->PH->Fl):Fl:=match r with
 |.ok a h=>f a h
 |.exc x h=>.exc x h
 |.bad=>.bad
@[simp]theorem Rs.fl_ok{α:Type}(a:α)(h:PH)(f:α->PH->Fl):(Rs.ok a h).fl f=f a h:=(rfl)
theorem post.fl{r:Rs PV}{f:PV->PH->Fl}{D:Ends}(h:bI C φ H (r.fl f) D):post C φ H r λv H1=>∃φ1 p h1,φ<+:φ1/\Kp H H1/\RH C φ1 H1 h1/\RV C φ1 H1 p v/\bI C φ1 H1 (f p h1) D:=by
 cases r with
 |ok a h'=>exact λφ' v H' p t rh rv=>⟨φ',a,h',p,t,rh,rv,bI.weak p t h⟩
 |exc a h'=>exact h
 |bad=>exact h
theorem bG.fl{r:Rs Bool}{f:Bool->PH->Fl}{D:Ends}(h:bI C φ H (r.fl f) D):bG C φ H r λb H1=>∃φ1 h1,φ<+:φ1/\Kp H H1/\RH C φ1 H1 h1/\bI C φ1 H1 (f b h1) D:=by
 cases r with
 |ok a h'=>exact λφ' H' p t rh=>⟨φ',h',p,t,rh,bI.weak p t h⟩
 |exc a h'=>exact h
 |bad=>exact h
theorem bI.nx{D:Ends}(q:bI C φ H (.nx δ h) D)(rh:RH C φ H h)(re:RE C φ H δ σ):D.nx σ H:=q φ σ H zf (Kp.refl H) rh re
theorem bI.rt{D:Ends}(q:bI C φ H (.rt p h) D)(rh:RH C φ H h)(rv:RV C φ H p v):D.rt v H:=q φ v H zf (Kp.refl H) rh rv
abbrev Mg:=PV->Ev->Option Ev
abbrev Mgs:=List PV->Ev->Option Ev
def rdG(C:MC)(t:Mg):TG:=λv σ H Q=>∃φ δ h p δ',RH C φ H h/\RE C φ H δ σ/\RV C φ H p v/\t p δ=some δ'/\∀σ',RE C φ H δ' σ'->Q σ' H
def Ol(C:MC)(t:Mgs):TGs:=λvs σ H Q=>∃φ δ h ps δ',RH C φ H h/\RE C φ H δ σ/\RVs C φ H ps vs/\t ps δ=some δ'/\∀σ',RE C φ H δ' σ'->Q σ' H
def SG(C:MC)(k:Nat)(X:Cx)(e:Expr)(t:Mg):Prop:=Cxt C k X->PG X e (rdG C t)
def SGs(C:MC)(k:Nat)(X:Cx)(es:List Expr)(t:Mgs):Prop:=Cxt C k X->PGs X es (Ol C t)
def gN(i:Nat):Mg:=λp δ=>some (δ.set i (some p))
def gNl:Mgs:=λps δ=>match ps with
 |[]=>some δ
 |_::_=>none
def gCn(t:Mg)(u:Mgs):Mgs:=λps δ=>match ps with
 |p::r=>(t p δ).bind (u r)
 |[]=>none
def gTp(n:Nat)(u:Mgs):Mg:=λp δ=>match p with
 |.tup ps=>if ps.length=n then u ps δ else none
 |_=>none
theorem PG.imp{t t':TG}(h:PG X e t)(i:∀v σ H Q,t' v σ H Q->t v σ H Q):PG X e t':=λpins s σ H v u Q I r q=>h pins s σ H v u Q I r (i v σ H Q q)
theorem PGs.imp{t t':TGs}(h:PGs X es t)(i:∀v σ H Q,t' v σ H Q->t v σ H Q):PGs X es t':=λpins s σ H v u Q I r q=>h pins s σ H v u Q I r (i v σ H Q q)
theorem K2(hN:X.N.Nodup)(hi:X.N[i]?=some x:=by rfl)(hx:Loc X.env.scope x:=by first|exact Or.inl rfl|exact Or.inr rfl)(hf:X.fn x=true\/X.env.scope.names.lookup x=some .local:=by first|exact .inl rfl|exact .inr rfl):SG C k X (.Name x pos) (gN i):=λc=>
 (Gk hN hi hx hf).imp λv σ H Q h=>by
  obtain⟨φ,δ,h,p,δ',rh,re,rv,e,q⟩:=h;cases e
  exact q _ (re.set rv i)
theorem Mn:SGs C k X [] gNl:=λc=>Gm.imp λv σ H Q h=>by
 obtain⟨φ,δ,h,ps,δ',rh,re,rv,e,q⟩:=h;cases ps with
 |nil=>
  cases e
  cases v with
  |nil=>exact⟨rfl,q σ re⟩
  |cons=>exact rv.elim
 |cons=>cases e
theorem K3{t:Mg}{u:Mgs}(h1:SG C k X e t)(h2:SGs C k X es u)(hs:(QG (e::es) X.env).map (·.2)=assign e X.env::(QG es X.env).map (·.2):=by rfl):SGs C k X (e::es) (gCn t u):=λc=>
 (DH (h1 c) (h2 c) hs).imp λvs σ H Q h=>by
  obtain⟨φ,δ,h,ps,δ',rh,re,rv,e,q⟩:=h;cases ps with
  |nil=>cases e
  |cons p r=>
   cases vs with
   |nil=>exact rv.elim
   |cons v vs=>
    obtain⟨δ1,e1,e2⟩:=Option.bind_eq_some_iff.mp (show(t p δ).bind (u r)=some δ' from e)
    exact⟨v,vs,rfl,φ,δ,h,p,δ1,rh,re,rv.1,e1,λσ' n9=>⟨φ,δ1,h,r,δ',rh,n9,rv.2,e2,q⟩⟩
theorem Mp{u:Mgs}(h:SGs C k X es u)(hn:(QG es X.env).length=n:=by rfl)(cg:(QG es X.env).findIdx? (·.1)=none:=by rfl):SG C k X (.Tuple es j pos) (gTp n u):=λc=>
 (gT C.K c.K c.calm (h c) hn cg).imp λv σ H Q h=>by
  obtain⟨φ,δ,h,p,δ',rh,re,rv,e,q⟩:=h;cases p with
  |tup ps=>
   obtain⟨a,vs,rfl,sa,ra⟩:=rv
   by_cases hl:ps.length=n
   ·have e':u ps δ=some δ':=by
     have:(if ps.length=n then u ps δ else none)=some δ':=e;rw[if_pos hl]at this;exact this
    exact⟨a,vs,rfl,sa,by rw[<-ra.length];exact hl,φ,δ,h,ps,δ',rh,re,ra,e',q⟩
   ·have:(if ps.length=n then u ps δ else none)=some δ':=e;rw[if_neg hl]at this;cases this
  |_=>cases e
theorem PS.imp{t t':TS}(h:PS X st t)(i:∀D σ H,t' D σ H->t D σ H):PS X st t':=λpins s σ H D I q=>h pins s σ H D I (i D σ H q)
theorem PSs.imp{st:List Stmt}{t t':TS}(h:PSs X st t)(i:∀D σ H,t' D σ H->t D σ H):PSs X st t':=λpins s σ H D I q=>h pins s σ H D I (i D σ H q)
def aE(a b:Ms):Ms:=λδ h=>match a δ h with
 |.nx δ1 h1=>b δ1 h1
 |r=>r
def bA:Ms:=λδ h=>.nx δ h
def xO:Ms:=λδ h=>.ct δ h
def aO(i:Nat)(m:Me):Ms:=λδ h=>(m δ h).fl λp h1=>.nx (δ.set i (some p)) h1
def nN(m:Me)(t:Mg):Ms:=λδ h=>(m δ h).fl λp h1=>match t p δ with
 |some δ'=>.nx δ' h1
 |none=>.bad
def jH(m:Me):Ms:=λδ h=>(m δ h).fl λ_ h1=>.nx δ h1
def aU(m:Me):Ms:=λδ h=>(m δ h).fl λp h1=>.rt p h1
def aV(t:Ev->PH->Rs Bool)(a b:Ms):Ms:=λδ h=>(t δ h).fl λc h1=>match c with
 |true=>a δ h1
 |false=>b δ h1
theorem K4:SSs C k X [] bA:=λc=>Gh.imp λD σ H h=>by
 obtain⟨φ,δ,h,rh,re,p⟩:=h;exact p.nx rh re
theorem K5{r:Fl}{b:Ms}{D:Ends}(h:bI C φ H (match r with|.nx δ1 h1=>b δ1 h1|r=>r) D):bI C φ H r { D with nx:=rdS C b D }:=by
 cases r with
 |nx δ h'=>exact λφ' σ H' p t rh re=>⟨φ',δ,h',rh,re,bI.weak p t h⟩
 |rt p h'=>exact h
 |bk δ h'=>exact h
 |ct δ h'=>exact h
 |exc x h'=>exact h
 |bad=>exact h
theorem Hg{rest:List Stmt}{a:Ms}{b:Ms}(h1:SSt C k X st a)(h2:SSs C k X rest b):SSs C k X (st::rest) (aE a b):=λc=>(DF (h1 c) (h2 c)).imp λD σ H h=>by
 obtain⟨φ,δ,h,rh,re,p⟩:=h;exact⟨φ,δ,h,rh,re,K5 p⟩
theorem K6{a:Ms}(h1:SSt C k X st a):SSs C k X [st] a:=λc=>Gi (h1 c)
theorem Mq:SSt C k X (.Continue pos) xO:=λc=>zI.imp λD σ H h=>by
 obtain⟨φ,δ,h,rh,re,p⟩:=h;exact p φ σ H zf (Kp.refl H) rh re
theorem Mr(hN:X.N.Nodup)(he:SE C k X e m)(hi:X.N[i]?=some x:=by rfl)(hx:Loc X.env.scope x:=by first|exact Or.inl rfl|exact Or.inr rfl)(hs:RS e (some (.Name x pos')) pos.line X.env=pure false:=by rfl)(hf:X.fn x=true\/X.env.scope.names.lookup x=some .local:=by first|exact .inl rfl|exact .inr rfl):SSt C k X (.Assign [.Name x pos'] e pos) (aO i m):=λc=>(Jd hN hi hx (he c) hs hf).imp λD σ H h=>by
 obtain⟨φ,δ,h,rh,re,p⟩:=h;refine⟨φ,δ,h,rh,re,(post.fl p).imp ?_⟩;rintro v H1 ⟨φ1,x,h1,p1,t1,aa,ae,q1⟩;exact q1.nx aa ((re.mono p1 t1).set ae i)
theorem Mt{t:Mg}(he:SE C k X e m)(hg:SG C k X tg t)(hs:swapsWithSole [tg] e pos.line X.env=pure false:=by rfl)(hw:swappedStores [tg] e X.env=pure none:=by rfl)(h1:(QG [tg] X.env).map (·.2)=[assign tg X.env]:=by rfl):SSt C k X (.Assign [tg] e pos) (nN m t):=λc=>(Jc (he c) (hg c) hs hw h1).imp λD σ H h=>by
 obtain⟨φ,δ,h,rh,re,p⟩:=h;refine⟨φ,δ,h,rh,re,(post.fl p).imp ?_⟩;rintro v H1 ⟨φ1,x,h1,p1,t1,aa,ae,q1⟩;cases et:t x δ with
 |none=>rw[et]at q1;exact q1.elim
 |some δ'=>
  rw[et]at q1;exact⟨φ1,δ,h1,x,δ',aa,re.mono p1 t1,ae,et,λσ' n9=>q1.nx aa n9⟩
theorem Mu(he:SE C k X e m)(hs:RS e none pos.line X.env=pure false:=by rfl):SSt C k X (.Expr e pos) (jH m):=λc=>(Gj (he c) hs).imp λD σ H h=>by
 obtain⟨φ,δ,h,rh,re,p⟩:=h;refine⟨φ,δ,h,rh,re,(post.fl p).imp ?_⟩;rintro v H1 ⟨φ1,x,h1,p1,t1,aa,ae,q1⟩;exact q1.nx aa (re.mono p1 t1)
theorem Mv(he:SE C k X e m):SSt C k X (.Return (some e) pos) (aU m):=λc=>(J' (he c)).imp λD σ H h=>by
 obtain⟨φ,δ,h,rh,re,p⟩:=h;refine⟨φ,δ,h,rh,re,(post.fl p).imp ?_⟩;rintro v H1 ⟨φ1,x,h1,p1,t1,aa,ae,q1⟩;exact q1.rt aa ae
variable{as:List Stmt}{k8:Expr}
theorem Om{a:Ms}{b:Ms}{bs:List Stmt}{t:Ev->PH->Rs Bool}(hc:ST C k X k8 t)(ha:SSs C k X as a)(hb:SSs C k X bs b):SSt C k X (.If k8 as bs pos) (aV t a b):=λc=>(Lh (hc c) (ha c) (hb c)).imp λD σ H h=>by
 obtain⟨φ,δ,h,rh,re,p⟩:=h;refine⟨φ,δ,h,rh,re,(bG.fl p).imp ?_⟩;rintro d H1 ⟨φ1,h1,p1,t1,aa,q1⟩;cases d with
 |true=>exact AZ ⟨φ1,δ,h1,aa,re.mono p1 t1,q1⟩
 |false=>exact AY ⟨φ1,δ,h1,aa,re.mono p1 t1,q1⟩
structure Wk where
 xs:List PV
 g:PH->Bool
def D6(C:MC)(J:It)(w:Wk)(φ0:List Addr)(H0:Hp):Prop:=∀φ H h,φ0<+:φ->Kp H0 H->RH C φ H h->w.g h=true->∀i:Nat,
 (i<w.xs.length->J.go i H/\∀x H',J.yld i H x H'->(∃p,w.xs[i]?=some p/\RV C φ H' p x)/\Kp H H'/\RH C φ H' h)/\(w.xs.length<=i->J.stop i H)
abbrev Mi:=Ev->PH->Rs Wk
def cU(C:MC)(φ:List Addr)(H:Hp)(r:Rs Wk)(R:It->Hp->Prop):Prop:=match r with
 |.ok w h=>∀φ' H' J,φ<+:φ'->Kp H H'->RH C φ' H' h->D6 C J w φ' H'->R J H'
 |.exc x h=>∀φ' H',φ<+:φ'->Kp H H'->RH C φ' H' h->C.ex φ' H' x
 |.bad=>False
def rdI(C:MC)(m:Mi):TI:=λσ H R=>∃φ δ h,RH C φ H h/\RE C φ H δ σ/\cU C φ H (m δ h) R
def SI(C:MC)(k:Nat)(X:Cx)(tg iter:Expr)(m:Mi):Prop:=Cxt C k X->PI X tg iter (rdI C m)
def Be(n:Nat)(xs:List PV)(h':PH):Bool:=match aN h' n with
 |some ys=>PV.beqs ys xs
 |none=>false
def ofSeq(x:PV)(h:PH):Rs Wk:=match x with
 |.tup xs=>.ok ⟨xs,λ_=>true⟩ h
 |.ref n=>match aN h n with
  |some xs=>.ok ⟨xs,Be n xs⟩ h
  |none=>.bad
 |.fl xs=>.ok ⟨xs,λ_=>true⟩ h
 |_=>.bad
def bB(m:Me):Mi:=λδ h=>(m δ h).bind ofSeq
theorem Mw(h:SE C k X iter m):SI C k X tg iter (bB m):=λc=>by
 intro pins s σ H R I q;obtain⟨φ,δ,hh,rh,re,p⟩:=q;have key:rd C m σ H λv H1=>∃φ1 x h1,φ<+:φ1/\Kp H H1/\RH C φ1 H1 h1/\RV C φ1 H1 x v/\cU C φ1 H1 (ofSeq x h1) R:=by
  refine⟨φ,δ,hh,rh,re,?_⟩;unfold bB at p;cases e:m δ hh with
  |ok x h1=>
   rw[e]at p;intro φ' v H' p' t' a9 ak;refine⟨φ',x,h1,p',t',a9,ak,?_⟩
   show cU C φ' H' (ofSeq x h1) R
   have p0:cU C φ H (ofSeq x h1) R:=p;cases e2:ofSeq x h1 with
   |ok w h2=>rw[e2]at p0;exact λφ2 H2 J p2 t2=>p0 φ2 H2 J (p'.trans p2) (t'.trans t2)
   |exc z h2=>rw[e2]at p0;exact λφ2 H2 p2 t2=>p0 φ2 H2 (p'.trans p2) (t'.trans t2)
   |bad=>rw[e2]at p0;exact p0
  |exc x h1=>rw[e]at p;exact p
  |bad=>rw[e]at p;exact p
 refine thn (h c pins s σ H _ I key) λv s1 hz=>?_;obtain⟨x,H1,I1,r1,φ1,x',h1,p1,t1,aa,ae,q1⟩:=hz;unfold ofSeq at q1;cases x' with
 |tup xs=>
  obtain⟨a,vs,rfl,sa,ra⟩:=ae;cases r1
  rw[<-c.K]at sa;obtain⟨its,rv,p,hz⟩:=I1.tuple sa;refine wpAny_pyIter_tuple (show s1.heap.IsTuple a its.toArray from p) ?_
  refine⟨s1.heap.objs.size,[s1.heap.objs.size],_,_,H1,rfl,I1.kept (t':=s1.toks) λb o e=>y0 _ e,AG a _,⟨_,zj _ rfl,rfl,rfl⟩,λb hb=>?_,?_⟩
  ·have e:b=s1.heap.objs.size:=by simpa using hb
   subst e;exact I1.fpOk (zb _) (I1.hok.fresh (zb _))
  ·refine q1 φ1 H1 (Itt X.K a) zf (Kp.refl H1) aa λφ2 H2 h2 p2 t2 aj _ i=>⟨λhi=>?_,λhi=>⟨vs,t2.sq sa,by rw[<-ra.length];exact hi⟩⟩;have ax:i<vs.length:=by rw[<-ra.length];exact hi
   refine⟨⟨vs,vs[i],t2.sq sa,by simp[ax]⟩,λx H' y=>?_⟩;obtain⟨e,y⟩:=y;subst e;obtain⟨x2,e2,r2⟩:=ra.get (y vs (t2.sq sa));exact⟨⟨x2,e2,r2.mono p2 t2⟩,Kp.refl _,aj⟩
 |ref n=>
  obtain⟨a,rfl,ha⟩:=ae;cases r1
  dsimp only at q1;cases e:aN h1 n with
  |none=>rw[e]at q1;exact q1.elim
  |some xs=>
   rw[e]at q1;obtain⟨a2,vs,ar,sa,ra⟩:=bZ aa e;rw[ha]at ar;cases ar;have kb:SqL X.K H1 a vs:=by rw[c.K];exact sa
   obtain⟨its,rv,p,hz⟩:=I1.list kb;refine wpAny_pyIter_list p.isList ?_;refine⟨s1.heap.objs.size,[s1.heap.objs.size],_,_,H1,rfl,I1.kept (t':=s1.toks) λb o e=>y0 _ e,uP a _,⟨_,zj _ rfl,rfl,rfl⟩,λb hb=>?_,?_⟩
   ·have e:b=s1.heap.objs.size:=by simpa using hb
    subst e;exact I1.fpOk (zb _) (I1.hok.fresh (zb _))
   ·refine q1 φ1 H1 (Itl X.K a) zf (Kp.refl H1) aa λφ2 H2 h2 p2 t2 aj hg i=>?_;have hg:(match aN h2 n with|some ys=>PV.beqs ys xs|none=>false)=true:=hg
    cases e2:aN h2 n with
    |none=>rw[e2]at hg;cases hg
    |some ys=>
     rw[e2]at hg;have w4:=PV.beqs_eq hg;subst w4;obtain⟨a3,us,uj,su,ru⟩:=bZ aj e2;rw[fK p2 ha]at uj;cases uj;rw[<-c.K]at su;refine⟨λhi=>?_,λhi=>⟨us,su,by rw[<-ru.length];exact hi⟩⟩;have ax:i<us.length:=by rw[<-ru.length];exact hi
     refine⟨⟨us,us[i],su,by simp[ax]⟩,λx H' y=>?_⟩;obtain⟨e,y⟩:=y;subst e;obtain⟨x2,e2,r2⟩:=ru.get (y us su);exact⟨⟨x2,e2,r2⟩,Kp.refl _,aj⟩
 |fl xs=>
  obtain⟨a,vs,rfl,sa,ra⟩:=ae;cases r1
  rw[<-c.K]at sa;obtain⟨its,rv,p,hz⟩:=I1.list sa.sq;refine wpAny_pyIter_list p.isList ?_;refine⟨s1.heap.objs.size,[s1.heap.objs.size],_,_,H1,rfl,I1.kept (t':=s1.toks) λb o e=>y0 _ e,uP a _,⟨_,zj _ rfl,rfl,rfl⟩,λb hb=>?_,?_⟩
  ·have e:b=s1.heap.objs.size:=by simpa using hb
   subst e;exact I1.fpOk (zb _) (I1.hok.fresh (zb _))
  ·refine q1 φ1 H1 (Itl X.K a) zf (Kp.refl H1) aa λφ2 H2 h2 p2 t2 aj _ i=>⟨λhi=>?_,λhi=>⟨vs,(t2.sf sa).sq,by rw[<-ra.length];exact hi⟩⟩;have ax:i<vs.length:=by rw[<-ra.length];exact hi
   refine⟨⟨vs,vs[i],(t2.sf sa).sq,by simp[ax]⟩,λx H' y=>?_⟩;obtain⟨e,y⟩:=y;subst e;obtain⟨x2,e2,r2⟩:=ra.get (y vs (t2.sf sa).sq);exact⟨⟨x2,e2,r2.mono p2 t2⟩,Kp.refl _,aj⟩
 |_=>exact q1.elim
def upTo(lo:Int):Nat->List PV
 |0=>[]
 |n+1=>.int lo::upTo (lo+1) n
theorem eZ:∀(n:Nat)(lo:Int),(upTo lo n).length=n
 |0,_=>rfl
 |n+1,lo=>by simp[upTo,eZ n]
theorem sP:∀(n:Nat)(lo:Int)(i:Nat),i<n->(upTo lo n)[i]?=some (.int (lo+i))
 |0,_,_,h=>by omega
 |n+1,lo,0,_=>by simp[upTo]
 |n+1,lo,i+1,h=>by
  simp only[upTo,Qa];rw[sP n (lo+1) i (by omega)]
  congr 2
  omega
open Classical in
noncomputable def Ex:List PV->PH->Rs Wk:=λxs h=>match xs with
 |[.int j]=>if -(2 ^ 62)<=j/\j<2 ^ 62 then .ok ⟨upTo 0 j.toNat,λ_=>true⟩ h else .bad
 |_=>.bad
noncomputable def vN(ms:Ma):Mi:=λδ h=>(ms δ h).bind Ex
theorem K7(lo:Int)(n:Nat)(φ:List Addr)(H:Hp):D6 C (Itr lo n) ⟨upTo lo n,λ_=>true⟩ φ H:=λφ2 H2 h2 p2 t2 aj _ i=>by
 refine⟨λhi=>?_,λhi=>?_⟩
 ·have ax:i<n:=by rw[<-eZ n lo];exact hi
  refine⟨ax,λx H' y=>?_⟩;obtain⟨e,y⟩:=y;subst e y;exact⟨⟨.int (lo+i),sP n lo i ax,rfl⟩,Kp.refl _,aj⟩
 ·have:(upTo lo n).length<=i:=hi;rw[eZ]at this;exact this
variable{R:It->Hp->Prop}
theorem postA.bindI{r:Rs (List PV)}{f:List PV->PH->Rs Wk}(h:cU C φ H (r.bind f) R):postA C φ H r λvs H1=>∃φ1 ps h1,φ<+:φ1/\Kp H H1/\RH C φ1 H1 h1/\RVs C φ1 H1 ps vs/\cU C φ1 H1 (f ps h1) R:=by
 cases r with
 |ok a h'=>
  intro φ' v H' p' t' rh rv;refine⟨φ',a,h',p',t',rh,rv,?_⟩;have p0:cU C φ H (f a h') R:=h;cases e2:f a h' with
  |ok w h2=>rw[e2]at p0;exact λφ2 H2 J p2 t2=>p0 φ2 H2 J (p'.trans p2) (t'.trans t2)
  |exc z h2=>rw[e2]at p0;exact λφ2 H2 p2 t2=>p0 φ2 H2 (p'.trans p2) (t'.trans t2)
  |bad=>rw[e2]at p0;exact p0
 |exc a h'=>exact h
 |bad=>exact h
theorem PI.imp{t t':TI}(h:PI X tg iter t)(i:∀σ H R,t' σ H R->t σ H R):PI X tg iter t':=λpins s σ H R I q=>h pins s σ H R I (i σ H R q)
set_option tactic.hygienic true in
theorem K8{x:Expr}{p:Pos}(ha:SA C k X [x] ms)(hb:("range" : Str)∈C.bs:=by decide)(hg:Gl X "range" := by rfl)(hs:zx [x] X.env=[(false,eval x X.env)]:=by rfl):SI C k X tg (.Call (.Name "range" p) [x] [] pos) (vN ms):=λc=>
 (pr1 hg (c.bn _ hb) (ha c) hs).imp λσ H R h=>by
  obtain⟨φ,δ,h,rh,re,p⟩:=h;refine⟨φ,δ,h,rh,re,(postA.bindI p).imp ?_⟩;rintro vs H1 ⟨φ1,xs,h1,p1,t1,aa,ae,q1⟩;unfold Ex at q1;split at q1
  ·obtain⟨v,rfl,rx⟩:=ae.one;cases rx
   rename_i j
   by_cases hj:-(2 ^ 62)<=j/\j<2 ^ 62
   ·rw[if_pos hj]at q1;exact⟨hj,q1 φ1 H1 _ zf (Kp.refl _) aa (K7 0 j.toNat φ1 H1)⟩
   ·rw[if_neg hj]at q1;exact q1.elim
  ·exact q1.elim
def fB(g:PH->Bool)(tg:Mg)(body:Ms):List PV->Ev->PH->Fl
 |[],δ,h=>if g h=true then .nx δ h else .bad
 |x::xs,δ,h=>if g h=true then(match tg x δ with
  |none=>.bad
  |some δ1=>match body δ1 h with
   |.nx δ2 h2=>fB g tg body xs δ2 h2
   |.ct δ2 h2=>fB g tg body xs δ2 h2
   |.bk δ2 h2=>.nx δ2 h2
   |r=>r) else .bad
def eC(mi:Mi)(tg:Mg)(body:Ms):Ms:=λδ h=>(mi δ h).fl λw h1=>fB w.g tg body w.xs δ h1
theorem cU.fl{r:Rs Wk}{f:Wk->PH->Fl}{D:Ends}(h:bI C φ H (r.fl f) D):cU C φ H r λJ H1=>∃φ1 w h1,φ<+:φ1/\Kp H H1/\RH C φ1 H1 h1/\D6 C J w φ1 H1/\bI C φ1 H1 (f w h1) D:=by
 cases r with
 |ok a h'=>exact λφ' H' J p t rh wk=>⟨φ',a,h',p,t,rh,wk,bI.weak p t h⟩
 |exc a h'=>exact h
 |bad=>exact h
theorem cU.imp{r:Rs Wk}{Q Q':It->Hp->Prop}(h:cU C φ H r Q)(i:∀v H',Q v H'->Q' v H'):cU C φ H r Q':=by
 cases r with
 |ok a h'=>exact λφ' H' J p t rh wk=>i J H' (h φ' H' J p t rh wk)
 |exc a h'=>exact h
 |bad=>exact h
theorem drop_cons{α:Type}{xs:List α}{p:α}(h:xs[i]?=some p):xs.drop i=p::xs.drop (i+1):=by
 obtain⟨h1,h2⟩:=yx.mp h;rw[List.drop_eq_getElem_cons h1,h2]
variable{H0:Hp}{J:It}{φ0:List Addr}
theorem Hh{w:Wk}{tg:Mg}{body:Ms}{D:Ends}(wk:D6 C J w φ0 H0)(rh:RH C φ0 H0 h)(re:RE C φ0 H0 δ σ)(p:bI C φ0 H0 (fB w.g tg body w.xs δ h) D):
  ∃W:Nat->Nat->St->Hp->Prop,(∃m,W 0 m σ H0)/\∀i m σ H,W i m σ H->
   (J.stop i H/\D.nx σ H)\/(J.go i H/\∃N:St->Hp->Prop,(∀σ' H',N σ' H'->∃m',m'<m/\W (i+1) m' σ' H')/\∀x H',J.yld i H x H'->rdG C tg x σ H' λσ2 H2=>rdS C body { D with nx:=N,ct:=N,bk:=D.nx } σ2 H2):=by
 refine⟨λi m σ H=>m=w.xs.length-i/\i<=w.xs.length/\∃φ δ h,φ0<+:φ/\Kp H0 H/\RH C φ H h/\RE C φ H δ σ/\bI C φ H (fB w.g tg body (w.xs.drop i) δ h) D,
  ⟨w.xs.length,by simp,zz _,φ0,δ,h,zf,Kp.refl _,rh,re,by rw[List.drop_zero];exact p⟩,?_⟩
 rintro i m σ H ⟨rfl,hi,φ,δ,h,pp,tt,rh,re,p⟩
 by_cases aw:i<w.xs.length
 ·have hd:w.xs.drop i=w.xs[i]::w.xs.drop (i+1):=drop_cons (by simp[aw]);rw[hd]at p;unfold fB at p
  by_cases hg:w.g h=true
  ·rw[if_pos hg]at p;obtain⟨go,step⟩:=(wk φ H h pp tt rh hg i).1 aw;refine .inr ⟨go,λσ' H'=>∃φ δ h,φ0<+:φ/\Kp H0 H'/\RH C φ H' h/\RE C φ H' δ σ'/\bI C φ H' (fB w.g tg body (w.xs.drop (i+1)) δ h) D,λσ' H' ⟨φ',δ',h',q⟩=>⟨w.xs.length-(i+1),by omega,rfl,aw,φ',δ',h',q⟩,λx H' y=>?_⟩;obtain⟨⟨q,eq,rv⟩,t1,aa⟩:=step x H' y;have p8:w.xs[i]=q:=by
    have:w.xs[i]?=some w.xs[i]:=by simp[aw]
    rw[this]at eq;exact zy eq
   rw[p8]at p;cases et:tg q δ with
   |none=>rw[et]at p;exact p.elim
   |some δ1=>
    rw[et]at p;dsimp only at p;refine⟨φ,δ,h,q,δ1,aa,re.mono zf t1,rv,et,λσ2 n4=>⟨φ,δ1,h,aa,n4,?_⟩⟩;have p:=bI.weak zf t1 p;cases eb:body δ1 h with
    |nx δ2 h2=>rw[eb]at p;exact λφ3 σ3 H3 p3 t3 bq jr=>⟨φ3,δ2,h2,pp.trans p3,(tt.trans t1).trans t3,bq,jr,bI.weak p3 t3 p⟩
    |ct δ2 h2=>rw[eb]at p;exact λφ3 σ3 H3 p3 t3 bq jr=>⟨φ3,δ2,h2,pp.trans p3,(tt.trans t1).trans t3,bq,jr,bI.weak p3 t3 p⟩
    |bk δ2 h2=>rw[eb]at p;exact p
    |rt z h2=>rw[eb]at p;exact p
    |exc z h2=>rw[eb]at p;exact p
    |bad=>rw[eb]at p;exact p
  ·rw[if_neg hg]at p;exact p.elim
 ·have e:i=w.xs.length:=by omega
  subst e;rw[List.drop_length]at p;unfold fB at p
  by_cases hg:w.g h=true
  ·rw[if_pos hg]at p;exact .inl ⟨(wk φ H h pp tt rh hg _).2 (zb _),p.nx rh re⟩
  ·rw[if_neg hg]at p;exact p.elim
variable{body:List Stmt}{mi:Mi}
theorem Mx{t:Mg}{mb:Ms}(hi:SI C k X tg iter mi)(hg:SG C k X tg t)(hb:SSs C k X body mb)(hp:PassesOwn (model X.prog X.w) X.A X.env X.xe:=by exact PassesOwn.never)(hs:∀x,P4 iter X.env x=pure x:=by intro _;rfl):SSt C k X (.For tg iter body [] pos) (eC mi t mb):=λc=>(Jf hp c.calm (hi c) (hg c) (hb c) hs).imp λD σ H h=>by
 obtain⟨φ,δ,h,rh,re,p⟩:=h;refine⟨φ,δ,h,rh,re,(cU.fl p).imp ?_⟩;rintro J H1 ⟨φ1,w,h1,p1,t1,aa,wk,q1⟩;exact Hh wk aa (re.mono p1 t1) q1
def vO(t:Ev->PH->Rs Bool)(body:Ms):Nat->Ev->PH->Fl
 |0,_,_=>.bad
 |n+1,δ,h=>(t δ h).fl λb h1=>match b with
  |false=>.nx δ h1
  |true=>match body δ h1 with
   |.nx δ2 h2=>vO t body n δ2 h2
   |.ct δ2 h2=>vO t body n δ2 h2
   |.bk δ2 h2=>.nx δ2 h2
   |r=>r
def pD(n:Nat)(t:Ev->PH->Rs Bool)(body:Ms):Ms:=vO t body n
theorem Hi{t:Ev->PH->Rs Bool}{mb:Ms}(hc:ST C k X k8 t)(hb:SSs C k X body mb)(hp:PassesOwn (model X.prog X.w) X.A X.env X.xe:=by exact PassesOwn.never):SSt C k X (.While k8 body [] pos) (pD n t mb):=λc=>
 (DK hp (hc c) (hb c)).imp λD σ H h=>by
  refine⟨λm σ H=>∃φ δ h,RH C φ H h/\RE C φ H δ σ/\bI C φ H (vO t mb m δ h) D,⟨n,h⟩,?_⟩;rintro m σ H ⟨φ,δ,h,rh,re,p⟩;cases m with
  |zero=>exact p.elim
  |succ m=>
   refine⟨φ,δ,h,rh,re,(bG.fl p).imp ?_⟩;rintro b H1 ⟨φ1,h1,p1,t1,aa,q1⟩;cases b with
   |false=>exact AY (q1.nx aa (re.mono p1 t1))
   |true=>
    refine AZ ⟨λσ' H'=>∃φ δ h,RH C φ H' h/\RE C φ H' δ σ'/\bI C φ H' (vO t mb m δ h) D,λσ' H' q=>⟨m,RJ m,q⟩,φ1,δ,h1,aa,re.mono p1 t1,?_⟩;dsimp only at q1;cases eb:mb δ h1 with
    |nx δ2 h2=>rw[eb]at q1;exact λφ3 σ3 H3 p3 t3 bq jr=>⟨φ3,δ2,h2,bq,jr,bI.weak p3 t3 q1⟩
    |ct δ2 h2=>rw[eb]at q1;exact λφ3 σ3 H3 p3 t3 bq jr=>⟨φ3,δ2,h2,bq,jr,bI.weak p3 t3 q1⟩
    |bk δ2 h2=>rw[eb]at q1;exact q1
    |rt z h2=>rw[eb]at q1;exact q1
    |exc z h2=>rw[eb]at q1;exact q1
    |bad=>rw[eb]at q1;exact q1
open PySem PySem.Spec PyProof.Rows
variable{C:MC}{k:Nat}{X:Cx}
def gR(js:List (Option Nat))(δ:Ev):Ev:=js.map λo=>match o with
 |none=>none
 |some j=>xJ δ j
theorem BW:∀{σ:St}{i:Nat}{v:V},σ[i]?=some (some v)->E8 σ i=some v
 |[],_,_,h=>by simp at h
 |x::_,0,v,h=>by
  have:x=some v:=by simpa using h
  exact this
 |_::r,n+1,v,h=>BW (σ:=r) (i:=n) (by simpa using h)
theorem RE.cap(re:RE C φ H δ σ)(js:List (Option Nat)):RE C φ H (gR js δ) (iJ js σ):=by
 refine⟨by simp[gR,iJ],λi p e=>?_⟩;unfold gR at e;unfold iJ;rw[zo]at e⊢;cases q:js[i]? with
 |none=>rw[q]at e;cases e
 |some o=>
  rw[q]at e;cases o with
  |none=>cases e
  |some j=>
   obtain⟨v,hv,rv⟩:=re.2 j p (sI (zy e));exact⟨v,by show some (E8 σ j)=_;rw[BW hv],rv⟩
def jD(g:PH->Bool)(tg:Mg)(tst:Ev->PH->Rs Bool)(elt:Me)(δ0:Ev)(n:Nat):List PV->PH->Rs PV
 |[],h=>if g h=true then .ok (.ref n) h else .bad
 |x::xs,h=>if g h=true then(match tg x δ0 with
  |none=>.bad
  |some δ1=>(tst δ1 h).bind λb h1=>match b with
   |false=>jD g tg tst elt δ0 n xs h1
   |true=>(elt δ1 h1).bind λp h2=>match cA h2 n with
    |some ys=>if ys.length<zk then jD g tg tst elt δ0 n xs (h2.set n (.lst (ys++[p]))) else .bad
    |none=>.bad) else .bad
def cV(js:List (Option Nat))(mi:Mi)(tg:Mg)(tst:Ev->PH->Rs Bool)(elt:Me):Me:=λδ h=>(mi δ h).bind λw h1=>jD w.g tg tst elt (gR js δ) h1.length w.xs (h1++[.lst []])
def nP:Ev->PH->Rs Bool:=λ_ h=>.ok true h
def STs(C:MC)(k:Nat)(X:Cx)(es:List Expr)(m:Ev->PH->Rs Bool):Prop:=Cxt C k X->PTs X es (rdB C m)
theorem K9:STs C k X [] nP:=λc pins s σ H Q I h=>by
 obtain⟨φ,δ,h,rh,re,p⟩:=h;exact GJ pins s σ H Q I (p.val rh)
theorem K'{m:Ev->PH->Rs Bool}(h:ST C k X e m):STs C k X [e] m:=λc=>GK (h c)
theorem cU.bind{r:Rs Wk}{f:Wk->PH->Rs PV}{Q:VK}(h:post C φ H (r.bind f) Q):cU C φ H r λJ H1=>∃φ1 w h1,φ<+:φ1/\Kp H H1/\RH C φ1 H1 h1/\D6 C J w φ1 H1/\post C φ1 H1 (f w h1) Q:=by
 cases r with
 |ok a h'=>exact λφ' H' J p t rh wk=>⟨φ',a,h',p,t,rh,wk,post.weak p t h⟩
 |exc a h'=>exact h
 |bad=>exact h
variable{elt:Me}{tst:Ev->PH->Rs Bool}
theorem Ey{w:Wk}{tg:Mg}{Q:VK}(wk:D6 C J w φ0 H0)(rh:RH C φ0 H0 h)(re:RE C φ0 H0 δ σ)(p:post C φ0 H0 (jD w.g tg tst elt (gR js δ) h.length w.xs (h++[.lst []])) Q)(acc:Addr)(bx:H0 acc=none):
  ∃W:Nat->Nat->Hp->Prop,(∃m,W 0 m (upd H0 acc (.lst [])))/\∀i m H2,W i m H2->
   (J.stop i H2/\Q (.ref acc) H2)\/(J.go i H2/\∃N:Hp->Prop,(∀H',N H'->∃m',m'<m/\W (i+1) m' H')/\∀x H3,J.yld i H2 x H3->IE js (rdG C tg) (rdB C tst) (rd C elt) σ acc x H3 N):=by
 have hlen:(φ0++[acc])[h.length]?=some acc:=by rw[<-rh.len];simp
 refine⟨λi m H=>m=w.xs.length-i/\i<=w.xs.length/\∃φ h',(φ0++[acc])<+:φ/\Kp H0 H/\RH C φ H h'/\post C φ H (jD w.g tg tst elt (gR js δ) h.length (w.xs.drop i) h') Q,
  ⟨w.xs.length,by simp,zz _,φ0++[acc],h++[.lst []],zf,Kp.new bx,rh.new (o:=.lst []) bx ⟨[],aL,trivial⟩,by rw[List.drop_zero];exact post.weak (Pp _ _) (Kp.new bx) p⟩,?_⟩
 rintro i m H ⟨rfl,hi,φ,h',pp,tt,a9,p⟩;have qh:φ0<+:φ:=(Pp _ _).trans pp
 by_cases aw:i<w.xs.length
 ·have hd:w.xs.drop i=w.xs[i]::w.xs.drop (i+1):=drop_cons (by simp[aw]);rw[hd]at p;unfold jD at p
  by_cases hg:w.g h'=true
  ·rw[if_pos hg]at p;obtain⟨go,step⟩:=(wk φ H h' qh tt a9 hg i).1 aw;refine .inr ⟨go,λH'=>∃φ h',(φ0++[acc])<+:φ/\Kp H0 H'/\RH C φ H' h'/\post C φ H' (jD w.g tg tst elt (gR js δ) h.length (w.xs.drop (i+1)) h') Q,λH' ⟨φ',h',q⟩=>⟨w.xs.length-(i+1),by omega,rfl,aw,φ',h',q⟩,λx H' y=>?_⟩;obtain⟨⟨q,eq,rv⟩,t1,aa⟩:=step x H' y;have p8:w.xs[i]=q:=by
    have:w.xs[i]?=some w.xs[i]:=by simp[aw]
    rw[this]at eq;exact zy eq
   rw[p8]at p;cases et:tg q (gR js δ) with
   |none=>rw[et]at p;exact p.elim
   |some δ1=>
    rw[et]at p;have vj:RE C φ H' (gR js δ) (iJ js σ):=(re.mono qh (tt.trans t1)).cap js;refine⟨φ,gR js δ,h',q,δ1,aa,vj,rv,et,λσ2 n4=>⟨φ,δ1,h',aa,n4,(bG.bind (post.weak zf t1 p)).imp ?_⟩⟩;rintro b H5 ⟨φ5,h5,p5,t5,rh5,q5⟩;cases b with
    |false=>exact AY ⟨φ5,h5,pp.trans p5,(tt.trans t1).trans t5,rh5,q5⟩
    |true=>
     refine AZ ⟨φ5,δ1,h5,rh5,n4.mono p5 t5,(post.bind q5).imp ?_⟩;rintro v H6 ⟨φ6,z,h6,p6,t6,rh6,rv6,q6⟩;cases e6:cA h6 h.length with
     |none=>rw[e6]at q6;exact q6.elim
     |some ys=>
      rw[e6]at q6;obtain⟨hz,q6⟩:=q6.ite;have hφ:φ6[h.length]?=some acc:=fK ((pp.trans p5).trans p6) hlen;obtain⟨vs,hH,i5⟩:=rh6.at' h.length acc _ hφ (fR e6);refine⟨vs,hH,by rw[<-i5.length];exact hz,φ6,h6.set h.length (.lst (ys++[z])),(pp.trans p5).trans p6,(((tt.trans t1).trans t5).trans t6).trans (Kp.lst hH),
       rh6.write hφ (by rw[hH];trivial) ⟨vs++[v],aL,(i5.snoc rv6).mono zf (Kp.lst hH)⟩,post.weak zf (Kp.lst hH) q6⟩
  ·rw[if_neg hg]at p;exact p.elim
 ·have e:i=w.xs.length:=by omega
  subst e;rw[List.drop_length]at p;unfold jD at p
  by_cases hg:w.g h'=true
  ·rw[if_pos hg]at p;exact .inl ⟨(wk φ H h' qh tt a9 hg _).2 (zb _),p.val a9 ⟨acc,rfl,fK pp hlen⟩⟩
  ·rw[if_neg hg]at p;exact p.elim
theorem BX{tg:Mg}{Q:VK}(h:rd C (cV js mi tg tst elt) σ H Q):BP js (rdI C mi) (rdG C tg) (rdB C tst) (rd C elt) σ H Q:=by
 obtain⟨φ,δ,h,rh,re,p⟩:=h;refine⟨φ,δ,h,rh,re,(cU.bind p).imp ?_⟩;rintro J H1 ⟨φ1,w,h1,p1,t1,aa,wk,q1⟩;intro acc bx;exact Ey wk aa (re.mono p1 t1) q1 acc bx
theorem Ka{elt:Expr}{g:Mg}{tt:Ev->PH->Rs Bool}(dh:X.env.scope=os)(ib:X.N=oN)(ok:iH os oN sc N js=true)(hi:SI C k X tg iter mi)(hg:∀C' fp s₀ H₀,SG C k (X.comp sc N C' fp s₀ H₀) tg g)(ht:∀C' fp s₀ H₀,STs C k (X.comp sc N C' fp s₀ H₀) ifs tt)(he:∀C' fp s₀ H₀,SE C k (X.comp sc N C' fp s₀ H₀) elt me)(hs:∀x,P4 iter X.env x=pure x:=by intro _;rfl):SE C k X (.ListComp elt [⟨tg,iter,ifs,0⟩] sc pos) (cV js mi g tt me):=λc=>
 (GL c.calm dh ib ok (hi c) (λa b s H=>hg a b s H (c.comp sc N a b s H)) (λa b s H=>ht a b s H (c.comp sc N a b s H)) (λa b s H=>he a b s H (c.comp sc N a b s H)) hs).imp λσ H Q h=>BX h
theorem D7{elt:Expr}{g:Mg}{tt:Ev->PH->Rs Bool}(hN:X.N.Nodup)(dk:X.N[i]?=some x)(ic:X.env.scope.names.lookup x=some .local)(dh:X.env.scope=os)(ib:X.N=oN)(ok:iH os oN sc N js=true)(hi:SI C k X tg iter mi)(hg:∀C' fp s₀ H₀,SG C k (X.comp sc N C' fp s₀ H₀) tg g)(ht:∀C' fp s₀ H₀,STs C k (X.comp sc N C' fp s₀ H₀) ifs tt)(he:∀C' fp s₀ H₀,SE C k (X.comp sc N C' fp s₀ H₀) elt me)(ku:RS (.ListComp elt [⟨tg,iter,ifs,0⟩] sc pos) (some (.Name x pos')) b9.line X.env=pure true:=by rfl)(hs:∀x,P4 iter X.env x=pure x:=by intro _;rfl):SSt C k X (.Assign [.Name x pos'] (.ListComp elt [⟨tg,iter,ifs,0⟩] sc pos) b9) (aO i (cV js mi g tt me)):=λc=>
 (B0 hN dk ic c.calm dh ib ok (hi c) (λa b s H=>hg a b s H (c.comp sc N a b s H)) (λa b s H=>ht a b s H (c.comp sc N a b s H)) (λa b s H=>he a b s H (c.comp sc N a b s H)) ku hs).imp λD σ H h=>by
  obtain⟨φ,δ,h,rh,re,p⟩:=h;refine BX ⟨φ,δ,h,rh,re,(post.fl p).imp ?_⟩;rintro v H1 ⟨φ1,x,h1,p1,t1,aa,ae,q1⟩;exact q1.nx aa ((re.mono p1 t1).set ae i)
def mFn(N:Nat)(body:Ms):Fn:=λargs h=>match body (args.map some++Re (N-args.length) none) h with
 |.nx _ h'=>.ok .non h'
 |.rt p h'=>.ok p h'
 |.exc x h'=>.exc x h'
 |_=>.bad
theorem RE.start{ps:List PV}(r:RVs C φ H ps vs)(N:List Str):RE C φ H (ps.map some++Re (N.length-ps.length) none) (start N vs):=by
 unfold L2.start;refine⟨by simp[r.length],λi p e=>?_⟩
 by_cases hi:i<ps.length
 ·rw[PC (by simpa using hi),zo]at e
  rw[PC (by simpa[<-r.length] using hi),zo]
  cases q:ps[i]? with
  |none=>rw[q]at e;cases e
  |some x=>
   rw[q]at e;cases e
   obtain⟨v,hv,rv⟩:=r.at q;exact⟨v,by rw[hv];rfl,rv⟩
 ·rw[QF (by simpa using hi)]at e
  rw[List.getElem?_replicate]at e;split at e
  ·cases e
  ·cases e
theorem IK{f:Addr}{body:Ms}(hex:∀φ H x,¬ C.ex φ H x)(hbn:∀x∈C.bs,mg x=none)(F:Fun C.K x qual st f fd)(S:mT N ps (aQ st))(hb:∀(cdv:Value)(A:Around)(outer:List Env)(s:Shared)(H:Hp)(E:XK),SSs C k (uK CX0 P C.w C.K mg base N qual (aQ st) f cdv A outer s H E).nox (bU st) body):
  cD P C.w C.K mg base CX0 (k+1) f fd ps (spM C ps.length (mFn N.length body)):=by
 refine F.ok S (λvs H Q E h=>?_) (λcdv A outer s H vs Q E hr h=>?_)
 ·obtain⟨φ,h,xs,rh,rv,hl,_⟩:=h;rw[<-rv.length];exact hl
 ·obtain⟨φ,h,xs,rh,rv,hl,p⟩:=h;refine⟨_,hb cdv A outer s H E ⟨rfl,rfl,hr,hbn,rfl⟩,φ,xs.map some++Re (N.length-xs.length) none,h,rh,RE.start rv N,?_⟩;unfold mFn at p;cases e:body (xs.map some++Re (N.length-xs.length) none) h with
  |nx δ h'=>rw[e]at p;exact λφ' σ' H' pp tt a9 n9=>p φ' .non H' pp tt a9 rfl
  |rt z h'=>rw[e]at p;exact p
  |exc z h'=>rw[e]at p;exact λφ' H' pp tt a9=>(hex _ _ _ (p φ' H' pp tt a9)).elim
  |bk δ h'=>rw[e]at p;exact p.elim
  |ct δ h'=>rw[e]at p;exact p.elim
  |bad=>rw[e]at p;exact p.elim
theorem Kb{f:Fn}{Q:VK}{E:XK}(hO:E4 H)(ho:SqL C.K H a (ns.map V.int))(hf:∃h,f [.fl (ns.map PV.int)] []=.ok (.bl true) h)(hQ:∀H',Q (.bl true) H'):spM C 1 f [.ref a] H Q E:=by
 have r0:∀ns:List Int,RVs C [] H (ns.map PV.int) (ns.map V.int):=by
  intro ns
  induction ns with
  |nil=>trivial
  |cons n ns ih=>exact⟨rfl,ih⟩
 have hs:SqF C.K H a (ns.map V.int):=by
  rcases ho with(h|⟨o,h⟩)|h
  ·rcases hO a with z|⟨o,xs,z⟩
   ·rw[z]at h;cases h
   ·rw[z]at h;cases h
  ·exact .inl ⟨o,h⟩
  ·exact .inr h
 refine⟨[],[],[.fl (ns.map PV.int)],⟨rfl,by simp,λn b ob h1 h2=>by simp at h1⟩,⟨⟨a,_,rfl,hs,r0 ns⟩,trivial⟩,rfl,?_⟩;obtain⟨h,e⟩:=hf;rw[e];intro φ' v H' _ _ _ rv;cases rv
 exact hQ H'
open PySem PySem.Spec PyProof.Rows
variable{C:MC}{k:Nat}{X:Cx}
def tyN(x:PV)(h:PH):Option String:=match x with
 |.non=>some "NoneType"
 |.bl _=>some "bool"
 |.int _=>some "int"
 |.str _=>some "str"
 |.tup _=>some "tuple"
 |.fl _=>some "list"
 |.ref n=>match h[n]? with
  |some (.lst _)=>some "list"
  |some (.dK _)=>some "dict"
  |_=>none
 |.ty _=>none
def gH(t c:String):Bool:=t == c || (t == "bool" && c == "int")
def known:List String:=["int","str","bool","list","tuple","dict"]
variable{c:String}
theorem Kc{t:String}(ht:t∈"NoneType" :: known)(hc:c∈known):PySem.W.kitOne K (.type t) (.type c)=some (gH t c):=by
 simp only[known,zq,List.not_mem_nil,or_false]at ht hc;rcases ht with rfl|rfl|rfl|rfl|rfl|rfl|rfl <;> rcases hc with rfl|rfl|rfl|rfl|rfl|rfl <;> rfl
def pE:List PV->PH->Rs PV:=λxs h=>match xs with
 |[x,.ty c]=>match tyN x h with
  |some t=>if c∈known then .ok (.bl (gH t c)) h else .bad
  |none=>.bad
 |_=>.bad
theorem Ez(hK:X.K=C.K):bT X (.builtin "isinstance") (λxs H Q=>∃x c t b,xs=[x,.ty c]/\(oT C.K H x (.type t)\/(∃a vs,x=.ref a/\SqT C.K H a vs/\t="tuple")\/(∃a vs,x=.ref a/\SqL C.K H a vs/\t="list"))/\PySem.W.kitOne C.K (.type t) (.type c)=some b/\Q (.bl b) H):=by
 intro pins s σ H xs us Q I r h;obtain⟨x,c,t,b,rfl,ty,e,q⟩:=h;obtain⟨u,v,rfl,ru,rv⟩:=vals2 r;cases rv
 rw[<-hK]at e ty;rcases ty with ty|⟨a,vs,rfl,sa,rfl⟩|⟨a,vs,rfl,sa,rfl⟩
 ·exact CC I ru ty e λtk=>⟨.bl b,H,I.tok tk,rfl,q⟩
 ·cases ru
  obtain⟨its,_,⟨o,h1,h2,_⟩,_⟩:=I.tuple sa;exact Py PySem.W.kitx_tuple I.kIn ⟨o,h1,h2⟩ e (λz=>nomatch z) λtk=>⟨.bl b,H,I.tok tk,rfl,q⟩
 ·cases ru
  obtain⟨its,_,⟨o,n,h1,h2,_⟩,_⟩:=I.list sa;exact Py PySem.W.kitx_list I.kIn ⟨o,h1,h2⟩ e (λz=>nomatch z) λtk=>⟨.bl b,H,I.tok tk,rfl,q⟩
set_option tactic.hygienic true in
theorem xP:nJ C k X (.builtin "isinstance") pE:=λc=>(Ez c.K).imp λvs H Q h=>by
 obtain⟨φ,h,ps,rh,rv,po⟩:=h;unfold pE at po;split at po
 ·rename_i x n;obtain⟨v,w,rfl,rx,ry⟩:=rv.two;cases ry
  split at po
  ·rename_i t ht;obtain⟨hn,po⟩:=po.ite;have fin:∀{t:String},t∈"NoneType" :: known->post C φ H (.ok (.bl (gH t n)) h) Q->PySem.W.kitOne C.K (.type t) (.type n)=some (gH t n)/\Q (.bl (gH t n)) H:=λhm po=>⟨Kc hm hn,po.val rh rfl⟩;unfold tyN at ht;cases x with
   |non=>cases ht;cases rx;exact⟨_,n,_,_,rfl,.inl .non,fin (by decide) po⟩
   |bl b=>cases ht;cases rx;exact⟨_,n,_,_,rfl,.inl (.bl _),fin (by decide) po⟩
   |int b=>cases ht;cases rx;exact⟨_,n,_,_,rfl,.inl (.int _),fin (by decide) po⟩
   |str b=>cases ht;cases rx;exact⟨_,n,_,_,rfl,.inl (.str _),fin (by decide) po⟩
   |tup xs=>
    cases ht
    obtain⟨a,vs,rfl,sa,ra⟩:=rx;exact⟨_,n,_,_,rfl,.inr (.inl ⟨a,vs,rfl,sa,rfl⟩),fin (by decide) po⟩
   |fl xs=>
    cases ht
    obtain⟨a,vs,rfl,sa,ra⟩:=rx;exact⟨_,n,_,_,rfl,.inr (.inr ⟨a,vs,rfl,sa.sq,rfl⟩),fin (by decide) po⟩
   |ref m=>
    obtain⟨a,rfl,ha⟩:=rx;dsimp only at ht;split at ht
    ·rename_i xs hx;cases ht
     obtain⟨vs,hH,ra⟩:=rh.at' m a _ ha hx;exact⟨_,n,_,_,rfl,.inl (.lst hH),fin (by decide) po⟩
    ·rename_i xs hx;cases ht
     obtain⟨vs,hH,ra⟩:=rh.at' m a _ ha hx;exact⟨_,n,_,_,rfl,.inl (.dK hH),fin (by decide) po⟩
    ·cases ht
   |ty z=>cases ht
  ·exact po.elim
 ·exact po.elim
def mMt(ty:PV->PH->Bool)(g:PV->List PV->PH->Rs PV)(mo:Me)(ms:Ma):Me:=λδ h=>(mo δ h).bind λx h1=>if ty x h1=true then(ms δ h1).bind λps h2=>g x ps h2 else .bad
def sQ(ty:PV->PH->Bool)(g:PV->List PV->PH->Rs PV)(mo:Me):Me:=λδ h=>(mo δ h).bind λx h1=>if ty x h1=true then g x [] h1 else .bad
def rM(C:MC)(g:PV->List PV->PH->Rs PV):V->List V->Hp->VK->Prop:=λx xs H Q=>∃φ h p ps,RH C φ H h/\RV C φ H p x/\RVs C φ H ps xs/\post C φ H (g p ps h) Q
def MtS(C:MC)(k:Nat)(X:Cx)(T:String)(ty:PV->PH->Bool)(id:String)(g:PV->List PV->PH->Rs PV):Prop:=Cxt C k X->MtR X id (rM C g)/\∀φ H h p x,RH C φ H h->RV C φ H p x->ty p h=true->tyV C.K T x H
variable{af apos:Pos}{mo:Me}{name:Str}{ty:PV->PH->Bool}
theorem Oo{o:Expr}{id:String}{g:PV->List PV->PH->Rs PV}(pa:PlainAttrs T)(slot:Slot T name id)(dq:typeOf (.builtin id)=pure (.type "method_descriptor"))(hm:MtS C k X T ty id g)(ho:SE C k X o mo)(ha:SA C k X (e::es) ms)(aq:QJ o name X.env (eval o X.env)=eval o X.env:=by rfl)(dn:((backTo af (zx (e::es) X.env)).all (λx=>!x.1)&&(backToKw af (keywordEach [] X.env)).all (λx=>x.1.isSome)
   && decide ((e::es).length+([]:List Keyword).length+(if([]:List Keyword).isEmpty then 0 else 1)<30))=true:=by rfl)(ao:(apos.endLine == af.line)=true:=by rfl)(hs:zx (e::es) X.env=(false,eval e X.env)::zx es X.env:=by rfl)(bo:(backTo af (zx es X.env)).any (·.1)=false:=by rfl):
  SE C k X (.Call (.Attribute o name apos) (e::es) [] af) (mMt ty g mo ms):=λc=>(Lw pa slot dq (hm c).1 (ho c) (ha c) aq dn ao hs bo).imp λσ H Q h=>by
 obtain⟨φ,δ,h,rh,re,p⟩:=h;refine⟨φ,δ,h,rh,re,(post.bind p).imp ?_⟩;rintro v H1 ⟨φ1,x,h1,p1,t1,aa,ae,q1⟩;obtain⟨ht,q1⟩:=q1.ite;refine⟨by rw[c.K];exact(hm c).2 φ1 H1 h1 x v aa ae ht,φ1,δ,h1,aa,re.mono p1 t1,(postA.bind q1).imp ?_⟩;rintro vs H2 ⟨φ2,xs,h2,p2,t2,aj,b7,q2⟩;exact⟨φ2,h2,x,xs,aj,ae.mono p2 t2,b7,q2⟩
theorem My{o:Expr}{id:String}{g:PV->List PV->PH->Rs PV}(pa:PlainAttrs T)(slot:Slot T name id)(dq:typeOf (.builtin id)=pure (.type "method_descriptor"))(hm:MtS C k X T ty id g)(ho:SE C k X o mo)(aq:QJ o name X.env (eval o X.env)=eval o X.env:=by rfl)(ao:(apos.endLine == af.line)=true:=by rfl):SE C k X (.Call (.Attribute o name apos) [] [] af) (sQ ty g mo):=λc=>(Jw pa slot dq (hm c).1 (ho c) aq ao).imp λσ H Q h=>by
 obtain⟨φ,δ,h,rh,re,p⟩:=h;refine⟨φ,δ,h,rh,re,(post.bind p).imp ?_⟩;rintro v H1 ⟨φ1,x,h1,p1,t1,aa,ae,q1⟩;obtain⟨ht,q1⟩:=q1.ite;exact⟨by rw[c.K];exact(hm c).2 φ1 H1 h1 x v aa ae ht,φ1,h1,x,[],aa,ae,trivial,q1⟩
theorem MtR.imp{id:String}{r r':V->List V->Hp->VK->Prop}(h:MtR X id r)(i:∀x xs H Q,r' x xs H Q->r x xs H Q):MtR X id r':=λpins s σ H x xs v us Q I rx rs q=>h pins s σ H x xs v us Q I rx rs (i x xs H Q q)
def isL(x:PV)(h:PH):Bool:=match x with
 |.ref n=>(cA h n).isSome
 |_=>false
theorem EA{x:V}(rh:RH C φ H h)(rv:RV C φ H p x)(e:isL p h=true):tyV C.K "list" x H:=by
 cases p with
 |ref n=>
  obtain⟨a,rfl,ha⟩:=rv;obtain⟨xs,hx⟩:=QV.mp (show(cA h n).isSome=true from e)
  obtain⟨vs,hH,ra⟩:=rh.at' n a _ ha (fR hx);exact .inl ⟨rfl,vs,SqL.of hH⟩
 |_=>cases e
def onL(f:List PV->List PV->Option (PV×List PV)):PV->List PV->PH->Rs PV:=λx ps h=>match x with
 |.ref n=>match cA h n with
  |some xs=>match f xs ps with
   |some (r,ys)=>.ok r (h.set n (.lst ys))
   |none=>.bad
  |none=>.bad
 |_=>.bad
theorem EB{f:List PV->List PV->Option (PV×List PV)}{x:V}{xs:List V}{Q:VK}(h:rM C (onL f) x xs H Q):∃φ l ps ys vs r zs,x=.ref l/\H l=some (.lst vs)/\RVs C φ H ys vs/\RVs C φ H ps xs/\f ys ps=some (r,zs)/\
  ∀(v:V)(ws:List V),RV C φ H r v->RVs C φ H zs ws->Q v (upd H l (.lst ws)):=by
 obtain⟨φ,h,p,ps,rh,rx,rs,po⟩:=h;unfold onL at po;cases p with
 |ref n=>
  obtain⟨a,rfl,ha⟩:=rx;dsimp only at po;cases e:cA h n with
  |none=>rw[e]at po;exact po.elim
  |some ys=>
   rw[e]at po;dsimp only at po;obtain⟨vs,hH,ra⟩:=rh.at' n a _ ha (fR e);cases ef:f ys ps with
   |none=>rw[ef]at po;exact po.elim
   |some rz=>
    rw[ef]at po;obtain⟨r,zs⟩:=rz;exact⟨φ,a,ps,ys,vs,r,zs,rfl,hH,ra,rs,ef,λv ws rv bt=>po.lset rh ha hH bt rv⟩
 |_=>exact po.elim
def bM:List PV->List PV->Option (PV×List PV):=λxs ps=>match ps with
 |[p]=>if xs.length<zk then some (.non,xs++[p]) else none
 |_=>none
def lK:List PV->List PV->Option (PV×List PV):=λxs ps=>match ps with
 |[]=>some (.non,[])
 |_=>none
set_option tactic.hygienic true in
theorem D8:MtR X "list.append" (rM C (onL bM)):=MtR.imp (show MtR X "list.append" BN from uU) λx xs H Q h=>by
 obtain⟨φ,l,ps,ys,vs,r,zs,rfl,hH,ra,rs,ef,q⟩:=EB h;unfold bM at ef;split at ef
 ·split at ef
  ·rename_i hz;cases ef
   obtain⟨v,rfl,rx⟩:=rs.one;exact⟨l,vs,v,rfl,rfl,hH,by rw[<-ra.length];exact hz,q .non _ rfl (ra.snoc rx)⟩
  ·cases ef
 ·cases ef
theorem EC:MtS C k X "list" isL "list.append" (onL bM):=λc=>⟨D8,λφ H h p x rh rv e=>EA rh rv e⟩
theorem ED:MtR X "list.clear" (rM C (onL lK)):=MtR.imp (show MtR X "list.clear" E2 from E3) λx xs H Q h=>by
 obtain⟨φ,l,ps,ys,vs,r,zs,rfl,hH,ra,rs,ef,q⟩:=EB h;unfold lK at ef;split at ef
 ·cases ef
  have:xs=[]:=by cases xs <;> first|rfl|exact rs.elim
  subst this;exact⟨l,vs,rfl,rfl,hH,q .non _ rfl trivial⟩
 ·cases ef
theorem Hj:MtS C k X "list" isL "list.clear" (onL lK):=λc=>⟨ED,λφ H h p x rh rv e=>EA rh rv e⟩
def Mz(K:yz):R2:=λx y H Q=>∃a b ys,x=.ref a/\y=.ref b/\SqT K H a []/\SqT K H b ys/\Q (.ref b) H
theorem Hk:OpR X (PK .Add) (Mz X.K):=by
 intro pins s σ H x y v u Q I rx ry h;obtain⟨a,b,ys,rfl,rfl,ha,hb,q⟩:=h;cases rx
 cases ry
 obtain⟨its,r1,p1,_⟩:=I.tuple ha;obtain⟨bw,r2,p2,_⟩:=I.tuple hb;cases r1
 obtain⟨⟨cls,dd,data,sl⟩,ho,hc,n,hd⟩:=id p1;obtain⟨⟨md,i7,data2,jd⟩,fi,cz,n2,hd2⟩:=id p2;simp only at hc hd cz hd2;subst hc hd cz hd2;exact concat_meets ⟨_,ho,rfl⟩ ⟨_,fi,rfl⟩ noFill_tuple_add seq_tuple_add PySem.F.slot_tuple_add PySem.F.entry_tuple_add (PySem.F.args_tuple_add_2 _ _)
   (tuple_addW0 a b ([]:List Value).toArray bw.toArray n n2 dd i7 sl jd (by simp)) ⟨ho,fi,⟨.ref b,H,I,rfl,q⟩⟩
def bQ:PV->PV->PH->Rs PV:=λx y h=>match x,y with
 |.tup [],.tup ys=>.ok (.tup ys) h
 |x,y=>Eo x y h
theorem Kd:OpS C k X (PK .Add) bQ:=λc=>((LU c).or (by have:=Hk (X:=X);rw[c.K]at this;exact this)).imp λx y H Q h=>by
 obtain⟨φ,h,p,q,rh,rx,ry,po⟩:=h;unfold bQ at po;split at po
 ·obtain⟨a,vs,rfl,sa,ra⟩:=rx;obtain⟨b,us,rfl,sb,rb⟩:=ry;have:vs=[]:=by cases vs <;> first|rfl|exact ra.elim
  subst this;exact .inr ⟨a,b,us,rfl,rfl,sa,sb,po.val rh ⟨b,us,rfl,sb,rb⟩⟩
 ·exact .inl ⟨φ,h,p,q,rh,rx,ry,po⟩
open PySem PySem.Spec PyProof.Rows
variable{C:MC}{k:Nat}{X:Cx}
theorem MA:UnS C k X (unaryOp .USub) xM:=λc=>by
 have h:UnR X (unaryOp .USub) (rU λi=>.int (-i)):=Jm;intro pins s σ H x v Q I rx q;refine h pins s σ H x v Q I rx ?_;obtain⟨φ,h,p,rh,rv,po⟩:=q;unfold xM at po;cases p with
 |int i=>cases rv;exact⟨i,rfl,po.val rh rfl⟩
 |_=>exact po.elim
open PySem PySem.Spec PyProof.Rows
variable{C:MC}{k:Nat}{X:Cx}
def sR:PV->PV->PH->Rs PV:=λx y h=>match x,y with
 |.str a,.str b=>.ok (.bl (!decide (V.str a=V.str b))) h
 |.int a,.int b=>.ok (.bl (!decide (V.int a=V.int b))) h
 |_,_=>.bad
theorem MB:OpS C k X (z8 .NotEq) sR:=λc pins s σ H x y v u Q I rx ry h=>by
 obtain⟨φ,h,p,q,rh,rp,rq,po⟩:=h;unfold sR at po;split at po
 ·cases rp;cases rq;obtain⟨t,rfl⟩:=rx;obtain⟨t',rfl⟩:=ry;exact ne_str (rP I (po.val rh rfl) (congrArg not Gq))
 ·cases rp;cases rq;obtain⟨t,rfl⟩:=rx;obtain⟨t',rfl⟩:=ry;exact ne_int (rP I (po.val rh rfl) (congrArg not Gp))
 ·exact po.elim
open PySem
@[irreducible]def Rs.W{α:Type}(r:Rs α)(Q:α->PH->Prop):Prop:=match r with
 |.ok a h=>Q a h
 |_=>False
structure FE where
 nx:Ev->PH->Prop
 rt:PV->PH->Prop
 bk:Ev->PH->Prop:=λ_ _=>False
 ct:Ev->PH->Prop:=λ_ _=>False
@[irreducible]def Fl.W(r:Fl)(E:FE):Prop:=match r with
 |.nx δ h=>E.nx δ h
 |.rt p h=>E.rt p h
 |.bk δ h=>E.bk δ h
 |.ct δ h=>E.ct δ h
 |_=>False
@[irreducible]def Lt(b:Ms)(E:FE)(δ:Ev)(h:PH):Prop:=(b δ h).W E
variable{ys:List PV}{h1:PH}{args:List PV}
section
unseal Rs.W Fl.W Lt
variable{α β:Type}{Q:α->PH->Prop}{E:FE}
@[simp]theorem xQ{a:α}:(Rs.ok a h).W Q=Q a h:=(rfl)
@[simp]theorem OS:(Fl.nx δ h).W E=E.nx δ h:=(rfl)
@[simp]theorem OT:(Fl.rt p h).W E=E.rt p h:=(rfl)
@[simp]theorem Bf{Q:β->PH->Prop}{r:Rs α}{f:α->PH->Rs β}:(r.bind f).W Q=r.W λa h=>(f a h).W Q:=by cases r <;> rfl
@[simp]theorem Bg{r:Rs α}{f:α->PH->Fl}:(r.fl f).W E=r.W λa h=>(f a h).W E:=by cases r <;> rfl
theorem Bh{Q':α->PH->Prop}{r:Rs α}(h:r.W Q)(i:∀a h,Q a h->Q' a h):r.W Q':=by cases r <;> first|exact i _ _ h|exact h
@[simp]theorem MD{c:Prop}[Decidable c]{x y:Rs α}:(if c then x else y).W Q=if c then x.W Q else y.W Q:=by split <;> rfl
@[simp]theorem OL:(Rs.bad:Rs α).W Q=False:=(rfl)
@[simp]theorem Oq:Fl.bad.W E=False:=(rfl)
theorem hW{r:Rs α}(w:r.W Q):∃a h,r=.ok a h/\Q a h:=by
 cases r with
 |ok a h=>exact⟨a,h,rfl,w⟩
 |exc=>exact w.elim
 |bad=>exact w.elim
variable{a b:Ms}{mc:Me}{t ta tb:Ev->PH->Rs Bool}{g g':PV->PV->PH->Rs PV}
theorem aC:(aE a b δ h).W E=(a δ h).W { E with nx:=Lt b E }:=by
 show(match a δ h with|.nx δ1 h1=>b δ1 h1|r=>r).W E=_
 cases a δ h <;> rfl
theorem now{b:Ms}(w:(b δ h).W E):Lt b E δ h:=w
@[simp]theorem OM:(bA δ h).W E=E.nx δ h:=(rfl)
@[simp]theorem ON:(xO δ h).W E=E.ct δ h:=(rfl)
@[simp]theorem IL:(aO i m δ h).W E=(m δ h).W λp h=>E.nx (δ.set i (some p)) h:=by simp[aO]
@[simp]theorem OO{t:Mg}:(nN m t δ h).W E=(m δ h).W λp h=>∃δ',t p δ=some δ'/\E.nx δ' h:=by
 unfold nN;cases m δ h with
 |ok p h1=>
  show(match t p δ with|some δ'=>Fl.nx δ' h1|none=>.bad).W E=∃δ',t p δ=some δ'/\E.nx δ' h1
  cases t p δ <;> simp[Fl.W]
 |exc=>rfl
 |bad=>rfl
@[simp]theorem ME:(jH m δ h).W E=(m δ h).W λ_ h=>E.nx δ h:=by simp[jH]
@[simp]theorem MF:(aU m δ h).W E=(m δ h).W E.rt:=by simp[aU]
@[simp]theorem aY:(aV t a b δ h).W E=(t δ h).W λc h=>if c=true then(a δ h).W E else(b δ h).W E:=by
 unfold aV;rw[Bg]
 congr
 funext c h
 cases c <;> simp
@[simp]theorem EE:mV i δ h=match xJ δ i with|some p=>.ok p h|none=>.bad:=(rfl)
@[simp]theorem MG:mC p δ h=.ok p h:=(rfl)
@[simp]theorem Hl:aB g ma mb δ h=(ma δ h).bind λx h1=>(mb δ h1).bind λy h2=>g x y h2:=(rfl)
@[simp]theorem Os{g:PV->PH->Rs PV}:mUn g ma δ h=(ma δ h).bind g:=(rfl)
@[simp]theorem Nu:aK m δ h=(m δ h).bind tru:=(rfl)
@[simp]theorem MH:vL t δ h=(t δ h).bind λb h1=>.ok (!b) h1:=(rfl)
@[simp]theorem MJ:nK ta tb δ h=(ta δ h).bind λb h1=>if b=true then tb δ h1 else .ok false h1:=by
 unfold nK;congr 1;funext b h1;cases b <;> simp
@[simp]theorem Nv:Bc ta tb δ h=(ta δ h).bind λb h1=>if b=true then .ok true h1 else tb δ h1:=by
 unfold Bc;congr 1;funext b h1;cases b <;> simp
@[simp]theorem Ot:mIf t ma mb δ h=(t δ h).bind λb h1=>if b=true then ma δ h1 else mb δ h1:=by
 unfold mIf;congr 1;funext b h1;cases b <;> simp
def bl2(x:PV)(f g:Rs PV):Rs PV:=match x with
 |.bl true=>f
 |.bl false=>g
 |_=>.bad
@[simp]theorem Ou{b:Bool}{f g:Rs PV}:bl2 (.bl b) f g=if b=true then f else g:=by cases b <;> simp[bl2]
set_option tactic.hygienic true in
@[simp]theorem MK:A4 ma mb δ h=(ma δ h).bind λx h1=>bl2 x (mb δ h1) (.ok (.bl false) h1):=by
 unfold A4;first|rfl|(congr 1;funext x h1;cases x <;> first|rfl|(rename_i b;cases b <;> rfl))
set_option tactic.hygienic true in
@[simp]theorem ML:A5 ma δ h=(ma δ h).bind λx h1=>bl2 x (.ok (.bl false) h1) (.ok (.bl true) h1):=by
 unfold A5;congr 1;funext x h1;cases x <;> first|rfl|(rename_i b;cases b <;> rfl)
@[simp]theorem Nw:aX ms δ h=(ms δ h).bind λxs h1=>if xs.length<=zk then .ok (.tup xs) h1 else .bad:=(rfl)
@[simp]theorem Hm:eI ms δ h=(ms δ h).bind λxs h1=>if xs.length<=zk then .ok (.ref h1.length) (h1++[.lst xs]) else .bad:=(rfl)
@[simp]theorem vP:bP δ h=.ok (.ref h.length) (h++[.dK []]):=(rfl)
@[simp]theorem xR:aD δ h=.ok [] h:=(rfl)
@[simp]theorem EF:aA m ms δ h=(m δ h).bind λx h1=>(ms δ h1).bind λxs h2=>.ok (x::xs) h2:=(rfl)
@[simp]theorem Ke{g:List PV->PH->Rs PV}:mCB g ms δ h=(ms δ h).bind g:=(rfl)
@[simp]theorem MM{f:Fn}:aS n f ms δ h=(ms δ h).bind λps h1=>if ps.length=n then f ps h1 else .bad:=(rfl)
@[simp]theorem Nx:nL δ h=.ok none h:=(rfl)
def EG(x:PV)(h:PH):Rs (Option Int):=match x with
 |.int i=>.ok (some i) h
 |_=>.bad
@[simp]theorem Kf{i:Int}:EG (.int i) h=.ok (some i) h:=(rfl)
@[simp]theorem OP:mP m δ h=(m δ h).bind EG:=(rfl)
@[simp]theorem Ov:mSl m ml mh δ h=(m δ h).bind λx h1=>(ml δ h1).bind λl h2=>(mh δ h2).bind λu h3=>vSl x l u h3:=(rfl)
@[simp]theorem Ow{g:PV->List PV->PH->Rs PV}:mMt ty g m ms δ h=(m δ h).bind λx h1=>if ty x h1=true then(ms δ h1).bind λps h2=>g x ps h2 else .bad:=(rfl)
@[simp]theorem Ny{g:PV->List PV->PH->Rs PV}:sQ ty g m δ h=(m δ h).bind λx h1=>if ty x h1=true then g x [] h1 else .bad:=(rfl)
@[simp]theorem nQ:zk=16777216:=by rw[Pj]
theorem Hn{i j:Int}(c:(-18446744073709551616<i/\i<18446744073709551616)\/(-18446744073709551616<j/\j<18446744073709551616)):xK (.int i) (.int j) h=.ok (.int (i*j)) h:=by
 show(if zL i j then _ else _)=_
 exact if_pos c
@[simp]theorem MN{i j:Int}(c:(-18446744073709551616<i/\i<18446744073709551616)\/(-18446744073709551616<j/\j<18446744073709551616)):vInt zL (λi j=>i*j) (.int i) (.int j) h=.ok (.int (i*j)) h:=Hn c
@[simp]theorem Nz{i j:Int}(c:0<j/\j<1073741824):vInt DM (λi j=>i/j) (.int i) (.int j) h=.ok (.int (i/j)) h:=if_pos c
@[simp]theorem NA{i j:Int}(c:0<j):vInt (λ_ j=>0<j) (λi j=>i%j) (.int i) (.int j) h=.ok (.int (i%j)) h:=if_pos c
@[simp]theorem NB{i j:Int}(c:0<=j/\j<=1000000/\-18446744073709551616<i/\i<18446744073709551616):vInt Cv (λi j=>i ^ j.toNat) (.int i) (.int j) h=.ok (.int (i ^ j.toNat)) h:=by
 show(if Cv i j then _ else _)=_
 refine if_pos ⟨c.1,c.2.1,?_⟩;obtain⟨_,_,h1,h2⟩:=c;omega
@[simp]theorem NC{i j:Int}:A3 (.int i) (.int j) h=.ok (.int (i-j)) h:=(rfl)
@[simp]theorem ND{i:Int}:xM (.int i) h=.ok (.int (-i)) h:=(rfl)
@[simp]theorem D9{i j:Int}:bQ (.int i) (.int j) h=.ok (.int (i+j)) h:=(rfl)
@[simp]theorem L6{y:Str}(c:x.length+y.length<=16777216):bQ (.str x) (.str y) h=.ok (.str (x++y)) h:=if_pos c
@[simp]theorem Da(c:xs.length+ys.length<=16777216):bQ (.tup xs) (.tup ys) h=.ok (.tup (xs++ys)) h:=by
 cases xs with
 |nil=>rfl
 |cons x xs=>exact if_pos ⟨rfl,c⟩
@[simp]theorem MP{f:Int->Int->Bool}{g:List Nat->List Nat->Bool}{i j:Int}:Er f g (.int i) (.int j) h=.ok (.bl (f i j)) h:=(rfl)
@[simp]theorem Ox{b:Bool}:tru (.bl b) h=.ok b h:=(rfl)
@[simp]theorem MQ:ofO (some p) h=.ok p h:=(rfl)
@[simp]theorem qZ{i:Int}:vIx (.tup xs) (.int i) h=ofO (atI xs i) h:=(rfl)
theorem kG{i:Int}(e:h[n]?=some (.lst xs)):vIx (.ref n) (.int i) h=ofO (atI xs i) h:=by simp[vIx,aN,e]
@[simp]theorem rA{z:Str}{i:Int}(c:z.length<=16777216):vIx (.str z) (.int i) h=ofO ((atI z.cps.toList i).map λc=>.str ⟨#[c]⟩) h:=if_pos c
theorem jP(e:h[n]?=some (.lst xs)):sO [.ref n] h=.ok (.int xs.length) h:=by simp[sO,aN,e]
@[simp]theorem NF{i j:Int}:Ew [.int i,.int j] h=.ok (.int (if j>i then j else i)) h:=(rfl)
@[simp]theorem MR{i:Str}:pE [.str i,.ty c] h=if c∈known then .ok (.bl (gH "str" c)) h else .bad:=(rfl)
@[simp]theorem MS{i:List PV}:pE [.tup i,.ty c] h=if c∈known then .ok (.bl (gH "tuple" c)) h else .bad:=(rfl)
theorem EH(e:h[n]?=some (.lst xs)):pE [.ref n,.ty c] h=if c∈known then .ok (.bl (gH "list" c)) h else .bad:=by simp[pE,tyN,e]
theorem iL(e:h[n]?=some (.lst xs)):isL (.ref n) h=true:=by simp[isL,cA,e]
theorem eO(e:h[n]?=some (.lst xs))(c:xs.length<16777216):onL bM (.ref n) [p] h=.ok .non (h.set n (.lst (xs++[p]))):=by simp[onL,cA,e,bM,c]
theorem Ho{α:Type}{xs:List α}{i:Int}(h0:0<=i)(h1:i<xs.length):atI xs i=xs[i.toNat]?:=by
 unfold atI ixN;rw[if_pos h0,if_pos h1];rfl
theorem EI{α:Type}{xs:List α}{x:α}:atI (xs++[x]) (-1)=some x:=by
 unfold atI ixN;rw[if_neg (by decide),if_pos (by simp;omega)];have:((-1:Int)+((xs++[x]).length:Int)).toNat=xs.length:=by simp;omega
 rw[this];simp
theorem sS{g:PH->Bool}{tg:Mg}{body:Ms}{E:FE}(I:Nat->Ev->PH->Prop):∀(xs:List PV)(k:Nat)(δ:Ev)(h:PH),I k δ h->
  (∀i x δ h,k<=i->xs[i-k]?=some x->I i δ h->g h=true/\∃δ1,tg x δ=some δ1/\(body δ1 h).W { nx:=I (i+1),ct:=I (i+1),rt:=E.rt,bk:=E.nx })->
  (∀δ h,I (k+xs.length) δ h->g h=true/\E.nx δ h)->(fB g tg body xs δ h).W E
 |[],k,δ,h,i0,_,fin=>by
  obtain⟨h1,h2⟩:=fin δ h i0;simp[fB,h1,h2]
 |x::xs,k,δ,h,i0,step,fin=>by
  obtain⟨h1,δ1,h2,h3⟩:=step k x δ h (zb _) (by simp) i0;have go:∀δ2 h2,I (k+1) δ2 h2->(fB g tg body xs δ2 h2).W E:=λδ2 h2 i2=>
   sS I xs (k+1) δ2 h2 i2 (λi y δ h hk hy=>step i y δ h (by omega) (by
    have:i-k=(i-(k+1))+1:=by omega
    rw[this,Qa];exact hy)) (λδ h hi=>fin δ h (by
    have e:k+(x::xs).length=k+1+xs.length:=by simp;omega
    rw[e];exact hi))
  unfold fB;rw[if_pos h1,h2]
  show Fl.W (match body δ1 h with|.nx δ2 h2=>fB g tg body xs δ2 h2|.ct δ2 h2=>fB g tg body xs δ2 h2|.bk δ2 h2=>.nx δ2 h2|r=>r) E
  cases e:body δ1 h with
  |nx δ2 h2=>rw[e]at h3;exact go δ2 h2 h3
  |ct δ2 h2=>rw[e]at h3;exact go δ2 h2 h3
  |bk δ2 h2=>rw[e]at h3;exact h3
  |rt p h2=>rw[e]at h3;exact h3
  |exc=>rw[e]at h3;exact h3
  |bad=>rw[e]at h3;exact h3
theorem EJ{body:Ms}{j:Int}(I:Nat->Ev->PH->Prop)(e:ms δ h=.ok [.int j] h)(hj:-4611686018427387904<=j/\j<4611686018427387904)(h0:I 0 δ h)(step:∀(q:Nat) δ h,(q:Int)<j->I q δ h->(body (δ.set i (some (.int q))) h).W { nx:=I (q+1),ct:=I (q+1),rt:=E.rt,bk:=E.nx })(fin:∀δ h,I j.toNat δ h->E.nx δ h):(eC (vN ms) (gN i) body δ h).W E:=by
 unfold eC vN;rw[e];have kr:-(2 ^ 62)<=j/\j<2 ^ 62:=hj;simp only[Rs.bind_ok,Ex,if_pos kr,Rs.fl_ok];refine sS I _ 0 δ h h0 (λq x δ h _ hx hi=>?_) (λδ h hi=>⟨rfl,fin δ h (by rw[eZ,Nat.zero_add]at hi;exact hi)⟩);have hq:q<j.toNat:=by
  have:=(yx.mp hx).1;rw[eZ]at this;omega
 rw[Nat.sub_zero,sP _ _ _ hq]at hx;cases hx
 refine⟨rfl,_,rfl,?_⟩;rw[Int.zero_add];exact step q δ h (by omega) hi
theorem iM{tg:Mg}{body:Ms}(I:Nat->Ev->PH->Prop)(e:m δ h=.ok (.ref n) h1)(hn:h1[n]?=some (.lst xs))(h0:I 0 δ h1)(keep:∀q δ h,q<=xs.length->I q δ h->h[n]?=some (.lst xs))(step:∀(q:Nat) x δ h,xs[q]?=some x->I q δ h->∃δ1,tg x δ=some δ1/\(body δ1 h).W { nx:=I (q+1),ct:=I (q+1),rt:=E.rt,bk:=E.nx })(fin:∀δ h,I xs.length δ h->E.nx δ h):(eC (bB m) tg body δ h).W E:=by
 have hk:∀{h:PH},h[n]?=some (.lst xs)->Be n xs h=true:=λ{h} e=>by
  have e3:aN h n=some xs:=by unfold aN;rw[e]
  unfold Be;rw[e3];exact PV.beqs_self xs
 unfold eC bB;rw[e];have e2:ofSeq (.ref n) h1=.ok ⟨xs,Be n xs⟩ h1:=by
  have e3:aN h1 n=some xs:=by unfold aN;rw[hn]
  unfold ofSeq;simp only[e3]
 rw[Rs.bind_ok,e2,Rs.fl_ok];refine sS I _ 0 δ h1 h0 (λq x δ h _ hx hi=>?_) (λδ h hi=>?_)
 ·have dk:xs[q]?=some x:=by simpa using hx
  have:=(yx.mp dk).1;exact⟨hk (keep q δ h (by omega) hi),step q x δ h dk hi⟩
 ·have ax:I xs.length δ h:=by simpa using hi
  exact⟨hk (keep _ δ h (zb _) ax),fin δ h ax⟩
theorem bR{N:Nat}{body:Ms}{Q:PV->PH->Prop}(w:(body (args.map some++Re (N-args.length) none) h).W { nx:=λ_ h=>Q .non h,rt:=Q }):(mFn N body args h).W Q:=by
 unfold mFn;cases e:body (args.map some++Re (N-args.length) none) h with
 |nx δ h'=>rw[e]at w;exact w
 |rt p h'=>rw[e]at w;exact w
 |_=>rw[e]at w;exact w.elim
@[simp]theorem OQ:gN i p δ=some (δ.set i (some p)):=(rfl)
@[simp]theorem Oy{u:Mgs}{ps:List PV}:gTp n u (.tup ps) δ=if ps.length=n then u ps δ else none:=(rfl)
@[simp]theorem Oz{t:Mg}{u:Mgs}{r:List PV}:gCn t u (p::r) δ=(t p δ).bind (u r):=(rfl)
@[simp]theorem OA:gNl [] δ=some δ:=(rfl)
end
def Ext(h h':PH):Prop:=∀(n:Nat)(o:MO),h[n]?=some o->h'[n]?=some o
theorem Ext.refl(h:PH):Ext h h:=λ_ _ e=>e
variable{h2:PH}
theorem Ext.trans(a:Ext h h1)(b:Ext h1 h2):Ext h h2:=λn o e=>b n o (a n o e)
theorem Ext.app(h g:PH):Ext h (h++g):=λn o e=>by
 rw[PC (yx.mp e).1];exact e
theorem Ext.len{h':PH}(e:Ext h h'):h.length<=h'.length:=by
 rcases Nat.lt_or_ge h'.length h.length with z|z
 ·have:h[h'.length]?=some h[h'.length]:=by simp[z]
  have:=(yx.mp (e _ _ this)).1;omega
 ·exact z
theorem aF{o:MO}:(h++[o])[h.length]?=some o:=by simp
variable{o':MO}
theorem bV{o:MO}(e:h[n]?=some o):(h.set n o')[n]?=some o':=PU (yx.mp e).1
theorem aG{m:Nat}{o:MO}(e:h[m]?=some o)(d:n≠m):(h.set n o')[m]?=some o:=by rw[Pr d];exact e
def PV.pl:Nat->PV->Bool
 |_,.non=>true
 |_,.int _=>true
 |_,.str _=>true
 |n+1,.tup xs=>xs.all (PV.pl n)
 |_,_=>false
theorem BY{x:PV}{d:D}{ds:List D}(h1:x.d=some d)(h2:PV.ds xs=some ds):PV.ds (x::xs)=some (d::ds):=by simp[PV.ds,h1,h2]
theorem MT{ds:List D}(h:PV.ds xs=some ds):(PV.tup xs).d=some (.tup ds):=by simp[PV.d,h]
set_option tactic.hygienic true in
theorem dW{d:D}(h:(PV.tup xs).d=some d):∃ds,PV.ds xs=some ds/\d=.tup ds:=by
 unfold PV.d at h;split at h
 ·rename_i ds e;cases h;exact⟨ds,e,rfl⟩
 ·cases h
set_option tactic.hygienic true in
theorem jQ{x:PV}{ds:List D}(h:PV.ds (x::xs)=some ds):∃d r,x.d=some d/\PV.ds xs=some r/\ds=d::r:=by
 unfold PV.ds at h;split at h
 ·rename_i d r e1 e2;cases h;exact⟨d,r,e1,e2,rfl⟩
 ·cases h
theorem lN:∀(n:Nat)(x:PV),x.pl n=true->∃d,x.d=some d/\d.depth<=n:=by
 intro n
 induction n with
 |zero=>
  intro x h;cases x <;> first|exact⟨_,rfl,zb _⟩|(simp[PV.pl]at h)
 |succ n ih=>
  intro x h;cases x with
  |tup xs=>
   have h:xs.all (PV.pl n)=true:=h;have many:∀(xs:List PV),xs.all (PV.pl n)=true->∃ds,PV.ds xs=some ds/\D.depths ds<=n:=by
    intro xs
    induction xs with
    |nil=>intro _;exact⟨[],rfl,zz _⟩
    |cons x xs ihx=>
     intro h;simp only[QL,z0]at h;obtain⟨d,h1,h2⟩:=ih x h.1;obtain⟨ds,h3,h4⟩:=ihx h.2;refine⟨d::ds,BY h1 h3,?_⟩
     show max d.depth (D.depths ds)<=n
     omega
   obtain⟨ds,h1,h2⟩:=many xs h;refine⟨.tup ds,MT h1,?_⟩
   show D.depths ds+1<=n+1
   omega
  |_=>first|exact⟨_,rfl,zz _⟩|(simp[PV.pl]at h)
theorem EK:∀(n:Nat)(x y:PV)(d e:D),x.pl n=true->y.pl n=true->x.d=some d->y.d=some e->eqD d e=decide (x=y):=by
 intro n
 induction n with
 |zero=>
  intro x y d e hx hy h1 h2;cases x <;> first|(simp[PV.pl]at hx;done)|skip
  all_goals cases h1
  all_goals cases y <;> first|(simp[PV.pl]at hy;done)|skip
  all_goals cases h2
  all_goals simp only[eqD]
  all_goals rw[P8]
  all_goals simp
 |succ n ih=>
  intro x y d e hx hy h1 h2;have lists:∀(xs ys:List PV)(ds es:List D),xs.all (PV.pl n)=true->ys.all (PV.pl n)=true->PV.ds xs=some ds->PV.ds ys=some es->eM ds es=decide (xs=ys):=by
   intro xs
   induction xs with
   |nil=>
    intro ys ds es _ _ h1 h2;cases h1
    cases ys with
    |nil=>cases h2;rfl
    |cons y ys=>obtain⟨d,r,_,_,rfl⟩:=jQ h2;simp[eM]
   |cons x xs ihx=>
    intro ys ds es hx hy h1 h2;obtain⟨d,r,g1,g2,rfl⟩:=jQ h1;simp only[QL,z0]at hx;cases ys with
    |nil=>cases h2;simp[eM]
    |cons y ys=>
     obtain⟨e,q,g3,g4,rfl⟩:=jQ h2;simp only[QL,z0]at hy;simp only[eM,ih x y d e hx.1 hy.1 g1 g3,ihx ys r q hx.2 hy.2 g2 g4];rw[P8];simp
  cases x with
  |tup xs=>
   obtain⟨ds,g1,rfl⟩:=dW h1;cases y with
   |tup ys=>
    obtain⟨es,g2,rfl⟩:=dW h2;simp only[eqD,lists xs ys ds es hx hy g1 g2];rw[P8];simp
   |non=>cases h2;simp[eqD]
   |int j=>cases h2;simp[eqD]
   |str j=>cases h2;simp[eqD]
   |_=>simp[PV.pl]at hy
  |non=>
   cases h1
   cases y with
   |tup ys=>obtain⟨es,g2,rfl⟩:=dW h2;simp[eqD]
   |non=>cases h2;simp[eqD]
   |int j=>cases h2;simp[eqD]
   |str j=>cases h2;simp[eqD]
   |_=>simp[PV.pl]at hy
  |int i=>
   cases h1
   cases y with
   |tup ys=>obtain⟨es,g2,rfl⟩:=dW h2;simp[eqD]
   |non=>cases h2;simp[eqD]
   |int j=>cases h2;simp only[eqD];rw[P8];simp
   |str j=>cases h2;simp[eqD]
   |_=>simp[PV.pl]at hy
  |str i=>
   cases h1
   cases y with
   |tup ys=>obtain⟨es,g2,rfl⟩:=dW h2;simp[eqD]
   |non=>cases h2;simp[eqD]
   |int j=>cases h2;simp[eqD]
   |str j=>cases h2;simp only[eqD];rw[P8];simp
   |_=>simp[PV.pl]at hy
  |_=>simp[PV.pl]at hx
theorem rB{x:PV}{y:PV}(hx:x.pl 40=true)(hy:y.pl 40=true):fT x y h=some (decide (x=y)):=by
 obtain⟨d,h1,h2⟩:=lN 40 x hx;obtain⟨e,h3,h4⟩:=lN 40 y hy;unfold fT;rw[h1,h3];simp only[h2,if_true,EK 40 x y d e hx hy h1 h3]
theorem lO{x:PV}{y:PV}(hx:x.pl 40=true)(hy:y.pl 40=true):vEq x y h=.ok (.bl (decide (x=y))) h:=by unfold vEq;rw[rB hx hy];rfl
@[simp]theorem NG{i j:Int}:vEq (.int i) (.int j) h=.ok (.bl (decide (i=j))) h:=by rw[lO rfl rfl];congr 2;simp
@[simp]theorem Hq{i j:Str}:vEq (.str i) (.str j) h=.ok (.bl (decide (i=j))) h:=by rw[lO rfl rfl];congr 2;simp
theorem A7{x:PV}(hx:x.pl 39=true)(hy:ys.all (PV.pl 39)=true):sL x ys=some (decide (x∈ys)):=by
 have key:∀ys:List PV,ys.all (PV.pl 39)=true->∃ds,PV.ds ys=some ds/\D.depths ds<=39/\∀d,x.d=some d->(ds.any λe=>eqD e d)=decide (x∈ys):=by
  intro ys
  induction ys with
  |nil=>intro _;exact⟨[],rfl,zz _,λ_ _=>by simp⟩
  |cons y ys ih=>
   intro h;simp only[QL,z0]at h;obtain⟨e,h1,h2⟩:=lN 39 y h.1;obtain⟨ds,h3,h4,h5⟩:=ih h.2;refine⟨e::ds,BY h1 h3,?_,λd hd=>?_⟩
   ·show max e.depth (D.depths ds)<=39
    omega
   ·rw[Q7,h5 d hd,EK 39 y x e d h.1 hx h1 hd,P8];simp only[Bool.or_eq_true,decide_eq_true_eq,zq];constructor
    ·rintro(h|h)
     ·exact .inl h.symm
     ·exact .inr h
    ·rintro(h|h)
     ·exact .inl h.symm
     ·exact .inr h
 obtain⟨d,h1,h2⟩:=lN 39 x hx;obtain⟨ds,h3,h4,h5⟩:=key ys hy;unfold sL;rw[h1,h3];simp only[show D.depths ds<=40 by omega,if_true,h5 d h1]
theorem BZ{x:PV}(hx:x.pl 39=true)(hy:ys.all (PV.pl 39)=true):vIn x (.tup ys) h=.ok (.bl (decide (x∈ys))) h:=by
 unfold vIn Ba;dsimp only;rw[A7 hx hy];rfl
theorem Hr{x:PV}(e:h[n]?=some (.lst ys))(hx:x.pl 39=true)(hy:ys.all (PV.pl 39)=true):vIn x (.ref n) h=.ok (.bl (decide (x∈ys))) h:=by
 have e3:aN h n=some ys:=by unfold aN;rw[e]
 unfold vIn Ba;simp only[e3,A7 hx hy];rfl
theorem nR{m:Nat}(e1:h[n]?=some (.lst xs))(e2:h[m]?=some (.lst ys))(hx:xs.all (PV.pl 39)=true)(hy:ys.all (PV.pl 39)=true):fT (.ref n) (.ref m) h=some (decide (xs=ys)):=by
 have e3:eJ (.ref n) h=some xs:=by unfold eJ aN;simp only[e1]
 have e4:eJ (.ref m) h=some ys:=by unfold eJ aN;simp only[e2]
 have dk:(PV.tup xs).pl 40=true:=hx;have jc:(PV.tup ys).pl 40=true:=hy;obtain⟨d,h1,h2⟩:=lN 40 _ dk;obtain⟨e,h3,h4⟩:=lN 40 _ jc;obtain⟨ds,g1,rfl⟩:=dW h1;obtain⟨es,g2,rfl⟩:=dW h3;have h5:=EK 40 _ _ _ _ dk jc h1 h3;have cm:D.depths ds+1<=40:=h2;have vq:eM ds es=decide (xs=ys):=by
  have:eM ds es=decide (PV.tup xs=PV.tup ys):=h5;rw[this,P8];simp
 unfold fT;have n1:(PV.ref n).d=none:=rfl;rw[n1];simp only[e3,e4,g1,g2,show D.depths ds<=40 by omega,if_true,vq]
theorem Hs{m:Nat}(e1:h[n]?=some (.lst xs))(e2:h[m]?=some (.lst ys))(hx:xs.all (PV.pl 39)=true)(hy:ys.all (PV.pl 39)=true):vEq (.ref n) (.ref m) h=.ok (.bl (decide (xs=ys))) h:=by unfold vEq;rw[nR e1 e2 hx hy];rfl
section
variable{α:Type}{a b c d e f g:α}{r:List α}
theorem xS{xs:List α}{v:α}(i:Nat)(h:xs[i]?=some v):atI xs (i:Int)=some v:=aR h
@[simp]theorem OU:atI (a::r) 0=some a:=xS 0 rfl
@[simp]theorem OV:atI (a::b::r) 1=some b:=xS 1 rfl
@[simp]theorem OW:atI (a::b::c::r) 2=some c:=xS 2 rfl
theorem C0{xs:List α}{i:Int}(h:xs≠[]):∃v,atI xs (i%(xs.length:Int))=some v/\v∈xs:=by
 have h0:0<xs.length:=List.length_pos_iff.mpr h;obtain⟨v,h1,h2⟩:=JI (xs:=xs) (i:=i%(xs.length:Int)) (Int.emod_nonneg _ (by omega)) (Int.emod_lt_of_pos _ (by omega));exact⟨v,h1,Pn h2⟩
end
open PySem PySem.Spec PyProof.Rows PySem.SeqAt
open PySem.AutoSeq1 (wpAny_loadPart')
open PySem.MeetsSeq PySem.MeetsSeq2 PySem.MeetsSeq3
def MU(A:Around)(s:Shared)(v u:Value)(b:Bool):Prop:=∀(prog:Program)(w:World)(E:Value->Shared->Prop)(Q:Value->Shared->Prop),Q (.bool b) s->wpAny (model prog w) A (richCompare .Lt v u) Q E s
def MV(A:Around)(s:Shared)(v u:Value)(d e:D):Prop:=EqAt A s v u (eqD d e)/\(eqD d e=false->∀b,ltD d e=some b->MU A s v u b)
abbrev vQ(A:Around)(s:Shared):List Value->List Value->List D->List D->Prop:=λvs us ds es=>vs.length=ds.length/\us.length=es.length/\∀(j:Nat) v u d e,vs[j]?=some v->us[j]?=some u->ds[j]?=some d->es[j]?=some e->MV A s v u d e
theorem vQ.tail{v:Value}{vs:List Value}{d e:D}{ds es:List D}(h:vQ A s (v::vs) (u::us) (d::ds) (e::es)):MV A s v u d e/\vQ A s vs us ds es:=
 ⟨h.2.2 0 v u d e rfl rfl rfl rfl,by have:=h.1;simpa using this,by have:=h.2.1;simpa using this,λj v u d e h1 h2 h3 h4=>h.2.2 (j+1) v u d e (by simpa using h1) (by simpa using h2) (by simpa using h3) (by simpa using h4)⟩
theorem xT(l b:Addr)(items bc:Array Value)(n n2:Nat)(dd i7:Option Addr)(sl jd:Array (Option Value))(ds es:List D)(c:Bool)(hc:xC ds es=some c):
  Meets (Builtin.«tuple.__lt__» ⟨[.ref l,.ref b],[]⟩)
   (λA R s=>s.heap.get? l=some { cls:=.type "tuple",dict:=dd,data:=.seq items n,slots:=sl }/\s.heap.get? b=some { cls:=.type "tuple",dict:=i7,data:=.seq bc n2,slots:=jd }/\
    vQ A.in1 s items.toList bc.toList ds es/\R (.ok (.ret (.bool c))) s):=
 .of_wp λprog w A R s h=>by
  obtain⟨hp,g,d,tk,os⟩:=s;obtain⟨hl,hb,hit,h⟩:=h;have f2:=AutoSeq1.sub_tuple_tuple;have z1:items.size=ds.length:=by rw[<-hit.1];simp
  have z2:bc.size=es.length:=by rw[<-hit.2.1];simp
  wp_walk using wpAny_loadPart' hl,wpAny_loadPart' hb,RM _ (λrest b s'=>b.1=none/\s'=⟨hp,g,d,tk,os⟩/\∃(vs ws:List Value)(ik fb:List D),rest=vs.zip ws/\
   vQ A.in1 ⟨hp,g,d,tk,os⟩ vs ws ik fb/\ik.length+bc.size=fb.length+items.size/\xC ik fb=some c) _
  case turn=>
   rintro⟨y,x⟩ rest b s' ⟨hb',rfl,vs,ws,ik,fb,hz,hvi,hlen,hR⟩;cases vs with
   |nil=>rw[List.zip_nil_left]at hz;cases hz
   |cons v vs=>
    cases ws with
    |nil=>rw[List.zip_nil_right]at hz;cases hz
    |cons u ws=>
     rw[List.zip_cons_cons]at hz;injection hz with hyx hrest;injection hyx with hy hx;subst hy hx;cases ik with
     |nil=>have:=hvi.1;simp at this
     |cons a ik=>
      cases fb with
      |nil=>have:=hvi.2.1;simp at this
      |cons e fb=>
       obtain⟨⟨h1,h2⟩,ht⟩:=vQ.tail hvi;simp only[Pt]at hlen;simp only[xC]at hR;refine yw (h1 prog w _ _ ?_);cases q:eqD a e with
       |true=>
        rw[q,if_pos rfl]at hR
        wp_walk
        exact⟨rfl,rfl,_,_,_,_,hrest,ht,by omega,hR⟩
       |false=>
        rw[q,if_neg zi]at hR;have xt:=h2 q c hR prog w
        wp_walk using xt
        exact⟨_,rfl,by simpa using h⟩
  case fin=>
   rintro⟨b1,b2⟩ s' ⟨hb',rfl,vs,ws,ik,fb,hz,hvi,hlen,hR⟩;simp only at hb';subst hb';have hv:c=decide (items.size<bc.size):=by
    cases ik with
    |nil=>
     cases fb with
     |nil=>
      simp only[Rl]at hlen;simp only[xC]at hR;cases hR
      exact(decide_eq_false (by omega)).symm
     |cons e fb=>
      simp only[Rl,Pt]at hlen;simp only[xC]at hR;cases hR
      exact(decide_eq_true (by omega)).symm
    |cons a ik=>
     cases fb with
     |nil=>
      simp only[Rl,Pt]at hlen;simp only[xC]at hR;cases hR
      exact(decide_eq_false (by omega)).symm
     |cons e fb=>
      exfalso;cases vs with
      |nil=>have:=hvi.1;simp at this
      |cons v vs=>
       cases ws with
       |nil=>have:=hvi.2.1;simp at this
       |cons u ws=>rw[List.zip_cons_cons]at hz;cases hz
   rw[hv]at h
   wp_walk
   exact⟨_,rfl,by simpa[Builtin.Tuple.tupleCompareSizes] using h⟩
  case h=>
   exact⟨rfl,rfl,items.toList,bc.toList,ds,es,rfl,hit,by omega,hc⟩
theorem OB(I:Inv X pins σ H s):∀(n:Nat)(d e:D)(A:Around)(x y:V)(v u:Value)(b:Bool),d.depth<=n->A.units+n<cLine->Rep X.K H d x->Rep X.K H e y->RelV x v->RelV y u->ltD d e=some b->MU A s v u b:=by
 intro n
 induction n with
 |zero=>
  intro d e A x y v u b hd hu hx hy rx ry hb;cases d with
  |tup ds=>exact absurd hd (by show ¬ D.depths ds+1<=0;omega)
  |int i=>
   cases e with
   |int j=>
    cases hx;cases hy;obtain⟨t,rfl⟩:=rx;obtain⟨t',rfl⟩:=ry;simp only[ltD]at hb;cases hb
    exact λprog w E Q q=>(PyProof.Rows.lt_int q:wpAny (model prog w) A (z8 .Lt _ _) Q E s)
   |_=>simp[ltD]at hb
  |str i=>
   cases e with
   |str j=>
    cases hx;cases hy;obtain⟨t,rfl⟩:=rx;obtain⟨t',rfl⟩:=ry;simp only[ltD]at hb;cases hb
    exact λprog w E Q q=>(PyProof.Rows.lt_str q:wpAny (model prog w) A (z8 .Lt _ _) Q E s)
   |_=>simp[ltD]at hb
  |_=>cases e <;> simp[ltD]at hb
 |succ n ih=>
  intro d e A x y v u b hd hu hx hy rx ry hb
  by_cases h0:d.depth<=n
  ·exact ih d e A x y v u b h0 (by omega) hx hy rx ry hb
  ·cases d with
   |tup ds=>
    cases e with
    |tup es=>
     have i9:D.depths ds<=n:=by have:D.depths ds+1<=n+1:=hd;omega
     obtain⟨a,vs,rfl,q,r⟩:=hx;cases rx
     obtain⟨its,rv,p,_⟩:=I.tuple q;obtain⟨a',cy,rfl,q',r'⟩:=hy;cases ry
     obtain⟨its',ak,p',_⟩:=I.tuple q';have hb':xC ds es=some b:=by simpa[ltD] using hb
     obtain⟨⟨cls,dd,data,sl⟩,ho,hc,m,ix⟩:=id p;obtain⟨⟨md,i7,data2,jd⟩,fi,cz,m2,hd2⟩:=id p';simp only at hc ix cz hd2;subst hc ix cz hd2;intro prog w E Q hq;refine richCompare_meets_room (op:=.Lt) ⟨_,ho,rfl⟩ ⟨_,fi,rfl⟩ PySem.F.slot_tuple_lt PySem.F.entry_tuple_lt (PySem.F.args_tuple_lt_2 _ _) (xT a a' its.toArray its'.toArray m m2 dd i7 sl jd ds es b hb')
      ⟨ho,fi,⟨?_,?_,?_⟩,show Value.bool b≠Value.notImplemented/\Q (.bool b) s from⟨(λx=>nomatch x),hq⟩⟩ (by omega)
     ·have l1:=r.length;have l3:=rv.length
      show its.length=ds.length
      omega
     ·have l1:=r'.length;have l3:=ak.length
      show its'.length=es.length
      omega
     ·intro j v u d e h1 h2 h3 h4;obtain⟨xv,j4,fg⟩:=r.at h3;obtain⟨yv,jk,gu⟩:=r'.at h4;obtain⟨xu,gq,b6⟩:=rv.get j4;obtain⟨yu,ij,bg⟩:=ak.get jk;have e1:v=xu:=by
       have:its[j]?=some v:=h1;rw[gq]at this;exact(zy this).symm
      have e2:u=yu:=by
       have:its'[j]?=some u:=h2;rw[ij]at this;exact(zy this).symm
      subst e1 e2;have pq:=D.depths_le h3;refine⟨CS I (n:=n) (by omega) ?_ fg gu b6 bg,λ_ b hb=>ih d e _ xv yv v u b (by omega) ?_ fg gu b6 bg hb⟩
      all_goals (show A.units+1+n<cLine;omega)
    |_=>simp[ltD]at hb
   |_=>exact absurd (zz n) h0
variable{C:MC}{k:Nat}{X:Cx}
def MW(x y:PV):Option Bool:=match x.d,y.d with
 |some d,some e=>if d.depth<=40 then ltD d e else none
 |_,_=>none
def vR:PV->PV->PH->Rs PV:=λx y h=>match x,y with
 |.tup xs,.tup ys=>ofB (MW (.tup xs) (.tup ys)) h
 |x,y=>vLt x y h
theorem Kg(hu:X.A.units+64<cLine)(K:yz)(hK:X.K=K):OpR X (z8 .Lt) (λx y H Q=>∃d e b,Rep K H d x/\Rep K H e y/\d.depth<=40/\ltD d e=some b/\Q (.bl b) H):=by
 subst hK;intro pins s σ H x y v u Q I rx ry h;obtain⟨d,e,b,hx,hy,hd,hb,q⟩:=h;exact OB I 40 d e X.A x y v u b hd (by omega) hx hy rx ry hb X.prog X.w X.xe _ ⟨.bl _,H,I,rfl,q⟩
set_option tactic.hygienic true in
theorem Kh:OpS C k X (z8 .Lt) vR:=λc=>((Kg c.hu64 C.K c.K).or (Of c)).imp λx y H Q h=>by
 obtain⟨φ,h,p,q,rh,rx,ry,po⟩:=h;unfold vR at po;split at po
 ·obtain⟨b,e,po⟩:=po.ofB;unfold MW at e;split at e
  ·rename_i d e' h1 h2;split at e
   ·rename_i hd;exact .inl ⟨d,e',b,rx.rep h1,ry.rep h2,hd,e,po.val rh rfl⟩
   ·cases e
  ·cases e
 ·exact .inr ⟨φ,h,p,q,rh,rx,ry,po⟩
@[simp]theorem L7{i j:Int}:vR (.int i) (.int j) h=.ok (.bl (decide (i<j))) h:=(rfl)
open PySem PySem.Spec PyProof.Rows
variable{C:MC}{k:Nat}{X:Cx}
theorem Dc:Cxt C k X->bT X (.builtin "sum") (λxs H Q=>∃(p:Addr)(ns:List Int),xs=[.ref p]/\SqL C.K H p (ns.map V.int)/\Q (.int ns.sum) H):=λc=>by
 intro pins s σ H xs us Q I r h;obtain⟨p,ns,rfl,hq,q⟩:=h;obtain⟨u,rfl,ru⟩:=vals1 r;cases ru
 rw[<-c.K]at hq;obtain⟨its,rv,pl,hz⟩:=I.list hq;have hi:IntsAre its ns:=intsAre_of rv;obtain⟨ys,hy⟩:=hi.allInts.items;have hl:=pl.isList;rw[hy]at hl;refine sum_intListG (I.ok.hd c.calm) hl λh' tk t' hk=>?_;have e:preSum (numAt ys) ys.size=ns.sum:=by
  have e1:=preSum_eq ys ys.size;rw[Rh (by simp)]at e1;rw[e1,<-nums_intItems,<-hy];have:=hi.numsOf;rw[show its.toArray.toList=its from rfl,this]
 rw[e];exact⟨.int ns.sum,H,I.kept hk,⟨_,rfl⟩,q⟩
def vS:List PV->Option (List Int)
 |[]=>some []
 |.int i::r=>(vS r).map (i::·)
 |_::_=>none
theorem C1{φ:List Addr}{H:Hp}:∀{xs:List PV}{vs:List V}{ns:List Int},RVs C φ H xs vs->vS xs=some ns->vs=ns.map V.int
 |[],[],_,_,e=>by cases e;rfl
 |x::xs,v::vs,ns,⟨h,r⟩,e=>by
  cases x with
  |int i=>
   cases h
   simp only[vS,z6]at e;obtain⟨m,e,rfl⟩:=e;rw[C1 r e];rfl
  |_=>cases e
 |[],_::_,_,h,_=>h.elim
 |_::_,[],_,h,_=>h.elim
theorem De(ns:List Int):vS (ns.map PV.int)=some ns:=by
 induction ns with
 |nil=>rfl
 |cons n ns ih=>simp[vS,ih]
def xU:List PV->PH->Rs PV:=λxs h=>match xs with
 |[x]=>match eJ x h with
  |some ys=>match vS ys with
   |some ns=>.ok (.int ns.sum) h
   |none=>.bad
  |none=>.bad
 |_=>.bad
set_option tactic.hygienic true in
theorem MX:nJ C k X (.builtin "sum") xU:=λc=>(Dc c).imp λvs H Q h=>by
 obtain⟨φ,h,ps,rh,rv,po⟩:=h;unfold xU at po;split at po
 ·obtain⟨v,rfl,rx⟩:=rv.one;split at po
  ·rename_i ys e;split at po
   ·rename_i ns en;obtain⟨a,vs,rfl,sa,ra⟩:=fS rh rx e;rw[C1 ra en]at sa;exact⟨a,ns,rfl,sa,po.val rh rfl⟩
   ·exact po.elim
  ·exact po.elim
 ·exact po.elim
theorem nT(e:h[n]?=some (.lst (ns.map PV.int))):xU [.ref n] h=.ok (.int ns.sum) h:=by
 have e1:eJ (.ref n) h=some (ns.map PV.int):=by unfold eJ aN;simp only[e]
 unfold xU;simp only[e1,De]
open Classical in
noncomputable def Df:PV->PV->PH->Rs PV:=λx y h=>match x,y with
 |.str z,.int n=>if z.length<=16/\-(2 ^ 63)<=n/\n<=1000 then .ok (.str (Txt.mul z n)) h else .bad
 |_,_=>.bad
theorem MY:OpS C k X (PK .Mult) Df:=λc=>by
 intro pins s σ H x y v u Q I rx ry h;obtain⟨φ,h,p,q,rh,rp,rq,po⟩:=h;unfold Df at po;split at po
 ·cases rp;cases rq;obtain⟨t,rfl⟩:=rx;obtain⟨t',rfl⟩:=ry;obtain⟨⟨h1,h2,h3⟩,po⟩:=po.ite;refine PySem.W.KXi.mul rfl h1 h2 (by omega) λt'' tk _ _=>⟨.str _,H,I.tok _,⟨_,rfl⟩,po.val rh rfl⟩
 ·exact po.elim
open PySem
@[simp]theorem NH{lo:Option Int}{hi:Option Int}{z:Str}(c:z.length<=16777216):vSl (.str z) lo hi h=.ok (.str (Txt.slice z lo hi)) h:=if_pos c
@[simp]theorem OC{lo:Option Int}{hi:Option Int}:vSl (.fl xs) lo hi h=.ok (.ref h.length) (h++[.lst (aT xs lo hi)]):=(rfl)
theorem xV{lo:Option Int}{hi:Option Int}(e:h[n]?=some (.lst xs)):vSl (.ref n) lo hi h=.ok (.ref h.length) (h++[.lst (aT xs lo hi)]):=by
 have e3:aN h n=some xs:=by unfold aN;rw[e]
 unfold vSl;simp only[e3]
@[simp]theorem Ki{x:PV}:fH x .non h=.ok (.bl (!sN x)) h:=(rfl)
section
variable{tg:Mg}{g:PH->Bool}
theorem C2{δ0:Ev}{Q:PV->PH->Prop}(I:Nat->PH->Prop):∀(xs:List PV)(k:Nat)(h:PH),I k h->
  (∀i x h,k<=i->xs[i-k]?=some x->I i h->g h=true/\∃δ1,tg x δ0=some δ1/\(tst δ1 h).W λb h'=>if b=true then(elt δ1 h').W λp iy=>∃ys,iy[n]?=some (.lst ys)/\ys.length<16777216/\I (i+1) (iy.set n (.lst (ys++[p]))) else I (i+1) h')->
  (∀h,I (k+xs.length) h->g h=true/\Q (.ref n) h)->(jD g tg tst elt δ0 n xs h).W Q
 |[],k,h,i0,_,fin=>by
  obtain⟨h1,h2⟩:=fin h i0;simp[jD,h1,h2]
 |x::xs,k,h,i0,step,fin=>by
  obtain⟨h1,δ1,h2,h3⟩:=step k x h (zb _) (by simp) i0;have go:∀h2,I (k+1) h2->(jD g tg tst elt δ0 n xs h2).W Q:=λh2 i2=>
   C2 I xs (k+1) h2 i2 (λi y h hk hy=>step i y h (by omega) (by
    have:i-k=(i-(k+1))+1:=by omega
    rw[this,Qa];exact hy)) (λh hi=>fin h (by
    have e:k+(x::xs).length=k+1+xs.length:=by simp;omega
    rw[e];exact hi))
  unfold jD;rw[if_pos h1,h2]
  show(Rs.bind (tst δ1 h) _).W Q
  rw[Bf];refine Bh h3 λb h' hb=>?_;cases b with
  |false=>exact go h' (by simpa using hb)
  |true=>
   show(Rs.bind (elt δ1 h') _).W Q
   rw[Bf];refine Bh (show(elt δ1 h').W _ from by simpa using hb) λp iy hp=>?_
   obtain⟨ys,e,hz,hi⟩:=hp;have e':cA iy n=some ys:=by unfold cA;rw[e]
   simp[e',hz];exact go _ hi
theorem vT{α:Type}{ys:List α}{emb:α->PV}(f:α->Option PV)(e:mi δ h=.ok ⟨ys.map emb,g⟩ h1)(hg:∀h,Ext h1 h->g h=true)(hz:ys.length<=16777216)(step:∀y∈ys,∃δ1,tg (emb y) (gR js δ)=some δ1/\∀h,Ext h1 h->match f y with
   |none=>tst δ1 h=.ok false h
   |some p=>tst δ1 h=.ok true h/\elt δ1 h=.ok p h):cV js mi tg tst elt δ h=.ok (.ref h1.length) (h1++[.lst (ys.filterMap f)]):=by
 have w:(cV js mi tg tst elt δ h).W λp h'=>p=.ref h1.length/\h'=h1++[.lst (ys.filterMap f)]:=by
  unfold cV;rw[e,Rs.bind_ok];refine C2 (λi h'=>h'=h1++[.lst ((ys.take i).filterMap f)]) (ys.map emb) 0 _ (by simp) (λi x h' _ hx hi=>?_) (λh' hi=>?_)
  ·subst hi;have hx:(ys.map emb)[i]?=some x:=by simpa using hx
   rw[zo]at hx;obtain⟨y,hy,rfl⟩:=z6.mp hx;have hil:=(yx.mp hy).1;obtain⟨δ1,ht,hs⟩:=step y (Pn hy);have hs:=hs (h1++[.lst ((ys.take i).filterMap f)]) (Ext.app _ _);have htk:ys.take (i+1)=ys.take i++[y]:=by rw[Ry,hy];rfl
   refine⟨hg _ (Ext.app _ _),δ1,ht,?_⟩;cases ef:f y with
   |none=>
    rw[ef]at hs;rw[hs];simp[htk,ef]
   |some p=>
    rw[ef]at hs;rw[hs.1];simp[hs.2];refine⟨?_,by simp[htk,ef]⟩;have:=List.length_filterMap_le f (ys.take i);rw[Q8]at this;omega
  ·subst hi;simp;exact hg _ (Ext.app _ _)
 obtain⟨p,h',e,rfl,rfl⟩:=hW w;exact e
theorem EL(e:m δ h=.ok (.ref n) h1)(hn:h1[n]?=some (.lst xs)):bB m δ h=.ok ⟨xs,Be n xs⟩ h1:=by
 unfold bB;have e3:aN h1 n=some xs:=by unfold aN;rw[hn]
 rw[e,Rs.bind_ok];unfold ofSeq;simp only[e3]
theorem EM(hn:h1[n]?=some (.lst xs)):∀h,Ext h1 h->Be n xs h=true:=λh hx=>by
 have e3:aN h n=some xs:=by unfold aN;rw[hx _ _ hn]
 unfold Be;rw[e3];exact PV.beqs_self xs
theorem EN(e:m δ h=.ok (.tup xs) h1):bB m δ h=.ok ⟨xs,λ_=>true⟩ h1:=by
 unfold bB;rw[e];rfl
theorem hZ{α:Type}{ys:List α}{emb:α->PV}(f:α->Option PV)(e:m δ h=.ok (.ref n) h1)(hn:h1[n]?=some (.lst (ys.map emb)))(hz:ys.length<=16777216)(step:∀y∈ys,∃δ1,tg (emb y) (gR js δ)=some δ1/\∀h,Ext h1 h->match f y with
   |none=>tst δ1 h=.ok false h
   |some p=>tst δ1 h=.ok true h/\elt δ1 h=.ok p h):cV js (bB m) tg tst elt δ h=.ok (.ref h1.length) (h1++[.lst (ys.filterMap f)]):=
 vT f (EL e hn) (EM hn) hz step
theorem vU{α:Type}{ys:List α}{emb:α->PV}(f:α->Option PV)(e:m δ h=.ok (.tup (ys.map emb)) h1)(hz:ys.length<=16777216)(step:∀y∈ys,∃δ1,tg (emb y) (gR js δ)=some δ1/\∀h,Ext h1 h->match f y with
   |none=>tst δ1 h=.ok false h
   |some p=>tst δ1 h=.ok true h/\elt δ1 h=.ok p h):cV js (bB m) tg tst elt δ h=.ok (.ref h1.length) (h1++[.lst (ys.filterMap f)]):=
 vT f (EN e) (λ_ _=>rfl) hz step
theorem filterMap_some{α β:Type}(f:α->β)(xs:List α):xs.filterMap (λx=>some (f x))=xs.map f:=by
 induction xs with
 |nil=>rfl
 |cons x xs ih=>simp[ih]
end
open PySem PySem.Spec PyProof.Rows
mutual
theorem EO(I:Inv X pins σ H s)(hK:X.K=C.K):∀(n:Nat){p:PV}{v:V}{u:Value},p.ky n=true->RV C φ H p v->RelV v u->HR s.heap p u
 |_,.int i,v,u,_,r,ru=>by cases r;exact ru
 |_,.str i,v,u,_,r,ru=>by cases r;exact ru
 |n+1,.tup ps,v,u,hk,r,ru=>by
  obtain⟨a,vs,rfl,q,rs⟩:=r;cases ru
  rw[<-hK]at q;obtain⟨its,rv,p,_⟩:=I.tuple q;exact⟨a,its,rfl,p,C3 I hK n (zp.mp hk) rs rv⟩
 |0,.tup _,_,_,hk,_,_=>by cases hk
 |n,.non,_,_,hk,_,_=>by cases n <;> cases hk
 |n,.bl _,_,_,hk,_,_=>by cases n <;> cases hk
 |n,.ref _,_,_,hk,_,_=>by cases n <;> cases hk
 |n,.ty _,_,_,hk,_,_=>by cases n <;> cases hk
 |n,.fl _,_,_,hk,_,_=>by cases n <;> cases hk
theorem C3(I:Inv X pins σ H s)(hK:X.K=C.K):∀(n:Nat){ps:List PV}{vs:List V}{us:List Value},(∀p∈ps,p.ky n=true)->RVs C φ H ps vs->aJ vs us->HRs s.heap ps us
 |_,[],[],us,_,_,ru=>by cases ru;trivial
 |n,p::ps,v::vs,us,hk,r,ru=>by
  cases ru with
  |cons h t=>exact⟨EO I hK n (hk p zd) r.1 h,C3 I hK n (λq hq=>hk q (zc _ hq)) r.2 t⟩
 |_,[],_::_,_,_,r,_=>r.elim
 |_,_::_,[],_,_,r,_=>r.elim
end
abbrev xW:List (PV×Addr×V)->List (PV×Addr×Value)->Prop:=Paired λp q=>p.1=q.1/\p.2.1=q.2.1/\RelV p.2.2 q.2.2
def HD(C:MC)(φ:List Addr)(H:Hp)(X:Cx)(s:Shared)(a:Addr)(kvs:List (PV×PV)):Prop:=
 ∃ks xs,RKd C φ H kvs ks/\xW ks xs/\xs.length<=zk/\(a == PR)=false/\s.heap.DictOfH (sH X.prog X.w) a xs
def bE(h:PH)(n:Nat):Option (List (PV×PV)):=match h[n]? with
 |some (.dD kvs)=>some kvs
 |some (.dK [])=>some []
 |_=>none
def PV.isKt:PV->Bool
 |.tup xs=>(PV.tup xs).ky 6
 |_=>false
theorem xX(h:p.isKt=true):p.ky 6=true:=by cases p <;> first|exact h|cases h
theorem nU(h:p.isKt=true)(r:RV C φ H p v):∃b,v=.ref b:=by
 cases p <;> first|(obtain⟨b,_,e,_⟩:=r;exact⟨b,e⟩)|cases h
variable{kvs:List (PV×PV)}
set_option tactic.hygienic true in
theorem iA(I:Inv X pins σ H s)(hK:X.K=C.K)(hw:X.w=C.w)(rh:RH C φ H h)(ha:φ[n]?=some a)(e:bE h n=some kvs):HD C φ H X s a kvs/\Mut (H a)/\qK (H a):=by
 unfold bE at e;split at e
 ·rename_i kv hk;cases e
  obtain⟨ks,hH,r⟩:=rh.at' n a _ ha hk;have hO:bH X.prog X.w H s.heap a (dDO C.w a ks):=I.hok a _ hH;obtain⟨⟨hz,hm,xs,rx,o,es,ep,h1,h2,h3,h4,h5⟩,_⟩:=hO;refine⟨⟨ks,xs,r,rx,by rw[<-Pw rx];exact hz,hm,o,es,ep,h1,h2,h3,?_,?_,h5⟩,by rw[hH];exact Qj,by rw[hH];exact Qj⟩
  ·rw[h4,<-hw];rfl
  ·have all:∀{l:List (PV×PV)}{m:List (PV×Addr×V)}{z:List (PV×Addr×Value)},RKd C φ H l m->xW m z->∀x∈z,(sH X.prog X.w).is s.heap x.1 x.2.1:=by
    intro l m z q;unfold RKd at q
    induction q generalizing z with
    |nil=>intro rz x hx;cases rz;cases hx
    |cons hq t ih=>
     intro rz x hx;cases rz with
     |cons hz' tz=>
      rcases zq.mp hx with e|hx
      ·subst e;refine⟨?_,?_⟩
       ·rw[<-hz'.1,<-hq.1];exact hq.2.1
       ·rw[<-hz'.1,<-hq.1,<-hz'.2.1];exact EO I hK 6 hq.2.1 hq.2.2.1 rfl
      ·exact ih tz x hx
   exact all r rx
 ·rename_i hk;cases e
  obtain⟨ks,hH,r⟩:=rh.at' n a _ ha hk;have:ks=[]:=by cases r;rfl
  subst this;obtain⟨z,hd,vs,rel,o,es,ep,h1,h2,h3,h4,h5,h6⟩:=zR I.hok hH;have:vs=[]:=by cases rel;rfl
  subst this;refine⟨⟨[],[],.nil,.nil,zz _,hd,o,es,ep,h1,h2,h3,?_,(λx hx=>nomatch hx),List.nodup_nil⟩,by rw[hH];exact Qj,by rw[hH];exact Qj⟩;cases he:es.toList with
  |nil=>rfl
  |cons y ys=>rw[he]at h5;cases h5
 ·cases e
variable{ks:List (PV×Addr×V)}
theorem HD.val{a:Addr}{xs:List (PV×Addr×Value)}(r:RKd C φ H kvs ks)(rx:xW ks xs)(k:PV):match aP kvs k,(atKey xs k).map (·.2) with
  |some p,some u=>∃v,RelV v u/\RV C φ H p v
  |none,none=>True
  |_,_=>False:=by
 unfold RKd at r
 induction r generalizing xs with
 |nil=>cases rx;trivial
 | @cons p q ps qs h t ih=>
  cases rx with
  | @cons q' x qs' xs' hx tx=>
   obtain⟨pk,pv⟩:=p
   by_cases e:pk=k
   ·have e':x.1=k:=hx.1.symm.trans (h.1.symm.trans e);have b:atKey (x::xs') k=some x.2:=by simp[atKey,QD,e']
    rw[b];unfold aP;rw[if_pos e];exact⟨_,hx.2.2,h.2.2.2⟩
   ·have e':¬ x.1=k:=λz=>e (h.1.trans (hx.1.trans z));have b:atKey (x::xs') k=atKey xs' k:=by simp[atKey,QD,e']
    rw[b];unfold aP;rw[if_neg e];exact ih tx
def putP{κ:Type}[DecidableEq κ](kvs:List (κ×PV))(k:κ)(p:PV):List (κ×PV):=if(aP kvs k).isSome then kvs.map (λkv=>if kv.1=k then(kv.1,p) else kv) else kvs++[(k,p)]
theorem HD.replace{a:Addr}{xs:List (PV×Addr×Value)}(r:RKd C φ H kvs ks)(rx:xW ks xs)(k:PV)(rp:RV C φ H p v)(ru:RelV v u):
  ∃cv,RKd C φ H (kvs.map λkv=>if kv.1=k then(kv.1,p) else kv) cv/\xW cv (xs.map (putAt k u)):=by
 unfold RKd at r
 induction r generalizing xs with
 |nil=>cases rx;exact⟨[],.nil,.nil⟩
 | @cons pp q ps qs h t ih=>
  cases rx with
  | @cons q' x qs' xs' hx tx=>
   obtain⟨cv,r1,r2⟩:=ih tx
   by_cases e:pp.1=k
   ·refine⟨(q.1,q.2.1,v)::cv,.cons ?_ r1,.cons ?_ r2⟩
    ·simp only[if_pos e];exact⟨h.1,h.2.1,h.2.2.1,rp⟩
    ·unfold putAt;rw[if_pos (hx.1.symm.trans (h.1.symm.trans e))];exact⟨hx.1,hx.2.1,ru⟩
   ·refine⟨q::cv,.cons ?_ r1,.cons ?_ r2⟩
    ·simp only[if_neg e];exact h
    ·unfold putAt;rw[if_neg λz=>e (h.1.trans (hx.1.trans z))];exact hx
theorem HD.put{a b:Addr}{xs:List (PV×Addr×Value)}(r:RKd C φ H kvs ks)(rx:xW ks xs){k:PV}(hk:k.ky 6=true)(rk:RV C φ H k (.ref b))(rp:RV C φ H p v)(ru:RelV v u):
  ∃cv,RKd C φ H (putP kvs k p) cv/\xW cv (storedH xs k b u):=by
 have hv:=HD.val (a:=b) r rx k;unfold putP storedH;cases e1:aP kvs k with
 |some p0=>
  rw[e1]at hv;cases e2:atKey xs k with
  |none=>rw[e2]at hv;exact hv.elim
  |some z=>exact HD.replace (a:=b) r rx k rp ru
 |none=>
  rw[e1]at hv;cases e2:atKey xs k with
  |some z=>rw[e2]at hv;exact hv.elim
  |none=>exact⟨ks++[(k,b,v)],Paired.snoc r ⟨rfl,hk,rk,rp⟩,Paired.snoc rx ⟨rfl,rfl,ru⟩⟩
theorem HD.isSome{xs:List (PV×Addr×Value)}(r:RKd C φ H kvs ks)(rx:xW ks xs)(k:PV):(atKey xs k).isSome=(aP kvs k).isSome:=by
 have hv:=HD.val (a:=0) r rx k;cases e1:aP kvs k with
 |some p0=>
  rw[e1]at hv;cases e2:atKey xs k with
  |none=>rw[e2]at hv;exact hv.elim
  |some z=>rfl
 |none=>
  rw[e1]at hv;cases e2:atKey xs k with
  |some z=>rw[e2]at hv;exact hv.elim
  |none=>rfl
theorem vV(I:Inv X pins σ H s)(hK:X.K=C.K){b:Addr}(hk:p.isKt=true)(r:RV C φ H p (.ref b)):(sH X.prog X.w).is s.heap p b:=⟨xX hk,EO I hK 6 (xX hk) r rfl⟩
theorem Cxt.room6{k:Nat}(c:Cxt C k X):(sH X.prog X.w).room X.A.in1:=by
 have:=c.hu64
 show X.A.units+1+6<cLine
 omega
def fI(x y:PV)(h:PH):Option (Option PV):=match y with
 |.ref n=>if x.isKt=true then(bE h n).map λkvs=>aP kvs x else none
 |_=>none
def C4(C:MC):V->V->Hp->(List Addr->Option PV->Prop)->Prop:=λx y H R=>∃φ h p n a kvs,RH C φ H h/\RV C φ H p x/\y=.ref a/\φ[n]?=some a/\bE h n=some kvs/\p.isKt=true/\R φ (aP kvs p)
set_option tactic.hygienic true in
theorem lP{q:PV}{x:V}{o:Option PV}{R:List Addr->Option PV->Prop}(rh:RH C φ H h)(rx:RV C φ H p x)(ry:RV C φ H q y)(e:fI p q h=some o)(r:R φ o):C4 C x y H R:=by
 unfold fI at e;cases q with
 |ref n=>
  obtain⟨a,rfl,ha⟩:=ry;dsimp only at e;split at e
  ·rename_i hk;cases e1:bE h n with
   |none=>rw[e1]at e;cases e
   |some kvs=>rw[e1]at e;cases e;exact⟨φ,h,p,n,a,kvs,rh,rx,rfl,ha,e1,hk,r⟩
  ·cases e
 |_=>cases e
theorem Ht{k:Nat}(c:Cxt C k X):OpR X (z8 .In) (λx y H Q=>C4 C x y H λ_ o=>Q (.bl o.isSome) H):=λpins s σ H x y v u Q I rx ry h=>by
 obtain⟨φ,h,p,n,a,kvs,rh,rp,rfl,ha,ht,hk,q⟩:=h;cases ry
 obtain⟨b,rfl⟩:=nU hk rp;cases rx
 obtain⟨⟨ks,xs,r,b5,hz,hm,dd⟩,_⟩:=iA I c.K c.w rh ha ht;refine wpAny_in_heap c.room6 (vV I c.K hk rp) hm dd ?_;rw[HD.isSome r b5 p];exact⟨.bl _,H,I.tok _,rfl,q⟩
theorem Bi{k:Nat}(c:Cxt C k X):OpR X (z8 .NotIn) (λx y H Q=>C4 C x y H λ_ o=>Q (.bl (!o.isSome)) H):=λpins s σ H x y v u Q I rx ry h=>by
 obtain⟨φ,h,p,n,a,kvs,rh,rp,rfl,ha,ht,hk,q⟩:=h;cases ry
 obtain⟨b,rfl⟩:=nU hk rp;cases rx
 obtain⟨⟨ks,xs,r,b5,hz,hm,dd⟩,_⟩:=iA I c.K c.w rh ha ht;refine wpAny_notIn_heap c.room6 (vV I c.K hk rp) hm dd ?_;rw[HD.isSome r b5 p];exact⟨.bl _,H,I.tok _,rfl,q⟩
def kO:PV->PV->PH->Rs PV:=λx y h=>match fI x y h with
 |some o=>.ok (.bl o.isSome) h
 |none=>vIn x y h
def eY:PV->PV->PH->Rs PV:=λx y h=>match fI x y h with
 |some o=>.ok (.bl (!o.isSome)) h
 |none=>Es x y h
theorem MZ{k:Nat}:OpS C k X (z8 .In) kO:=λc=>((Oi c).or (Ht c)).imp λx y H Q h=>by
 obtain⟨φ,h,p,q,rh,rx,ry,po⟩:=h;unfold kO at po;cases e:fI p q h with
 |none=>rw[e]at po;exact .inl ⟨φ,h,p,q,rh,rx,ry,po⟩
 |some o=>rw[e]at po;exact .inr (lP rh rx ry e (po.val rh rfl))
theorem ER{k:Nat}:OpS C k X (z8 .NotIn) eY:=λc=>((Ha c).or (Bi c)).imp λx y H Q h=>by
 obtain⟨φ,h,p,q,rh,rx,ry,po⟩:=h;unfold eY at po;cases e:fI p q h with
 |none=>rw[e]at po;exact .inl ⟨φ,h,p,q,rh,rx,ry,po⟩
 |some o=>rw[e]at po;exact .inr (lP rh rx ry e (po.val rh rfl))
theorem OD{k:Nat}(c:Cxt C k X):IxR X (λx y H Q=>C4 C y x H λφ o=>∃p,o=some p/\∀v:V,RV C φ H p v->Q v H):=by
 intro value slice pins s σ H x y v u Q I rx ry h hs;obtain⟨φ,h,p,n,a,kvs,rh,rp,rfl,ha,ht,hk,p',ep,q⟩:=h;cases rx
 obtain⟨b,rfl⟩:=nU hk rp;cases ry
 obtain⟨⟨ks,xs,r,b5,hz,hm,dd⟩,_⟩:=iA I c.K c.w rh ha ht;have hT:=dd.typeIs;have hv:=HD.val (a:=a) r b5 p;rw[ep]at hv;cases e2:atKey xs p with
 |none=>rw[e2]at hv;exact hv.elim
 |some z=>
  rw[e2]at hv;obtain⟨v',ae,b7⟩:=hv;unfold subscriptTail;refine yw ?_;rw[getitemInPython_of_ne hT.not_modules];refine yw (Qr hT PySem.F.slot_dict_getitem.lookup ?_);have fin:wpAny (model X.prog X.w) X.A (subscripted slice false (.ref a) (.ref b)) (λr s₃=>wpAny (model X.prog X.w) X.A (letTemporaryGo value (.ref a) r >>= λ_=>pure r) (EP X pins σ Q) X.xe s₃) X.xe s:=by
   rw[hs];exact wpAny_operating (wpAny_getItem_heap c.room6 (vV I c.K hk rp) dd e2 (yw (wpAny_letTemporaryGo (yy ⟨v',H,I.tok _,ae,q v' b7⟩))))
  first
   |exact yy (yw fin)
   |exact yw (yy (yw fin))
   |exact yw fin
def vAt:PV->PV->PH->Rs PV:=λx y h=>match fI y x h with
 |some (some p)=>.ok p h
 |some none=>.bad
 |none=>vIx x y h
theorem OE{k:Nat}{a b:Expr}(ha:SE C k X a ma)(hb:SE C k X b mb)(hs:BM b:=by intro _ _;rfl):SE C k X (.Subscript a b pos) (aB vAt ma mb):=λc=>
 (Ls ((ixC c.hu C.K c.K).or (OD c)) (ha c) (hb c) hs).imp λσ H Q h=>by
  obtain⟨φ,δ,h,rh,re,p⟩:=BU h;refine⟨φ,δ,h,rh,re,p.imp ?_⟩;rintro v H1 ⟨φ,δ,h,rh,re,p⟩;refine⟨φ,δ,h,rh,re,p.imp ?_⟩;rintro u H2 ⟨φ,h,p,q,rh,rx,ry,po⟩;unfold vAt at po;cases e:fI q p h with
  |none=>rw[e]at po;exact .inl (Mb ⟨φ,h,p,q,rh,rx,ry,po⟩)
  |some o=>
   rw[e]at po;cases o with
   |none=>exact po.elim
   |some r=>exact .inr (lP rh ry rx e ⟨r,rfl,λv' rv=>po.val rh rv⟩)
def sT(x y v:PV)(h:PH):Option PH:=match x with
 |.ref n=>match qV y,h[n]? with
  |some key,some (.dK kvs)=>if kvs.length<zk then some (h.set n (.dK (putP kvs key v))) else none
  |some _,_=>none
  |none,_=>if y.isKt=true then(match bE h n with
   |some kvs=>if kvs.length<zk then some (h.set n (.dD (putP kvs y v))) else none
   |none=>none) else none
 |_=>none
theorem Bj{κ:Type}[DecidableEq κ]{kvs:List (κ×PV)}{ks:List (κ×V)}(r:RKv C φ H kvs ks)(a:κ):(aP kvs a).isSome=(jG ks a).isSome:=by
 have:=vK r a;cases e1:aP kvs a with
 |none=>
  cases e2:jG ks a with
  |none=>rfl
  |some v=>rw[e1,e2]at this;exact this.elim
 |some p=>
  cases e2:jG ks a with
  |none=>rw[e1,e2]at this;exact this.elim
  |some v=>rfl
set_option tactic.hygienic true in
theorem ES{κ:Type}[DecidableEq κ]{kvs:List (κ×PV)}{ks:List (κ×V)}(r:RKv C φ H kvs ks)(a:κ)(rp:RV C φ H p v):RKv C φ H (putP kvs a p) (putK ks a v):=by
 unfold putP putK;rw[rS,Bj r a];split
 ·rename_i hx;clear hx;unfold RKv at r⊢
  induction r with
  |nil=>exact .nil
  | @cons p' q' ps qs h t ih=>
   refine .cons ?_ ih
   by_cases e:p'.1=a
   ·have e':q'.1=a:=h.1.symm.trans e;simp only[if_pos e,if_pos e'];exact⟨h.1,rp⟩
   ·have e':¬ q'.1=a:=λz=>e (h.1.trans z);simp only[if_neg e,if_neg e'];exact h
 ·exact Paired.snoc r ⟨rfl,rp⟩
variable{px py:PV}{xu yu:Value}
set_option tactic.hygienic true in
theorem vW{k:Nat}{h':PH}{pv:PV}{x:V}(c:Cxt C k X)(rh:RH C φ H h)(rx:RV C φ H px x)(ry:RV C φ H py y)(rv:RV C φ H pv v)(e:sT px py pv h=some h'){Q:Unit->Shared->Prop}(I:Inv X pins σ H s)(jx:RelV x xu)(cu:RelV y yu)(i6:RelV v vu)(q:∀s' H',Inv X pins σ H' s'->Kp H H'->RH C φ H' h'->Q () s'):wpAny (model X.prog X.w) X.A (setItem xu yu vu) Q X.xe s:=by
 unfold sT at e;cases px with
 |ref n=>
  obtain⟨a,rfl,ha⟩:=rx;cases jx
  dsimp only at e;split at e
  ·rename_i key kvs ee hk;split at e
   ·rename_i hl;cases e
    obtain⟨ks,hH,rk⟩:=rh.at' n a _ ha hk;have ey:y=kV key:=Bb ry ee;subst ey;have i8:ks.length<zk:=by rw[<-Pw rk];exact hl
    refine CL c.hu I (.k hH i8) cu i6 λs' I'=>q s' _ I' (Kp.dK hH) ?_;refine rh.write ha (by rw[hH];exact Qj) ⟨_,aL,?_⟩;exact(ES rk key rv).mono zf (Kp.dK hH)
   ·cases e
  ·cases e
  ·split at e
   ·rename_i hk;split at e
    ·rename_i kvs ht;split at e
     ·rename_i hl;cases e
      obtain⟨b,rfl⟩:=nU hk ry;cases cu
      obtain⟨⟨ks,xs,r,b5,hz,hm,dd⟩,mu,nt⟩:=iA I c.K c.w rh ha ht;refine wpAny_setItem_heap (hsz:=hz) c.room6 (vV I c.K hk ry) dd λh' ka hs=>?_;obtain⟨cv,r1,r2⟩:=HD.put (a:=a) r b5 (xX hk) ry rv i6;obtain⟨o,es,ep,hq,h2,h3,h4,_,h5⟩:=ka;have ph:cv.length<=zk:=by
       have e1:=Pw r1;have e2:(putP kvs py pv).length<=kvs.length+1:=by
        unfold putP;split
        ·rw[za];omega
        ·simp
       omega
      refine q _ (upd H a (dDO C.w a cv)) (wY I mu hs ⟨o,hq⟩ ⟨⟨ph,hm,_,r2,o,es,ep,hq,h2,h3,?_,h5⟩,⟨o,hq⟩,?_⟩) (Kp.upd nt) ?_
      ·rw[h4,<-c.w];rfl
      ·rintro g1 g2 ⟨z1,z2,ws,z3,o',nc,jq,z4,z5⟩ keep;exact⟨z1,z2,ws,z3,o',nc,jq,keep _ z4,z5⟩
      ·exact rh.write ha nt ⟨cv,aL,RKd.mono zf (Kp.upd nt) r1⟩
     ·cases e
    ·cases e
   ·cases e
 |_=>cases e
open PySem PySem.Spec PyProof.Rows
def MtG(C:MC)(k:Nat)(X:Cx)(T:String)(ty:PV->PH->Bool)(id:String)(g:PV->List PV->PH->Rs PV):Prop:=Cxt C k X->MtR X id (rM C g)/\
 ∀pins s σ H φ h p x v,Inv X pins σ H s->RH C φ H h->RV C φ H p x->RelV x v->ty p h=true->s.TypeIs v T/\∀a,v=.ref a->∃ob,s.heap.get? a=some ob/\ob.dict=none
theorem OF{k:Nat}{o:Expr}{id:String}{g:PV->List PV->PH->Rs PV}(pa:PlainAttrs T)(slot:Slot T name id)(dq:typeOf (.builtin id)=pure (.type "method_descriptor"))(hm:MtG C k X T ty id g)(ho:SE C k X o mo)(ha:SA C k X (e::es) ms)(aq:QJ o name X.env (eval o X.env)=eval o X.env:=by rfl)(dn:((backTo af (zx (e::es) X.env)).all (λx=>!x.1)&&(backToKw af (keywordEach [] X.env)).all (λx=>x.1.isSome)
   && decide ((e::es).length+([]:List Keyword).length+(if([]:List Keyword).isEmpty then 0 else 1)<30))=true:=by rfl)(ao:(apos.endLine == af.line)=true:=by rfl)(hs:zx (e::es) X.env=(false,eval e X.env)::zx es X.env:=by rfl)(bo:(backTo af (zx es X.env)).any (·.1)=false:=by rfl):
  SE C k X (.Call (.Attribute o name apos) (e::es) [] af) (mMt ty g mo ms):=λc pins s σ H Q I ⟨φ,δ,h,rh,re,p⟩=>by
 refine wpAny_Call_method_late aq dn ao rfl (thn (ho c pins s σ H _ I ⟨φ,δ,h,rh,re,post.bind p⟩) ?_);rintro v s1 ⟨x,H1,I1,r1,φ1,px,h1,p1,t1,aa,ae,q1⟩;obtain⟨ht,q1⟩:=q1.ite;obtain⟨g1,g2⟩:=(hm c).2 pins s1 σ H1 φ1 h1 px x v I1 aa ae r1 ht;refine⟨T,id,pa,slot,dq,g1,g2,?_⟩;have hA:=ha c af pins s1 σ H1 _ I1 ⟨φ1,δ,h1,aa,re.mono p1 t1,postA.bind q1⟩;rw[hs]at hA⊢;refine Rg (show(false || (backTo af (zx es X.env)).any (·.1))=false by rw[bo];rfl) (Calls.evalArgs_plain (thn hA ?_));rintro us s2 ⟨vs,H2,I2,r2,φ2,ps,h2,p2,t2,aj,b7,q2⟩;exact(hm c).1 pins s2 σ H2 x vs v us Q I2 r1 r2 ⟨φ2,h2,px,ps,aj,ae.mono p2 t2,b7,q2⟩
theorem IM{k:Nat}{o:Expr}{id:String}{g:PV->List PV->PH->Rs PV}(pa:PlainAttrs T)(slot:Slot T name id)(dq:typeOf (.builtin id)=pure (.type "method_descriptor"))(hm:MtG C k X T ty id g)(ho:SE C k X o mo)(aq:QJ o name X.env (eval o X.env)=eval o X.env:=by rfl)(ao:(apos.endLine == af.line)=true:=by rfl):SE C k X (.Call (.Attribute o name apos) [] [] af) (sQ ty g mo):=λc pins s σ H Q I ⟨φ,δ,h,rh,re,p⟩=>by
 refine wpAny_Call_method0_late aq ao (thn (ho c pins s σ H _ I ⟨φ,δ,h,rh,re,post.bind p⟩) ?_);rintro v s1 ⟨x,H1,I1,r1,φ1,px,h1,p1,t1,aa,ae,q1⟩;obtain⟨ht,q1⟩:=q1.ite;obtain⟨g1,g2⟩:=(hm c).2 pins s1 σ H1 φ1 h1 px x v I1 aa ae r1 ht;exact⟨T,id,pa,slot,dq,g1,g2,Rg rfl (PySem.evalArgs_none ((hm c).1 pins s1 σ H1 x [] v [] Q I1 r1 .nil ⟨φ1,h1,px,[],aa,ae,trivial,q1⟩))⟩
def cX(x:PV)(h:PH):Bool:=match x with
 |.ref n=>match h[n]? with
  |some (.dK _)=>true
  |some (.dD _)=>true
  |_=>false
 |_=>false
set_option tactic.hygienic true in
theorem sU{k:Nat}(c:Cxt C k X):∀pins s σ H φ h p x v,Inv X pins σ H s->RH C φ H h->RV C φ H p x->RelV x v->cX p h=true->s.TypeIs v "dict" /\ ∀a,v=.ref a->∃ob,s.heap.get? a=some ob/\ob.dict=none:=by
 intro pins s σ H φ h p x v I rh rv r e;unfold cX at e;cases p with
 |ref n=>
  obtain⟨a,rfl,ha⟩:=rv;cases r
  dsimp only at e;split at e
  ·rename_i kvs hk;obtain⟨ks,hH,rk⟩:=rh.at' n a _ ha hk;obtain⟨z,hd,vs,rel,dd⟩:=zR I.hok hH;refine⟨dd.typeIs,λb eb=>?_⟩;cases eb
   obtain⟨ob,_,_,h1,h2,_⟩:=dd;exact⟨ob,h1,h2.2.1⟩
  ·rename_i kvs hk;have ht:bE h n=some kvs:=by unfold bE;rw[hk]
   obtain⟨⟨ks,xs,r,b5,hz,hm,dd⟩,_⟩:=iA I c.K c.w rh ha ht;refine⟨dd.typeIs,λb eb=>?_⟩;cases eb
   obtain⟨ob,_,_,h1,h2,_⟩:=dd;exact⟨ob,h1,h2.2.1⟩
  ·cases e
 |_=>cases e
def dG(h:PH)(x y:PV):Option (Option PV):=match fI y x h with
 |some o=>some o
 |none=>match x with
  |.ref n=>xN h n y
  |_=>none
def nV:PV->List PV->PH->Rs PV:=λx ps h=>match ps with
 |[y]=>match dG h x y with
  |some o=>.ok (o.getD .non) h
  |none=>.bad
 |[y,z]=>match dG h x y with
  |some o=>.ok (o.getD z) h
  |none=>.bad
 |_=>.bad
set_option tactic.hygienic true in
theorem ET{x y:PV}{o:Option PV}(e:fI x y h=some o):∃n kvs,y=.ref n/\x.isKt=true/\bE h n=some kvs/\o=aP kvs x:=by
 unfold fI at e;cases y with
 |ref n=>
  dsimp only at e;split at e
  ·rename_i hk;cases e1:bE h n with
   |none=>rw[e1]at e;cases e
   |some kvs=>rw[e1]at e;cases e;exact⟨n,kvs,rfl,hk,e1,rfl⟩
  ·cases e
 |_=>cases e
set_option tactic.hygienic true in
theorem Kj{k:Nat}(c:Cxt C k X):MtR X "dict.get" (rM C nV):=λpins s σ H x xs v us Q I rx rs h=>by
 obtain⟨φ,h,p,ps,rh,rp,j9,po⟩:=h
 -- what is found
 have key:∀{y:PV}{yv:V}{yu:Value}{o:Option PV}{d:PV}{dv:V}{du:Value}{more:List Value},dG h p y=some o->RV C φ H y yv->RelV yv yu->RV C φ H d dv->RelV dv du->
   ((more=[]/\du=.none/\dv=.non)\/more=[du])->(∀z,RV C φ H (o.getD d) z->Q z H)->wpAny (model X.prog X.w) X.A (call (.builtin "dict.get") (v::yu::more)) (EP X pins σ Q) X.xe s:=by
  intro y yv yu o d dv du more e ry cu rd rdu hm q;unfold dG at e;cases e1:fI y p h with
  |some o'=>
   rw[e1]at e;cases e
   obtain⟨n,kvs,rfl,hk,ht,rfl⟩:=ET e1;obtain⟨a,rfl,ha⟩:=rp;cases rx
   obtain⟨b,rfl⟩:=nU hk ry;cases cu
   obtain⟨⟨ks,xs,r,b5,hz,o9,dd⟩,_⟩:=iA I c.K c.w rh ha ht;have hv:=HD.val (a:=a) r b5 y;have fin:EP X pins σ Q (((atKey xs y).map (·.2)).getD du) { s with toks:=s.toks+(sH X.prog X.w).draws y }:=by
    cases e2:aP kvs y with
    |some p2=>
     rw[e2]at hv q;cases e3:atKey xs y with
     |none=>rw[e3]at hv;exact hv.elim
     |some z=>
      rw[e3]at hv;obtain⟨v',ae,b7⟩:=hv;exact⟨v',H,I.tok _,ae,q v' b7⟩
    |none=>
     rw[e2]at hv q;cases e3:atKey xs y with
     |some z=>rw[e3]at hv;exact hv.elim
     |none=>exact⟨dv,H,I.tok _,rdu,q dv rd⟩
   rcases hm with⟨rfl,rfl,_⟩|rfl
   ·exact Rm P6 dd.typeIs Qg (PySem.F.args_dict_get_2 _ _) (meetsH_dict_get (sH X.prog X.w) a b o9) ⟨c.room6,y,xs,vV I c.K hk ry,dd,fin⟩
   ·exact Rm P6 dd.typeIs Qg (PySem.F.args_dict_get_3 _ _ _) (meetsH_dict_get_default (sH X.prog X.w) a b o9 du) ⟨c.room6,y,xs,vV I c.K hk ry,dd,fin⟩
  |none=>
   rw[e1]at e;cases p with
   |ref n=>
    obtain⟨a,rfl,ha⟩:=rp;cases rx
    dsimp only at e;obtain⟨o',g,is,val⟩:=lJ rh ha ry e;have fin:∀w' s',Inv X pins σ H s'->RelV (o'.getD dv) w'->EP X pins σ Q w' s':=λw' s' I' r'=>by
     refine⟨o'.getD dv,H,I',r',q _ ?_⟩;cases o with
     |some p2=>obtain⟨w2,rfl,wc⟩:=val p2 rfl;exact wc
     |none=>
      cases o' with
      |none=>exact rd
      |some z=>cases is
    rcases hm with⟨rfl,rfl,rfl⟩|rfl
    ·exact JB c.hu I g cu fin
    ·exact JC c.hu I g cu rdu fin
   |_=>cases e
 unfold nV at po;split at po
 ·rename_i y;split at po
  ·rename_i o e;obtain⟨yv,rfl,ry⟩:=j9.one;obtain⟨yu,rfl,cu⟩:=vals1 rs;exact key (d:=.non) (dv:=.non) (du:=.none) e ry cu rfl rfl (.inl ⟨rfl,rfl,rfl⟩) λz rz=>po.val rh rz
  ·exact po.elim
 ·rename_i y z;split at po
  ·rename_i o e;obtain⟨yv,zv,rfl,ry,rz⟩:=j9.two;obtain⟨yu,zu,rfl,cu,yb⟩:=vals2 rs;exact key e ry cu rz yb (.inr rfl) λz rz=>po.val rh rz
  ·exact po.elim
 ·exact po.elim
theorem N0{k:Nat}:MtG C k X "dict" cX "dict.get" nV:=λc=>⟨Kj c,sU c⟩
def Dg(x:List Key):List (List Key)->List (List Key)
 |[]=>[x]
 |y::ys=>if bD y x=true then y::Dg x ys else x::y::ys
def iN:List (List Key)->List (List Key)
 |[]=>[]
 |x::xs=>Dg x (iN xs)
theorem pF(x:List Key):∀ys,(Dg x ys).Perm (x::ys)
 |[]=>.refl _
 |y::ys=>by
  unfold Dg;split
  ·exact((pF x ys).cons y).trans (.swap x y ys)
  ·exact .refl _
theorem fC:∀xs,(iN xs).Perm xs
 |[]=>.refl _
 |x::xs=>(pF x _).trans ((fC xs).cons x)
set_option tactic.hygienic true in
theorem qO{S:List Bool}{x:List Key}(hx:shape x=S):∀{ys:List (List Key)},(∀y∈ys,shape y=S)->ys.Pairwise (λa b=>bD b a=false)->(Dg x ys).Pairwise (λa b=>bD b a=false)
 |[],_,_=>List.pairwise_singleton _ _
 |y::ys,hs,hp=>by
  have hy:=hs y zd;have dj:=λz hz=>hs z (zc _ hz);rw[PJ]at hp;unfold Dg;split
  ·rename_i h;rw[PJ];refine⟨λz hz=>?_,qO hx dj hp.2⟩;rcases zq.mp ((pF x ys).mem_iff.mp hz) with rfl|hz
   ·exact nD h
   ·exact hp.1 z hz
  ·rename_i h;have h':bD y x=false:=by simpa using h
   rw[PJ];refine⟨λz hz=>?_,PJ.mpr hp⟩;rcases zq.mp hz with rfl|hz
   ·exact h'
   ·exact kF (hx.trans hy.symm) (hy.trans (dj z hz).symm) h' (hp.1 z hz)
theorem kR{S:List Bool}:∀{xs:List (List Key)},(∀y∈xs,shape y=S)->(iN xs).Pairwise (λa b=>bD b a=false)
 |[],_=>.nil
 |x::xs,hs=>qO (hs x zd) (λy hy=>hs y (zc _ ((fC xs).mem_iff.mp hy))) (kR λy hy=>hs y (zc _ hy))
variable{S:List Bool}
theorem lQ{xs ys:List (List Key)}(hs:∀y∈xs,shape y=S)(hp:ys.Perm xs)(h:ys.Pairwise (λa b=>bD b a=false)):ys=iN xs:=by
 refine RR (le:=λa b=>bD b a=false) (λa b ha hb h1 h2=>?_) h (kR hs) (hp.trans (fC xs).symm);exact nF ((hs a (hp.mem_iff.mp ha)).trans (hs b ((fC xs).mem_iff.mp hb)).symm) h2 h1
def kP:Key->PV
 |.inl i=>.int i
 |.inr x=>.str x
theorem Hu{x:PV}{a:Key}(h:qV x=some a):x=kP a:=by
 cases x <;> first|(cases h;rfl)|cases h
@[simp]theorem C5(a:Key):qV (kP a)=some a:=by cases a <;> rfl
def gI:List PV->Option (List Key)
 |[]=>some []
 |x::xs=>match qV x,gI xs with
  |some a,some r=>some (a::r)
  |_,_=>none
theorem nX:∀{xs:List PV}{ks:List Key},gI xs=some ks->xs=ks.map kP
 |[],_,h=>by cases h;rfl
 |x::xs,ks,h=>by
  unfold gI at h;cases e1:qV x with
  |none=>rw[e1]at h;cases h
  |some a=>
   cases e2:gI xs with
   |none=>rw[e1,e2]at h;cases h
   |some r=>
    rw[e1,e2]at h;cases h
    rw[Hu e1,nX e2];rfl
@[simp]theorem EU:∀ks:List Key,gI (ks.map kP)=some ks
 |[]=>rfl
 |a::ks=>by simp[gI,EU ks]
def tP(ks:List Key):PV:=.tup (ks.map kP)
def gJ:List PV->Option (List (List Key))
 |[]=>some []
 |.tup xs::r=>match gI xs,gJ r with
  |some a,some b=>some (a::b)
  |_,_=>none
 |_::_=>none
theorem sV:∀{xs:List PV}{ks:List (List Key)},gJ xs=some ks->xs=ks.map tP
 |[],_,h=>by cases h;rfl
 |x::xs,ks,h=>by
  cases x with
  |tup ys=>
   unfold gJ at h;cases e1:gI ys with
   |none=>rw[e1]at h;cases h
   |some a=>
    cases e2:gJ xs with
    |none=>rw[e1,e2]at h;cases h
    |some r=>
     rw[e1,e2]at h;cases h
     rw[nX e1,sV e2];rfl
  |_=>cases h
@[simp]theorem A8:∀ks:List (List Key),gJ (ks.map tP)=some ks
 |[]=>rfl
 |a::ks=>by simp[gJ,tP,A8 ks]
def nY(kss:List (List Key)):Bool:=match kss with
 |[]=>true
 |a::r=>(!a.isEmpty)&&r.all λx=>shape x == shape a
theorem lR(h:nY kss=true):∃b sh,∀ks∈kss,shape ks=b::sh:=by
 cases kss with
 |nil=>exact⟨true,[],λ_ h=>nomatch h⟩
 |cons a r=>
  unfold nY at h;rw[z0]at h;cases a with
  |nil=>cases h.1
  |cons z zs=>
   refine⟨cT z,shape zs,λks hk=>?_⟩;rcases zq.mp hk with rfl|hk
   ·rfl
   ·have:=zp.mp h.2 ks hk;exact eq_of_beq this
section
variable{k:Nat}
theorem N1{a:Key}:RV C φ H (kP a) v↔Rep C.K H (kD a) v:=by cases a <;> exact Iff.rfl
theorem xY{φ:List Addr}{H:Hp}:∀{ks:List Key}{vs:List V},RVs C φ H (ks.map kP) vs↔cP C.K H (ks.map kD) vs
 |[],[]=>Iff.rfl
 |[],_::_=>Iff.rfl
 |_::_,[]=>Iff.rfl
 |_::_,_::_=>and_congr N1 xY
theorem N2{ks:List Key}:RV C φ H (tP ks) v↔Rep C.K H (tD ks) v:=by
 constructor
 ·rintro⟨a,vs,e,s,r⟩;exact⟨a,vs,e,s,xY.mp r⟩
 ·rintro⟨a,vs,e,s,r⟩;exact⟨a,vs,e,s,xY.mpr r⟩
theorem nZ{φ:List Addr}{H:Hp}:∀{kss:List (List Key)}{vs:List V},RVs C φ H (kss.map tP) vs↔cP C.K H (kss.map tD) vs
 |[],[]=>Iff.rfl
 |[],_::_=>Iff.rfl
 |_::_,[]=>Iff.rfl
 |_::_,_::_=>and_congr N2 nZ
def C6(xs:List PV):Option (List PV):=match gJ xs with
 |some kss=>if kss.length<64/\nY kss=true then some ((iN kss).map tP) else none
 |none=>match gI xs with
  |some ks=>if ks.length<64/\ks.all (λx=>cT x == cT (.inr ""))=true then some ((iN (ks.map λx=>[x])).flatten.map kP) else none
  |none=>none
theorem RH.same(r:RH C φ H h)(s:zQ H H1):RH C φ H1 h:=⟨r.len,r.nd,λn b ob h1 h2=>by
 have q:=r.at' n b ob h1 h2;obtain⟨u,hu⟩:=q.some;exact q.stay zf (Kp.same s) ((s _ _ hu).trans hu.symm)⟩
set_option tactic.hygienic true in
theorem Hv{a b:Str}:bD [.inr a] [.inr b]=decide (a.cps.toList<b.cps.toList):=by
 unfold bD;split
 ·rename_i e;cases e
  simp[bD,List.lt_irrefl]
 ·rfl
theorem qP:∀{r:List Str}{p:Str},risingS p r=true->((p::r).map λx=>[(QT x:Key)]).Pairwise (λa b=>bD b a=false)
 |[],p,_=>List.pairwise_singleton _ _
 |x::r,p,h=>by
  have h0:bD [.inr x] [.inr p]=false/\risingS x r=true:=by
   unfold risingS at h;rw[z0,ltCps_eq]at h;rw[Hv];exact⟨by simpa using h.1,h.2⟩
  have ih:=qP h0.2;rw[zt,PJ];refine⟨λz hz=>?_,ih⟩;obtain⟨y,hy,rfl⟩:=z9.mp hz;rcases zq.mp hy with rfl|hy
  ·exact h0.1
  ·rw[zt,PJ]at ih;exact kF (a:=[.inr p]) (b:=[.inr x]) (c:=[.inr y]) rfl rfl h0.1 (ih.1 _ (z9.mpr ⟨y,hy,rfl⟩))
theorem Hw{ks:List Key}(h:ks.all (λx=>cT x == cT (.inr ""))=true):∃ss:List Str,ks=ss.map QT:=by
 induction ks with
 |nil=>exact⟨[],rfl⟩
 |cons a ks ih=>
  rw[QL,z0]at h;obtain⟨ss,e⟩:=ih h.2;cases a with
  |inl i=>exact absurd h.1 (by simp[cT])
  |inr x=>exact⟨x::ss,by rw[e];rfl⟩
theorem xZ{φ:List Addr}{H:Hp}:∀{ss:List Str}{vs:List V},RVs C φ H (ss.map PV.str) vs↔vs=ss.map V.str
 |[],[]=>by simp[RVs]
 |[],_::_=>by simp[RVs]
 |_::_,[]=>by simp[RVs]
 |x::ss,v::vs=>by
  simp only[zt,RVs,List.cons.injEq];exact and_congr Iff.rfl xZ
theorem vX:∀ss:List Str,(((ss.map λx=>[(QT x:Key)]).flatten).map kP)=ss.map PV.str
 |[]=>rfl
 |x::ss=>by
  have:=vX ss;simp only[zt,List.flatten_cons,List.singleton_append];rw[this];rfl
theorem Dh{kvs:List (Key×PV)}{ks:List (Key×V)}(r:RKv C φ H kvs ks):∀{kss:List (List Key)},gJ (kvs.map λkv=>PV.tup [kP kv.1,kv.2])=some kss->ks.map (λkv=>[kV kv.1,kv.2])=kss.map (λks=>ks.map kV):=by
 unfold RKv at r
 induction r with
 |nil=>intro kss h;cases h;rfl
 | @cons p q ps qs h t ih=>
  intro kss e;rw[zt]at e;unfold gJ at e;cases e1:gI [kP p.1,p.2] with
  |none=>rw[e1]at e;cases e
  |some a=>
   cases e2:gJ (ps.map λkv=>PV.tup [kP kv.1,kv.2]) with
   |none=>rw[e1,e2]at e;cases e
   |some b=>
    rw[e1,e2]at e;cases e
    rw[zt,zt,ih e2]
    congr 1
    unfold gI at e1;rw[C5]at e1;cases e3:gI [p.2] with
    |none=>rw[e3]at e1;cases e1
    |some c=>
     rw[e3]at e1;cases e1
     have:=nX e3
     match c,this with
     |[d],this=>
      have e4:p.2=kP d:=by simpa using this
      have rv:=h.2;rw[e4]at rv;have e5:q.2=kV d:=Bb rv (C5 d);rw[h.1,e5];rfl
     |[],this=>exact absurd this (by simp)
     |_::_::_,this=>exact absurd this (by simp)
def IP(h:PH)(n:Nat):Option (List PV):=match h[n]? with
 |some (.vw 0 d)=>match h[d]? with
  |some (.dK kvs)=>some (kvs.map λkv=>.tup [kP kv.1,kv.2])
  |_=>none
 |_=>none
def iO:List PV->PH->Rs PV:=λxs h=>match xs with
 |[.ref n]=>match aN h n with
  |some ys=>match C6 ys with
   |some zs=>.ok (.ref h.length) (h++[.lst zs])
   |none=>.bad
  |none=>match IP h n with
   |some ys=>match gJ ys with
    |some kss=>if kss.length<64/\nY kss=true then .ok (.ref h.length) (h++[.lst ((iN kss).map tP)]) else .bad
    |none=>.bad
   |none=>.bad
 |_=>.bad
set_option tactic.hygienic true in
theorem EV:nJ C k X (.builtin "sorted") iO:=λc=>bT.imp (bT.or (xH c.calm C.K c.K) (by have:=oV (X:=X);rw[c.K]at this;exact this)) λvs H Q h=>by
 obtain⟨φ,h,ps,rh,rv,po⟩:=h;unfold iO at po;split at po
 ·rename_i n;obtain⟨v,rfl,rx⟩:=rv.one;obtain⟨a,rfl,ha⟩:=rx;split at po
  ·rename_i ys e;obtain⟨a2,vs,ar,sa,ra⟩:=bZ rh e;rw[ha]at ar;cases ar;split at po
   ·rename_i zs ez;unfold C6 at ez;split at ez
    ·rename_i kss ek;split at ez
     ·rename_i hc;cases ez
      have ey:=sV ek;subst ey;obtain⟨b,sh,hsh⟩:=lR hc.2;refine .inl ⟨a,kss,sh,b,rfl,hc.1,hsh,.inl ⟨vs,sa,nZ.mp ra,λl fe cy hl hp hs hr=>?_⟩⟩;rw[lQ hsh hp hs]at hr;exact po.lnew rh (nZ.mpr hr) hl
     ·cases ez
    ·split at ez
     ·rename_i ks ek;split at ez
      ·rename_i hc;cases ez
       obtain⟨ss,rfl⟩:=Hw hc.2;have ey:=nX ek;rw[Pm]at ey;have wg:ys=ss.map PV.str:=ey;subst wg;have ev:=xZ.mp ra;subst ev;refine .inr ⟨a,ss,rfl,sa,by simpa using hc.1,λl di hl hp hs=>?_⟩
       have e1:(di.map λx=>[(QT x:Key)])=iN ((ss.map QT).map λx=>[x]):=by
        rw[Pm];refine lQ (S:=[false]) (λy hy=>?_) (hp.map _) ?_
        ·obtain⟨z,_,rfl⟩:=z9.mp hy;rfl
        ·cases di with
         |nil=>exact .nil
         |cons x r=>exact qP hs
       rw[<-e1]at po;refine po.lnew rh ?_ hl;have e2:(((di.map λx=>[(QT x:Key)]).flatten).map kP)=di.map PV.str:=vX di;rw[e2];exact xZ.mpr rfl
      ·cases ez
     ·cases ez
   ·exact po.elim
  ·split at po
   ·rename_i ys ev;split at po
    ·rename_i kss ek;obtain⟨hc,po⟩:=po.ite;unfold IP at ev;split at ev
     ·rename_i d hv;split at ev
      ·rename_i kvs hk;cases ev
       obtain⟨b,hb,hH⟩:=rh.at' n a _ ha hv;obtain⟨ks,hD,rk⟩:=rh.at' d b _ hb hk;obtain⟨bb,sh,hsh⟩:=lR hc.2;refine .inl ⟨a,kss,sh,bb,rfl,hc.1,hsh,.inr ⟨b,ks,hH,hD,?_,λH1 s1 l fe cy hl hp hs hr=>?_⟩⟩
       ·exact Dh rk ek
       ·rw[lQ hsh hp hs]at hr;exact(post.weak zf (Kp.same s1) po).lnew (rh.same s1) (nZ.mpr hr) hl
      ·cases ev
     ·cases ev
    ·exact po.elim
   ·exact po.elim
 ·exact po.elim
end
open PySem
@[simp]theorem N3{x:PV}:fI x (.tup xs) h=none:=(rfl)
@[simp]theorem N4{i:Int}{y:PV}:fI (.int i) y h=none:=by cases y <;> rfl
@[simp]theorem N5{i:Str}{y:PV}:fI (.str i) y h=none:=by cases y <;> rfl
theorem EW{x:PV}(e:h[n]?=some (.lst xs)):fI x (.ref n) h=none:=by
 unfold fI bE;simp[e]
@[simp]theorem NI{x:PV}{i:Int}:vAt x (.int i) h=vIx x (.int i) h:=by unfold vAt;simp
@[simp]theorem NJ{x:PV}{i:Str}:vAt x (.str i) h=vIx x (.str i) h:=by unfold vAt;simp
@[simp]theorem N6{x:PV}:kO x (.tup ys) h=vIn x (.tup ys) h:=by unfold kO;simp
theorem EX{x:PV}(e:h[n]?=some (.lst xs)):kO x (.ref n) h=vIn x (.ref n) h:=by unfold kO;rw[EW e]
theorem EY{kvs:List (Key×PV)}(e:h[n]?=some (.dK kvs)):cX (.ref n) h=true:=by unfold cX;simp[e]
variable{z:PV}
theorem Hx{kvs:List (Key×PV)}(e:h[n]?=some (.dK kvs)):nV (.ref n) [.str x,z] h=.ok ((aP kvs (.inr x)).getD z) h:=by
 simp[nV,dG,xN,e,qV]
theorem Hy{kvs:List (Key×PV)}(e:h[n]?=some (.dK kvs))(c:kvs.length<16777216):sT (.ref n) (.str x) z h=some (h.set n (.dK (putP kvs (.inr x) z))):=by
 simp[sT,e,qV,c]
open PySem PySem.Spec PyProof.Rows
def iP(h:PH)(d:Nat):Option (List PV):=match h[d]? with
 |some (.dK kvs)=>some (kvs.map (·.2))
 |some (.dD kvs)=>some (kvs.map (·.2))
 |_=>none
theorem sW{K:Type}[DecidableEq K]{knd:KeyKind prog w K}{es:List Ra}{kvs:List (K×Value)}(h:Pairs knd es kvs):es.map (·.val)=kvs.map (·.2):=by
 apply QA;intro i;rw[zo,zo];have hl:=h.length
 by_cases hi:i<es.length
 ·have e1:es[i]?=some es[i]:=by simp[hi]
  have ax:i<kvs.length:=by omega
  have e2:kvs[i]?=some (kvs[i].1,kvs[i].2):=by simp[ax]
  rw[e1,e2];exact congrArg some (h.get? e1 e2).2
 ·rw[QP (by omega),QP (by omega)];rfl
set_option tactic.hygienic true in
theorem A9{k:Nat}{d:Nat}{b:Addr}(c:Cxt C k X)(I:Inv X pins σ H s)(rh:RH C φ H h)(hb:φ[d]?=some b)(e:iP h d=some xs):
  s.TypeIs (.ref b) "dict" /\ (b == PR)=false/\xs.length<=zk/\∃oc es ep,s.heap.get? b=some oc/\oc.data=.dict es ep/\∃ws,RVs C φ H xs ws/\aJ ws (es.toList.map (·.val)):=by
 unfold iP at e;split at e
 ·rename_i kvs hk;cases e
  obtain⟨ks,hH,rk⟩:=rh.at' d b _ hb hk;obtain⟨z,hd,vs,rel,dd⟩:=zR I.hok hH;refine⟨dd.typeIs,hd,by rw[za,Pw rk];exact z,?_⟩;obtain⟨oc,es,ep,g1,g2,g3,g4,g5,g6⟩:=dd;refine⟨oc,es,ep,g1,g3,ks.map (·.2),?_,?_⟩
  ·unfold RKv at rk;clear hk hH rel z
   induction rk with
   |nil=>trivial
   |cons q t ih=>exact⟨q.2,ih⟩
  ·rw[sW g5];clear hk hH g4 g5 g6 z;unfold KV at rel;clear rk
   induction rel with
   |nil=>exact .nil
   |cons q t ih=>exact .cons q.2 ih
 ·rename_i kvs hk;cases e
  have ht:bE h d=some kvs:=by unfold bE;rw[hk]
  obtain⟨⟨ks,ys,r,b5,hz,hm,dd⟩,_⟩:=iA I c.K c.w rh hb ht;have hlen:kvs.length=ys.length:=(Pw r).trans (Pw b5);refine⟨dd.typeIs,hm,by rw[za,hlen];exact hz,?_⟩;obtain⟨oc,es,ep,g1,g2,g3,g4,g5,g6⟩:=dd;refine⟨oc,es,ep,g1,g3,ks.map (·.2.2),?_,?_⟩
  ·unfold RKd at r;clear hk ht b5 hlen
   induction r with
   |nil=>trivial
   |cons q t ih=>exact⟨q.2.2.2,ih⟩
  ·rw[g4,Pm];clear hk ht r hlen hz g4 g5 g6
   induction b5 with
   |nil=>exact .nil
   |cons q t ih=>exact .cons q.2.2 ih
 ·cases e
def vY:PV->List PV->PH->Rs PV:=λx ps h=>match x,ps with
 |.ref n,[]=>match iP h n with
  |some _=>.ok (.ref h.length) (h++[.vw 1 n])
  |none=>.bad
 |_,_=>.bad
set_option tactic.hygienic true in
theorem m_values{k:Nat}:MtG C k X "dict" cX "dict.values" vY:=λc=>⟨λpins s σ H x xs v us Q I rx rs h=>by
 obtain⟨φ,h,p,ps,rh,rp,j9,po⟩:=h;unfold vY at po;split at po
 ·rename_i n;split at po
  ·rename_i ys ey;obtain⟨a,rfl,ha⟩:=rp;have:xs=[]:=by cases xs <;> first|rfl|exact j9.elim
   subst this;cases rx
   cases rs
   obtain⟨hT,hm,_⟩:=A9 c I rh ha ey;refine Rm PySem.F.slot_dict_values hT PySem.F.entry_dict_values (PySem.F.args_dict_values_1 _) (xI a hm) ⟨hT,?_⟩;have fr:H s.heap.objs.size=none:=I.fresh;refine⟨.ref s.heap.objs.size,_,I.laid (t':=s.toks) (o:=Em 1 s.heap.objs.size a) (λb u e=>y0 _ e) (zb _) ?_,rfl,?_⟩
   ·exact⟨⟨_,zj _ rfl,rfl,rfl⟩,⟨_,zj _ rfl⟩,λh1 h2 ⟨o,e,p⟩ k=>⟨o,k o e,p⟩⟩
   ·exact po (φ++[s.heap.objs.size]) (.ref _) _ (Pp _ _) (Kp.new fr) (rh.new fr ⟨a,fK (Pp _ _) ha,aL⟩) ⟨_,rfl,by rw[<-rh.len];simp⟩
  ·exact po.elim
 ·exact po.elim,sU c⟩
def sX(h:PH)(n:Nat):Option (List PV):=match h[n]? with
 |some (.vw 1 d)=>iP h d
 |_=>none
variable{acc:Array Value}
theorem EZ{es:Array Ra}(h:ItemsOf (λi v=>∃e,es[i]?=some e/\v=e.val) acc es.size):acc.toList=es.toList.map (·.val):=by
 apply QA;intro i;rw[zo,Array.getElem?_toList,Array.getElem?_toList]
 by_cases hi:i<acc.size
 ·have e1:acc[i]?=some acc[i]:=by simp[hi]
  obtain⟨e,h1,h2⟩:=h.2 i _ e1;rw[e1,h1,h2];rfl
 ·have ax:¬ i<es.size:=by rw[<-h.1];exact hi
  rw[Qh (by omega),Qh (by omega)];rfl
theorem rC(e:h[n]?=some (.dK [])):bE h n=some []:=by simp[bE,e]
theorem yA(e:h[n]?=some (.dD kvs)):bE h n=some kvs:=by simp[bE,e]
open PySem PySem.Spec PyProof.Rows PySem.SeqAt PySem.W
def fk:PV->Nat
 |.tup (.int _::_)=>0
 |.tup (.str _::_)=>1
 |.tup (.tup _::_)=>2
 |_=>3
open PySem PySem.Spec PyProof.Rows
abbrev KP:=List Key×PV
def qQ(x:KP):List KP->List KP
 |[]=>[x]
 |y::ys=>if bD y.1 x.1=true then y::qQ x ys else x::y::ys
def fU:List KP->List KP
 |[]=>[]
 |x::xs=>qQ x (fU xs)
theorem lT(x:KP):∀ys,(qQ x ys).Perm (x::ys)
 |[]=>.refl _
 |y::ys=>by
  unfold qQ;split
  ·exact((lT x ys).cons y).trans (.swap x y ys)
  ·exact .refl _
theorem gK:∀xs,(fU xs).Perm xs
 |[]=>.refl _
 |x::xs=>(lT x _).trans ((gK xs).cons x)
set_option tactic.hygienic true in
theorem oA{S:List Bool}{x:KP}(hx:shape x.1=S):∀{ys:List KP},(∀y∈ys,shape y.1=S)->ys.Pairwise (λa b=>bD b.1 a.1=false)->(qQ x ys).Pairwise (λa b=>bD b.1 a.1=false)
 |[],_,_=>List.pairwise_singleton _ _
 |y::ys,hs,hp=>by
  have hy:=hs y zd;have dj:=λz hz=>hs z (zc _ hz);rw[PJ]at hp;unfold qQ;split
  ·rename_i h;rw[PJ];refine⟨λz hz=>?_,oA hx dj hp.2⟩;rcases zq.mp ((lT x ys).mem_iff.mp hz) with rfl|hz
   ·exact nD h
   ·exact hp.1 z hz
  ·rename_i h;have h':bD y.1 x.1=false:=by simpa using h
   rw[PJ];refine⟨λz hz=>?_,PJ.mpr hp⟩;rcases zq.mp hz with rfl|hz
   ·exact h'
   ·exact kF (hx.trans hy.symm) (hy.trans (dj z hz).symm) h' (hp.1 z hz)
theorem gU{S:List Bool}:∀{xs:List KP},(∀y∈xs,shape y.1=S)->(fU xs).Pairwise (λa b=>bD b.1 a.1=false)
 |[],_=>.nil
 |x::xs,hs=>oA (hs x zd) (λy hy=>hs y (zc _ ((gK xs).mem_iff.mp hy))) (gU λy hy=>hs y (zc _ hy))
theorem vZ{α β:Type}:∀{l:List (α×β)},(l.map (·.1)).Nodup->∀{a b:α×β},a∈l->b∈l->a.1=b.1->a=b
 |[],_,_,_,h,_,_=>nomatch h
 |x::l,nd,a,b,ha,hb,e=>by
  rw[zt,Qq]at nd;rcases zq.mp ha with rfl|ha'
  ·rcases zq.mp hb with rfl|hb'
   ·rfl
   ·exact(nd.1 (z9.mpr ⟨b,hb',e.symm⟩)).elim
  ·rcases zq.mp hb with rfl|hb'
   ·exact(nd.1 (z9.mpr ⟨a,ha',e⟩)).elim
   ·exact vZ nd.2 ha' hb' e
theorem sY{xs ys:List KP}(hs:∀y∈xs,shape y.1=S)(nd:(xs.map (·.1)).Nodup)(hp:ys.Perm xs)(h:ys.Pairwise (λa b=>bD b.1 a.1=false)):ys=fU xs:=by
 refine RR (le:=λa b=>bD b.1 a.1=false) (λa b ha hb h1 h2=>?_) h (gU hs) (hp.trans (gK xs).symm);have ha':=hp.mem_iff.mp ha;have hb':=(gK xs).mem_iff.mp hb;exact vZ nd ha' hb' (nF ((hs a ha').trans (hs b hb').symm) h2 h1)
open Classical in
noncomputable def sortBy(b:Bool)(ks ys:List PV):Option (List PV):=match gJ ks with
 |some kss=>if kss.length<64/\kss.length=ys.length/\nY kss=true/\kss.Nodup then some ((PySem.W.katRev b (fU (kss.zip ys))).map (·.2)) else none
 |none=>none
theorem Di(h1:kss.length<64)(h2:kss.length=ys.length)(h3:nY kss=true)(h4:kss.Nodup):sortBy b (kss.map tP) ys=some ((PySem.W.katRev b (fU (kss.zip ys))).map (·.2)):=by
 unfold sortBy;rw[A8];exact if_pos ⟨h1,h2,h3,h4⟩
noncomputable def gL(f:Fn)(b:Bool)(ys:List PV):List PV->List PV->PH->Rs PV
 |[],ks,h=>match sortBy b ks ys with
  |some zs=>.ok (.ref h.length) (h++[.lst zs])
  |none=>.bad
 |x::xs,ks,h=>(f [x] h).bind λk h1=>gL f b ys xs (ks++[k]) h1
def iQ(x:PV)(h:PH):Option (List PV):=match x with
 |.ref n=>match aN h n with
  |some ys=>some ys
  |none=>sX h n
 |.fl ys=>some ys
 |_=>none
noncomputable def lU(f:Fn)(b:Bool)(x:PV)(h:PH):Rs PV:=match iQ x h with
 |some ys=>if ys.length<64 then gL f b ys ys [] h else .bad
 |none=>.bad
noncomputable def iR(f:Fn)(b:Bool)(me:Me):Me:=λδ h=>(me δ h).bind λx h1=>lU f b x h1
theorem RVs.pick(r:RVs C φ H xs vs):∀{p:List Nat},(∀i∈p,i<xs.length)->RVs C φ H (p.map λi=>xs.getD i .non) (p.map λi=>vs.getD i .non)
 |[],_=>trivial
 |i::p,h=>by
  have hi:=h i zd;have g:xs[i]?=some (xs.getD i .non):=by simp[hi]
  obtain⟨v,hv,hr⟩:=r.at g;have e:vs.getD i .non=v:=by simp[Qf,hv]
  refine⟨?_,RVs.pick r λj hj=>h j (zc _ hj)⟩
  show RV C φ H (xs.getD i .non) (vs.getD i .non)
  rw[e];exact hr
theorem F0(I:Inv X pins σ H s)(ha:s.heap.objs.size<=a):X.s₀.heap.objs.size<=a/\a≠X.env.locals/\(∀x c,X.env.cells.lookup x=some c->c≠a)/\(∀p∈X.pn++pins,p.1≠a)/\a∉X.fs:=by
 refine⟨Ph I.sz ha,RQ (zr I.lt ha),λx c e z=>?_,λp hp z=>?_,I.nofs ha⟩
 ·obtain⟨v,o,ho,_⟩:=I.cell x c e;rw[z]at ho;exact absurd (zr (zl ho) ha) (P3 _)
 ·have ho:=(I.pin p hp).1;rw[z]at ho;exact absurd (zr (zl ho) ha) (P3 _)
theorem jR{its:Array Value}{e:Nat}:∀v,(seqObj "list" its e).data≠.cell v:=λv z=>nomatch z
theorem Inv.adopt{d:Addr}(I:Inv X pins σ H s)(ha:H a=none)(hd:H d=none)(fa:X.s₀.heap.objs.size<=a/\a≠X.env.locals/\(∀x c,X.env.cells.lookup x=some c->c≠a)/\(∀p∈X.pn++pins,p.1≠a)/\a∉X.fs)(fd:X.s₀.heap.objs.size<=d/\d≠X.env.locals/\(∀x c,X.env.cells.lookup x=some c->c≠d)/\(∀p∈X.pn++pins,p.1≠d)/\d∉X.fs)(kp:∀x u,x≠a->x≠d->s.heap.get? x=some u->h'.get? x=some u)(new:bH X.prog X.w (upd H a o) h' a o):Inv X pins σ (upd H a o) { s with heap:=h' }:=by
 have na:∀x u,H x=some u->x≠a:=λx u e z=>by rw[z,ha]at e;cases e
 have nd:∀x u,H x=some u->x≠d:=λx u e z=>by rw[z,hd]at e;cases e
 refine I.call' (s':={ s with heap:=h' }) (ch:=[a,d]) rfl ⟨λb u q n _ hx=>?_,λb u q n _ hx=>⟨u.slots,?_⟩,λb u q n hx=>?_,λb u q hx=>⟨u,?_⟩,λb xs q=>?_,λb u xs q=>?_,λb ps q=>⟨#[],?_⟩⟩ (λb u e=>?_) I.bare λb hb=>?_
 ·exact kp b u (λz=>hx (by simp[z])) (λz=>hx (by simp[z])) q
 ·exact kp b u (λz=>hx (by simp[z])) (λz=>hx (by simp[z])) q
 ·rw[aH (λz=>hx (by simp[z]))];exact n
 ·exact kp b u (λz=>hx (by simp[z])) (λz=>hx (by simp[z])) q
 ·rw[aH (na _ _ q)];exact q
 ·rw[aH (na _ _ q)];exact q
 ·rw[aH (na _ _ q),q];simp
 ·by_cases hb:b=a
  ·subst hb;rw[aL]at e;cases e;exact new
  ·rw[aH hb]at e;refine(I.hok b u e).stay (λc v hc q=>kp c v ?_ ?_ q) (λc q=>by rw[aH (na _ _ q)];exact q) λc xs q=>by rw[aH (na _ _ q)];exact q
   ·rcases hc with z|z
    ·rw[z];exact hb
    ·exact na _ _ z
   ·rcases hc with z|z
    ·rw[z];exact nd _ _ e
    ·exact nd _ _ z
 ·rcases zq.mp hb with rfl|hb
  ·exact⟨.inr fa.1,fa.2.1,fa.2.2.1,fa.2.2.2.1⟩
  ·rw[OY.mp hb];exact⟨.inr fd.1,fd.2.1,fd.2.2.1,fd.2.2.2.1⟩
def Kk(C:MC)(X:Cx)(pins:List (Addr×Obj))(σ:St)(φ:List Addr)(H:Hp)(f:Fn)(b:Bool)(ys:List PV)(Q:VK)(a z:Addr)(kS:Addr)(e1:Nat)(ks:List Value)(e:Nat)(s':Shared):Prop:=
 z<kS/\∃H' φ' h' zs ps,Inv X (pins++[(kS,seqObj "list" ks.toArray e),(a,seqObj "list" #[] e1)]) σ H' s'/\φ<+:φ'/\Kp H H'/\RH C φ' H' h'/\aJ zs ks/\RVs C φ' H' ps zs/\post C φ' H' (gL f b ys (ys.drop ks.length) ps h') Q
variable{A':Around}{pn:List Str}
theorem F1{k:Nat}{q:Addr}{f:Fn}{us:List V}{Q:VK}(c:Cxt C k X)(D:Def C.K X.mg x st q fd pn)(G:cD X.prog X.w C.K X.mg X.base CX0 j q fd pn (spM C 1 f))(hj:j+2<=k)(ry:RVs C φ H ys us)(rv:aJ us its)(eA:A'=X.A.in1.in1)(fr:∀kS,a<=kS->X.s₀.heap.objs.size<=kS/\kS≠X.env.locals/\(∀x c,X.env.cells.lookup x=some c->c≠kS)/\(∀p∈X.pn++pins,p.1≠kS)/\kS∉X.fs)(kS:Addr)(e1:Nat)(ks:List Value)(e:Nat)(s':Shared)(y:Value)(hy:its[ks.length]?=some y)(hJ:Kk C X pins σ φ H f b ys Q a a kS e1 ks e s'):
  wpAny (model X.prog X.w) A' (call (.ref q) [y]) (λv cq=>cq.heap.get? kS=some (seqObj "list" ks.toArray e)/\∀(h':Heap) e',QI kS cq.heap h'->h'.get? kS=some (seqObj "list" (ks++[v]).toArray e')->Kk C X pins σ φ H f b ys Q a a kS e1 (ks++[v]) e' { cq with heap:=h' }) (λ_ _=>False) s':=by
 subst eA;obtain⟨hz,H',φ',h',zs,ps,I,pp,tt,rh,rz,rp,po⟩:=hJ;have aw:ks.length<its.length:=(yx.mp hy).1;have nv:us.length=its.length:=rv.length;have u9:ys.length=us.length:=ry.length;have gy:ys[ks.length]?=some (ys[ks.length]'(by omega)):=by simp
 obtain⟨u,hu,ru⟩:=ry.at gy;obtain⟨y',jc,xq⟩:=rv.get hu;rw[hy]at jc;cases jc
 have hd:ys.drop ks.length=ys[ks.length]'(by omega)::ys.drop (ks.length+1):=drop_cons gy;rw[hd]at po;have o6:=c.K;have G':cD X.prog X.w X.K X.mg X.base CX0 j q fd pn (spM C 1 f):=by rw[o6];exact G
 have D':Def X.K X.mg x st q fd pn:=by rw[o6];exact D
 have vc:spM C 1 f [u] H' (λv H2=>∃φ2 p h2,φ'<+:φ2/\Kp H' H2/\RH C φ2 H2 h2/\RV C φ2 H2 p v/\post C φ2 H2 (gL f b ys (ys.drop (ks.length+1)) (ps++[p]) h2) Q) E0:=
  ⟨φ',h',[ys[ks.length]'(by omega)],rh,⟨ru.mono pp tt,trivial⟩,rfl,post.bind po⟩
 have hl:([y]:List Value).length=pn.length:=G'.len _ _ _ _ vc;refine wpAny_call (codeAny_mono (G'.run X.A.in1.in1 X.stack s' H' ⟨[y],[]⟩ [y] [u] _ E0 ((c.room.mono hj).in1.in1) I.env0.in1.in1 (by
  have:=D'.bd s' [y] I.kIn (by simpa using hl)
  simpa using this) (.cons xq .nil) vc) λr s2 hq=>?_)
 cases r with
 |error e=>exact hq.elim
 |ok fl=>
  cases fl with
  |next=>exact Qi hq
  |brk=>exact Qi hq
  |cont=>exact Qi hq
  |ret v=>
   obtain⟨x2,H2,I2,wj,φ2,p2,h2,uq,sk,aj,pf,xp⟩:=I.after hq;have gk:=I2.pin (kS,seqObj "list" ks.toArray e) (zh _ (zh _ zd));have ga:=I2.pin (a,seqObj "list" #[] e1) (zh _ (zh _ (zc _ zd)));refine⟨gk.1,λg e' sb gj=>?_⟩;have fk:=fr kS (QH hz);have w8:a≠kS:=z7 hz;have I3:Inv X (pins++[(a,seqObj "list" #[] e1)]) σ H2 s2:=I2.pins_of λp hp=>(OZ.mp hp).elim (λz=>I2.pin p (zh _ (OX _ z))) λz=>by
    rw[OY.mp z];exact ga
   have I4:=I3.turned (t':=s2.toks) (it:=kS) (h':=g) (λb' o' hb hq=>(sb.2 b' hb).trans hq) gk.2.1 fk.2.1 (.inr fk.1) fk.2.2.1 (λp hp=>by
    rcases OZ.mp hp with hp|hp
    ·exact fk.2.2.2.1 p (OX _ hp)
    ·rcases OZ.mp hp with hp|hp
     ·exact fk.2.2.2.1 p (zh _ hp)
     ·rw[OY.mp hp];exact w8)
   refine⟨hz,H2,φ2,h2,zs++[x2],ps++[p2],I4.pins_of λp hp=>?_,pp.trans uq,tt.trans sk,aj,rz.append (.cons wj .nil),(rp.mono uq sk).snoc pf,?_⟩
   ·rcases OZ.mp hp with hp|hp
    ·exact I4.pin p (zh _ (OX _ hp))
    ·rcases zq.mp hp with rfl|hp
     ·exact⟨gj,gk.2.1,fk.2.1,fk.2.2.2.2,jR⟩
     ·rw[OY.mp hp];exact I4.pin _ (zh _ (zh _ zd))
   ·rw[PP];exact xp
theorem Aa(hl:kss.length=ys.length)(hs:∀y∈kss,shape y=S)(nd:kss.Nodup){p:List Nat}(hp:p.Perm (Io ys.length))(ho:p.Pairwise (λi j=>(if b then bD (kss.getD i []) (kss.getD j []) else bD (kss.getD j []) (kss.getD i []))=false)):p.map (λi=>ys.getD i .non)=(PySem.W.katRev b (fU (kss.zip ys))).map (·.2):=by
 let zs:=kss.zip ys;have yi:zs.length=ys.length:=by show(kss.zip ys).length=_;simp[hl]
 have bj:∀i∈p,i<ys.length:=λi hi=>by simpa using hp.mem_iff.mp hi
 have eg:∀i,i<ys.length->zs.getD i ([],.non)=(kss.getD i [],ys.getD i .non):=λi hi=>by
  have h1:i<kss.length:=by omega
  have h2:i<zs.length:=by omega
  have h3:(kss.zip ys)[i]?=some (kss[i],ys[i]):=by
   rw[List.getElem?_zip_eq_some];exact⟨by simp[h1],by simp[hi]⟩
  show(kss.zip ys).getD i _=_
  simp[h1,hi,h3]
 have uz:(p.map λi=>zs.getD i ([],.non)).Perm zs:=vI (by rw[yi];exact hp);have hm:zs.map (·.1)=kss:=by
  show(kss.zip ys).map Prod.fst=kss
  exact List.map_fst_zip (by omega)
 have hsz:∀y∈zs,shape y.1=S:=λy hy=>hs _ (by rw[<-hm];exact z9.mpr ⟨y,hy,rfl⟩);have e2:p.map (λi=>ys.getD i .non)=(p.map λi=>zs.getD i ([],.non)).map (·.2):=by
  rw[Pm];exact Ql λi hi=>by show _=(zs.getD i _).2;rw[eg i (bj i hi)]
 rw[e2];have key:∀(R:Nat->Nat->Bool),p.Pairwise (λi j=>R i j=false)->(∀i j,i<ys.length->j<ys.length->R i j=bD (zs.getD j ([],.non)).1 (zs.getD i ([],.non)).1)->(p.map λi=>zs.getD i ([],.non)).Pairwise (λx y=>bD y.1 x.1=false):=λR h1 h2=>by
  rw[Qm];exact h1.imp_of_mem λ{i j} hi hj h=>by rw[<-h2 i j (bj i hi) (bj j hj)];exact h
 cases b with
 |false=>
  congr 1
  refine sY hsz (by rw[hm];exact nd) uz (key (λi j=>bD (kss.getD j []) (kss.getD i [])) ho λi j hi hj=>by rw[eg i hi,eg j hj])
 |true=>
  congr 1
  have hr:(p.map λi=>zs.getD i ([],.non)).reverse=fU zs:=by
   refine sY hsz (by rw[hm];exact nd) ((List.reverse_perm _).trans uz) ?_;rw[List.pairwise_reverse,Qm];exact ho.imp_of_mem λ{i j} hi hj h=>by
    rw[eg i (bj i hi),eg j (bj j hj)];exact h
  show _=(fU zs).reverse
  rw[<-hr,List.reverse_reverse]
variable{kw:List (Str×Value)}
set_option tactic.hygienic true in
theorem sZ{k:Nat}{q:Addr}{f:Fn}(c:Cxt C k X)(D:Def C.K X.mg x st q fd pn)(G:cD X.prog X.w C.K X.mg X.base CX0 j q fd pn (spM C 1 f))(hj:j+2<=k)(v5:∀v,argsOk "sorted" ⟨[v],kw⟩)(ar:∀v,argsOk "list.sort" ⟨[.ref v],kw⟩)(ht:∀v,Builtin.«list.sort» ⟨[.ref v],kw⟩=ksk_tree v (.ref q) b){Q:VK}(I:Inv X pins σ H s)(ru:RelV v u)(h:r1 C (lU f b) v H Q):
  wpAny (model X.prog X.w) X.A (call (.builtin "sorted") [u] kw) (EP X pins σ Q) X.xe s:=by
 obtain⟨φ,h,p,rh,rp,po⟩:=h;unfold lU at po;cases ei:iQ p h with
 |none=>rw[ei]at po;exact po.elim
 |some ys=>
 rw[ei]at po;obtain⟨da,po⟩:=po.ite;refine call_function_entry_kw kind_sorted plain_sorted entry_sorted (v5 u) ?_;unfold Builtin.«sorted»;refine yw (m:=checkCount "sorted" 1 1 _) (yy ?_);have col:wpAny (model X.prog X.w) X.A.in1 (collect u) (λits s1=>∃us,Inv X pins σ H s1/\aJ us its/\RVs C φ H ys us) X.xe s:=by
  have iz:∀{a:Addr}{vs:List V},v=.ref a->SqL C.K H a vs->RVs C φ H ys vs->wpAny (model X.prog X.w) X.A.in1 (collect u) (λits s1=>∃us,Inv X pins σ H s1/\aJ us its/\RVs C φ H ys us) X.xe s:=λ{a vs} ev sa ra=>by
   subst ev;cases ru
   have kb:SqL X.K H a vs:=by rw[c.K];exact sa
   obtain⟨its,rv,pl,hz⟩:=I.list kb;refine collect_list pl.isList ?_ (by have:=rv.length;have:=ra.length;rw[Pj];omega);exact⟨vs,I.kept (t':=s.toks) λb o e=>by
    have aw:b<s.heap.objs.size:=zl e
    first
     |(rw[Heap.get?_update_ne _ _ _ _ (z7 aw),QX _ _ _ (z7 aw)];exact e)
     |exact y0 _ e,rv,ra⟩
  unfold iQ at ei;split at ei
  ·rename_i n;split at ei
   ·rename_i ys' e;cases ei
    obtain⟨a,ev,ha⟩:=rp;obtain⟨a2,vs,ar,sa,ra⟩:=bZ rh e;rw[ha]at ar;cases ar;exact iz ev sa ra
   ·unfold sX at ei;split at ei
    ·rename_i d hv;obtain⟨a,ev,ha⟩:=rp;subst ev;cases ru
     obtain⟨bb,hb,hH⟩:=rh.at' n a _ ha hv;obtain⟨hT,hm,hz,oc,es,ep,g1,g2,ws,r1,r2⟩:=A9 c I rh hb ei;have yr:s.heap.IsValuesView a bb:=(I.hok a _ hH).1;have hn:es.size<=zk:=by
      have e1:=r1.length;have e2:ws.length=es.size:=by have:=r2.length;simpa using this
      rw[<-e2,<-e1];exact hz
     refine PySem.W.kdu_collect (Ek (r:=a) g2) (I.ok.hd c.calm) ⟨yr,g1⟩ hn λh' tk acc hk bx=>?_;exact⟨ws,I.kept (t':=tk) hk,by rw[EZ bx];exact r2,r1⟩
    ·cases ei
  ·cases ei
   obtain⟨a,vs,ev,sa,ra⟩:=rp;exact iz ev sa.sq ra
  ·cases ei
 refine yw (Qu col (λits s1 hh=>?_) λ_ _ z=>z);obtain⟨us,I1,rv,ry⟩:=hh;have nv:us.length=its.length:=rv.length;have u9:ys.length=us.length:=ry.length;refine yw (wpAny_newList ?_ (by rw[Pj];omega));have ie:(s1.heap.push (seqObj "list" its.toArray 0)).get? s1.heap.objs.size=some (seqObj "list" its.toArray 0):=zj _ rfl;have keep:∀b o,s1.heap.get? b=some o->b≠s1.heap.objs.size/\(s1.heap.push (seqObj "list" its.toArray 0)).get? b=some o:=λb o q=>⟨z7 (zl q),y0 _ q⟩;have fr:∀kS,s1.heap.objs.size<=kS->X.s₀.heap.objs.size<=kS/\kS≠X.env.locals/\(∀x c,X.env.cells.lookup x=some c->c≠kS)/\(∀p∈X.pn++pins,p.1≠kS)/\kS∉X.fs:=λkS hk=>F0 I1 hk
 show wpAny _ _ _ _ _ { s1 with heap:=s1.heap.push (seqObj "list" its.toArray 0) }
 refine yw (PF (wpAny_call_entry_kw slot_list_sort ⟨_,ie,rfl⟩ entry_list_sort ?body (ar _)))
 case body=>
  show wpAny (model X.prog X.w) X.A.in1.in1 (Builtin.«list.sort» ⟨[.ref s1.heap.objs.size],kw⟩) _ _ _
  rw[ht s1.heap.objs.size];refine B9 (s:={ s1 with heap:=s1.heap.push (seqObj "list" its.toArray 0) }) (a:=s1.heap.objs.size) (κ:=tuples' true) (vs:=its) ie (by omega) (Kk C X pins σ φ H f b ys Q s1.heap.objs.size s1.heap.objs.size) ?h0 ?df ?turn ?fin
  case h0=>
   intro kS e1 h' kp hk g1 g2;have jt:s1.heap.objs.size<kS:=by
    have:(s1.heap.push (seqObj "list" its.toArray 0)).objs.size<=kS:=hk;rw[RB]at this;exact this
   have I2:Inv X pins σ H { s1 with heap:=h' }:=I1.kept (t':=s1.toks) λb o q=>kp b o (keep b o q).1 (keep b o q).2;have fk:=fr kS (QH jt);have fa:=fr s1.heap.objs.size (zb _);refine⟨jt,H,φ,h,[],[],I2.pins_of λp hp=>?_,zf,Kp.refl H,rh,.nil,trivial,po⟩;rcases OZ.mp hp with hp|hp
   ·exact I2.pin p (zh _ hp)
   ·rcases zq.mp hp with rfl|hp
    ·exact⟨g2,I1.hok.fresh (QH jt),fk.2.1,fk.2.2.2.2,jR⟩
    ·rw[OY.mp hp];exact⟨g1,I1.hok.fresh (zb _),fa.2.1,fa.2.2.2.2,jR⟩
  case df=>
   rintro kS e1 ks e s' ⟨hz,H',φ',h',zs,ps,I',_⟩;exact⟨RQ hz,(I'.pin (s1.heap.objs.size,seqObj "list" #[] e1) (zh _ (zh _ (zc _ zd)))).1,(I'.pin (kS,seqObj "list" ks.toArray e) (zh _ (zh _ zd))).1⟩
  case turn=>
   intro kS e1 ks e s' y hy hJ;exact F1 c D G hj ry rv rfl fr kS e1 ks e s' y hy hJ
  case fin=>
   rintro kS e1 ks e s' hl ⟨hz,H',φ',h',zs,ps,I',pp,tt,a9,rz,rp',po'⟩;have hd:ys.drop ks.length=[]:=List.drop_eq_nil_of_le (by omega);rw[hd]at po';unfold gL at po';cases es:sortBy b ps ys with
   |none=>rw[es]at po';exact po'.elim
   |some out=>
   rw[es]at po';unfold sortBy at es;split at es
   ·rename_i kss ek;split at es
    ·rename_i hc;obtain⟨hc1,cz,vp,w9⟩:=hc;cases es
     have ep:=sV ek;subst ep;obtain⟨bb,sh,hsh⟩:=lR vp;have rr:cP X.K H' (kss.map tD) zs:=by rw[c.K];exact nZ.mp rp'
     have tk:=lI I' rr rz;have a8:∀i,i<its.length->shape (kss.getD i [])=bb::sh:=λi hi=>by
      have ax:i<kss.length:=by omega
      have:kss.getD i []=kss[i]:=by simp[ax]
      rw[this];exact hsh _ (RL ax)
     refine⟨λi j=>bD (kss.getD i []) (kss.getD j []),λi j k hi hj hk h1 h2=>?_,λi j _ _ h=>nD h,λh2 Q' E' hq=>?_,λi j hi hj Q' hq=>?_,λp g e2 a1 a2 kp he gk=>?_⟩
     ·exact kF ((a8 i hi).trans (a8 j hj).symm) ((a8 j hj).trans (a8 k hk).symm) h1 h2
     ·exact vH tk hsh (by omega) hq
     ·obtain⟨a,ua,q1,p1,r1⟩:=tk.get (i:=i) (by omega);obtain⟨d,ud,q2,p2,r2⟩:=tk.get (i:=j) (by omega);rw[q1,q2];exact sE p1 p2 r1 r2 ((a8 i hi).trans (a8 j hj).symm) hq
     ·have bj:∀i∈p,i<its.length:=λi hi=>by simpa using a1.mem_iff.mp hi
      have fa:=fr s1.heap.objs.size (zb _);have fk:=fr kS (QH hz);have wu:=I'.pin (kS,seqObj "list" ks.toArray e) (zh _ (zh _ zd));have u7:=I'.pin (s1.heap.objs.size,seqObj "list" #[] e1) (zh _ (zh _ (zc _ zd)));have I5:Inv X pins σ H' s':=I'.unpinned;have I6:=I5.adopt (a:=s1.heap.objs.size) (d:=kS) (o:=.lst (p.map λi=>us.getD i .non)) (h':=g) u7.2.1 wu.2.1 fa fk (λx o h1 h2 q=>kp x o h1 h2 q) (by
       refine⟨?_,p.map (λi=>its.getD i zm),e2,pA rv (λi hi=>by have:=bj i hi;omega),he⟩;rw[za,a1.length_eq,QY,Pj];omega)
      refine⟨_,rfl,yy ⟨_,rfl,.ref s1.heap.objs.size,_,I6,rfl,?_⟩⟩;refine po'.lnew a9 ?_ u7.2.1;rw[<-Aa (b:=b) cz hsh w9 (p:=p) (by rw[u9,nv];exact a1) a2];exact(ry.mono pp tt).pick (λi hi=>by have:=bj i hi;omega)
    ·cases es
   ·cases es
variable{cw kp:Pos}{kf:Str}
section
variable{q:Addr}{jb:Nat}{f:Fn}{p rp fc:Pos}
theorem Ab{Q:VK}(h:rd C (iR f b me) σ H Q):IA (rd C me) Gy σ H λvs H1=>∃x,vs=[x]/\r1 C (lU f b) x H1 Q:=by
 obtain⟨φ,δ,h,rh,re,po⟩:=h;refine⟨φ,δ,h,rh,re,(post.bind po).imp ?_⟩;rintro v H1 ⟨φ1,x,h1,p1,t1,aa,ae,q1⟩;exact⟨v,rfl,φ1,h1,x,aa,ae,q1⟩
theorem Hz{k:Nat}(D:Def C.K X.mg kf st q fd pn)(G:cD X.prog X.w C.K X.mg X.base CX0 j q fd pn (spM C 1 f))(he:SE C k X e me)(hb:("sorted" : Str)∈C.bs)(hj:j+2<=k:=by decide)(hg:Gl X "sorted" := by rfl)(qy:Gl X kf:=by rfl)(hdk:(kf == ("__debug__" : Str))=false:=by decide)(cg:zx [e] X.env=(false,eval e X.env)::zx [] X.env:=by rfl)(pj:backTo pos (zx [e] X.env)=(false,eval e X.env)::backTo pos (zx [] X.env):=by rfl)(ay:(backTo pos (zx [e] X.env)).any (·.1)=false:=by rfl):
  SE C k X (.Call (.Name "sorted" p) [e] [⟨some "key",.Name kf kp,cw⟩] pos) (iR f false me):=λc pins s σ H Q I h=>by
 refine P9 (oR I hg (c.bn _ hb) PyProof.Rows.Boot.«sorted» ?_ (by decide) (by decide));refine callWith_kw (thn (wQ (he c) AR cg pos pins s σ H _ I (Ab h)) λus s1 hh=>?_) pj ay;obtain⟨vs,H1,I1,rv,x,rfl,r⟩:=hh;obtain⟨u,rfl,ru⟩:=vals1 rv;refine kws_cons (iE I1 qy D.mg (kws_nil ?_) hdk)
 show wpAny _ _ (call (.builtin "sorted") [u] [(zg "key",.ref q)]) _ _ _
 exact sZ c D G hj (λv=>ksk_s1 _ _) (λv=>ksk_l1 _ _) (λv=>ksk_t1 _ _) I1 ru r
theorem F2{k:Nat}(D:Def C.K X.mg kf st q fd pn)(G:cD X.prog X.w C.K X.mg X.base CX0 j q fd pn (spM C 1 f))(he:SE C k X e me)(hb:("sorted" : Str)∈C.bs)(hj:j+2<=k:=by decide)(hg:Gl X "sorted" := by rfl)(qy:Gl X kf:=by rfl)(hdk:(kf == ("__debug__" : Str))=false:=by decide)(cg:zx [e] X.env=(false,eval e X.env)::zx [] X.env:=by rfl)(pj:backTo pos (zx [e] X.env)=(false,eval e X.env)::backTo pos (zx [] X.env):=by rfl)(ay:(backTo pos (zx [e] X.env)).any (·.1)=false:=by rfl):
  SE C k X (.Call (.Name "sorted" p) [e] [⟨some "key",.Name kf kp,cw⟩,⟨some "reverse",.Constant (.bool b) jb rp,fc⟩] pos) (iR f b me):=λc pins s σ H Q I h=>by
 refine P9 (oR I hg (c.bn _ hb) PyProof.Rows.Boot.«sorted» ?_ (by decide) (by decide));refine callWith_kw (thn (wQ (he c) AR cg pos pins s σ H _ I (Ab h)) λus s1 hh=>?_) pj ay;obtain⟨vs,H1,I1,rv,x,rfl,r⟩:=hh;obtain⟨u,rfl,ru⟩:=vals1 rv;refine kws_cons (iE I1 qy D.mg (kws_cons (Constant_bool (kws_nil ?_))) hdk)
 show wpAny _ _ (call (.builtin "sorted") [u] [(zg "key",.ref q),(zg "reverse",.bool b)]) _ _ _
 exact sZ c D G hj (λv=>ksk_s2 _ _ _) (λv=>ksk_l2 _ _ _) (λv=>ksk_t2 _ _ _) I1 ru r
end
open PySem
section
variable{α:Type}(key:α->List Key)
def Dj(x:α):List α->List α
 |[]=>[x]
 |y::ys=>if bD (key y) (key x)=true then y::Dj x ys else x::y::ys
def jS:List α->List α
 |[]=>[]
 |x::xs=>Dj key x (jS xs)
variable{key}
theorem wA(x:α):∀ys,(Dj key x ys).Perm (x::ys)
 |[]=>.refl _
 |y::ys=>by
  unfold Dj;split
  ·exact((wA x ys).cons y).trans (.swap x y ys)
  ·exact .refl _
theorem lV:∀xs,(jS key xs).Perm xs
 |[]=>.refl _
 |x::xs=>(wA x _).trans ((lV xs).cons x)
theorem Ac(f:α->PV)(x:α):∀ys:List α,qQ (key x,f x) (ys.map λy=>(key y,f y))=(Dj key x ys).map λy=>(key y,f y)
 |[]=>rfl
 |y::ys=>by
  rw[zt];unfold qQ Dj;dsimp only;split
  ·rw[Ac f x ys];rfl
  ·rfl
theorem pG(f:α->PV):∀xs:List α,fU (xs.map λy=>(key y,f y))=(jS key xs).map λy=>(key y,f y)
 |[]=>rfl
 |x::xs=>by
  rw[zt];unfold fU jS;rw[pG f xs,Ac]
theorem yB(f:α->PV){xs:List α}(hs:∀x∈xs,shape (key x)=S):(jS key xs).Pairwise (λa b=>bD (key b) (key a)=false):=by
 have h:=gU (S:=S) (xs:=xs.map λy=>(key y,f y)) (λy hy=>by
  obtain⟨x,hx,rfl⟩:=z9.mp hy;exact hs x hx)
 rw[pG,Qm]at h;exact h
theorem Ad{β γ:Type}(f:α->β)(g:α->γ):∀xs:List α,(xs.map f).zip (xs.map g)=xs.map λx=>(f x,g x)
 |[]=>rfl
 |x::xs=>by simp[Ad f g xs]
theorem F3{f:α->PV}{xs:List α}(h1:xs.length<64)(h3:nY (xs.map key)=true)(h4:(xs.map key).Nodup):sortBy b ((xs.map key).map tP) (xs.map f)=some ((PySem.W.katRev b (jS key xs)).map f):=by
 rw[Di (by simpa using h1) (by simp) h3 h4,Ad,pG]
 cases b with
 |false=>
  show some (((jS key xs).map λy=>(key y,f y)).map Prod.snd)=some ((jS key xs).map f)
  rw[Pm];rfl
 |true=>
  show some ((((jS key xs).map λy=>(key y,f y)).reverse).map Prod.snd)=some ((jS key xs).reverse.map f)
  rw[<-List.map_reverse,Pm];rfl
theorem F4{f:Fn}{b:Bool}{emb:α->PV}{ys zs:List PV}{Q:PV->PH->Prop}:∀(r done:List α)(h:PH),(∀d∈r,∀h(Q:PV->PH->Prop),(∀h',Ext h h'->Q (tP (key d)) h')->(f [emb d] h).W Q)->
  sortBy b (((done++r).map key).map tP) ys=some zs->(∀h',Ext h h'->Q (.ref h'.length) (h'++[.lst zs]))->(gL f b ys (r.map emb) ((done.map key).map tP) h).W Q
 |[],done,h,_,hs,k=>by
  rw[Rk]at hs;simp only[List.map_nil,gL,hs,xQ];exact k h (Ext.refl h)
 |x::r,done,h,hf,hs,k=>by
  rw[zt];unfold gL;rw[Bf];refine hf x zd h _ λh1 x1=>?_;have e:(done.map key).map tP++[tP (key x)]=((done++[x]).map key).map tP:=by simp
  rw[e];exact F4 r (done++[x]) h1 (λd hd=>hf d (zc _ hd)) (by rw[List.append_assoc];exact hs) λh' x2=>k h' (x1.trans x2)
theorem yC{f:Fn}{emb:α->PV}{xs:List α}{x:PV}{Q:PV->PH->Prop}(e:iQ x h=some (xs.map emb))(h1:xs.length<64)(h3:nY (xs.map key)=true)(hs:∀x∈xs,shape (key x)=S)(h4:(xs.map key).Nodup)(hf:∀d∈xs,∀h(Q:PV->PH->Prop),(∀h',Ext h h'->Q (tP (key d)) h')->(f [emb d] h).W Q)(k:∀(os:List α) h',Ext h h'->os.Perm xs->os.Pairwise (λp q=>(if b then bD (key p) (key q) else bD (key q) (key p))=false)->Q (.ref h'.length) (h'++[.lst (os.map emb)])):(lU f b x h).W Q:=by
 unfold lU;rw[e];dsimp only;rw[if_pos (by simpa using h1)]
 refine F4 (key:=key) xs [] h hf (F3 h1 h3 h4) λh' hx=>k _ h' hx ?_ ?_
 ·cases b with
  |false=>exact lV xs
  |true=>exact(List.reverse_perm _).trans (lV xs)
 ·have hp:=yB emb hs;cases b with
  |false=>exact hp
  |true=>
   show((jS key xs).reverse).Pairwise _
   rw[List.pairwise_reverse];exact hp
end
@[simp]theorem L8{f:Fn}:iR f b m δ h=(m δ h).bind λx h1=>lU f b x h1:=(rfl)
theorem tB(e:h[n]?=some (.lst xs)):iQ (.ref n) h=some xs:=by simp[iQ,aN,e]
set_option tactic.hygienic true in
theorem wB(e:bE h n=some kvs):iP h n=some (kvs.map (·.2)):=by
 unfold bE at e;split at e
 ·rename_i q;cases e;simp[iP,q]
 ·rename_i q;cases e;simp[iP,q]
 ·cases e
set_option tactic.hygienic true in
theorem bS(e:bE h n=some kvs):∃o,h[n]?=some o/\cX (.ref n) h=true/\∀h',h'[n]?=some o->bE h' n=some kvs:=by
 unfold bE at e;split at e
 ·rename_i q;cases e;exact⟨_,q,by simp[cX,q],λh' e=>by simp[bE,e]⟩
 ·rename_i q;cases e;exact⟨_,q,by simp[cX,q],λh' e=>by simp[bE,e]⟩
 ·cases e
theorem Ae{h':PH}(x:Ext h h')(e:bE h n=some kvs):bE h' n=some kvs:=by
 obtain⟨o,g,_,k⟩:=bS e;exact k h' (x _ _ g)
theorem Af{d:Nat}(e:h[n]?=some (.vw 1 d))(e2:bE h d=some kvs):iQ (.ref n) h=some (kvs.map (·.2)):=by
 have e1:aN h n=none:=by simp[aN,e]
 simp only[iQ,e1,sX,e];exact wB e2
theorem HA{d:Nat}(e:bE h d=some kvs):vY (.ref d) [] h=.ok (.ref h.length) (h++[.vw 1 d]):=by simp[vY,wB e]
theorem F5(e:bE h n=some kvs)(hk:(PV.tup xs).ky 6=true)(hl:kvs.length<16777216):sT (.ref n) (.tup xs) z h=some (h.set n (.dD (putP kvs (.tup xs) z))):=by
 have k1:(PV.tup xs).isKt=true:=hk;have i8:kvs.length<zk:=by rw[nQ];exact hl
 unfold sT;simp only[qV,k1,if_true,e];rw[if_pos i8]
theorem wC(e:bE h n=some kvs)(hk:(PV.tup xs).ky 6=true):eY (.tup xs) (.ref n) h=.ok (.bl (!(aP kvs (.tup xs)).isSome)) h:=by
 have k1:(PV.tup xs).isKt=true:=hk;have:fI (.tup xs) (.ref n) h=some (aP kvs (.tup xs)):=by simp only[fI,k1,if_true,e,Ru]
 unfold eY;rw[this]
theorem F6(e:bE h n=some kvs)(hk:(PV.tup xs).ky 6=true):kO (.tup xs) (.ref n) h=.ok (.bl (aP kvs (.tup xs)).isSome) h:=by
 have k1:(PV.tup xs).isKt=true:=hk;have:fI (.tup xs) (.ref n) h=some (aP kvs (.tup xs)):=by simp only[fI,k1,if_true,e,Ru]
 unfold kO;rw[this]
@[simp]theorem Kl:sN .non=true:=(rfl)
theorem Ext.setN{hX:PH}{o:MO}(x:Ext h hX)(hn:h.length<=n):Ext h (hX.set n o):=λm o' e=>by
 have:=(yx.mp e).1;rw[Pr (by omega)];exact x m o' e
theorem Bk:∀{ss:List Str},ss≠[]->gJ (ss.map PV.str)=none
 |[],h=>(h rfl).elim
 |_::_,_=>rfl
theorem tG:∀ss:List Str,gI (ss.map PV.str)=some (ss.map QT)
 |[]=>rfl
 |x::ss=>by simp[gI,qV,tG ss]
variable{ss:List Str}
theorem Dk(h:∀z∈kss,∃x∈ss,z=[.inr x]):∃zs:List Str,kss.flatten.map kP=zs.map PV.str/\kss=zs.map (λx=>[QT x]):=by
 induction kss with
 |nil=>exact⟨[],rfl,rfl⟩
 |cons a r ih=>
  obtain⟨x,_,rfl⟩:=h a zd;obtain⟨zs,e1,e2⟩:=ih λz hz=>h z (zc _ hz);refine⟨x::zs,?_,by rw[e2];rfl⟩
  show(([QT x]++r.flatten).map kP)=_
  rw[Pq,e1];rfl
def unS:List Key->Str
 |[.inr x]=>x
 |_=>""
theorem yD(e:h[n]?=some (.lst (ss.map PV.str)))(hl:ss.length<64):∃zs:List Str,zs.Perm ss/\iO [.ref n] h=.ok (.ref h.length) (h++[.lst (zs.map PV.str)]):=by
 have e3:aN h n=some (ss.map PV.str):=by simp[aN,e]
 by_cases hs:ss=[]
 ·subst hs;refine⟨[],.refl _,?_⟩;have yd:aN h n=some []:=e3;simp only[iO,yd,C6,gJ];rw[if_pos ⟨by decide,rfl⟩];rfl
 ·have hp:=fC ((ss.map QT).map λx=>[(x:Key)]);obtain⟨zs,e1,e2⟩:=Dk (ss:=ss) (kss:=iN ((ss.map QT).map λx=>[(x:Key)])) λz hz=>by
   have:=hp.mem_iff.mp hz;rw[Pm]at this;obtain⟨x,hx,rfl⟩:=z9.mp this;exact⟨x,hx,rfl⟩
  refine⟨zs,?_,?_⟩
  ·rw[e2,Pm]at hp;have h2:=hp.map unS;rw[Pm,Pm]at h2;have i1:(unS∘λx=>[(QT x:Key)])=id:=by funext x;rfl
   have i2:(unS∘(λx=>[(x:Key)])∘QT)=id:=by funext x;rfl
   rw[i1,i2,List.map_id,List.map_id]at h2;exact h2
  ·simp only[iO,e3,C6,Bk hs,tG];rw[if_pos ⟨by simpa using hl,zp.mpr λz hz=>by
    obtain⟨x,_,rfl⟩:=z9.mp hz;rfl⟩]
   dsimp only;rw[e1]
theorem Km{kvs:List (Key×PV)}(e:h[n]?=some (.dK kvs)):vIx (.ref n) (.str x) h=ofO (aP kvs (.inr x)) h:=by
 have e1:aN h n=none:=by simp[aN,e]
 simp[vIx,e1,xN,e,qV]
theorem wD{m:Nat}(e1:h[n]?=some (.lst xs))(e2:h[m]?=some (.lst ys))(c:xs.length+ys.length<=16777216):bQ (.ref n) (.ref m) h=.ok (.ref h.length) (h++[.lst (xs++ys)]):=by
 show Eo (.ref n) (.ref m) h=_
 simp[Eo,cA,e1,e2,c]
open PySem PySem.Spec PyProof.Rows
def jI(f:Str)(p:PV):List (Str×PV)->List (Str×PV)
 |[]=>[(f,p)]
 |(g,x)::r=>if g=f then(g,p)::r else(g,x)::jI f p r
def jT(x:PV)(h:PH):Option (Nat×Str×List (Str×PV)):=match x with
 |.ref n=>match h[n]? with
  |some (.ins c fs)=>some (n,c,fs)
  |_=>none
 |_=>none
def cH(f:Str):PV->PH->Rs PV:=λx h=>match jT x h with
 |some (_,_,fs)=>match fs.lookup f with
  |some p=>.ok p h
  |none=>.bad
 |none=>.bad
def qR(f:Str)(x y:PV)(h:PH):Option PH:=match jT x h with
 |some (n,c,fs)=>if fs.length<1000 then some (h.set n (.ins c (jI f y fs))) else none
 |none=>none
theorem F7{fs:List (Str×PV)}{ks:List (Str×V)}(r:RKv C φ H fs ks)(f:Str)(rv:RV C φ H p v):RKv C φ H (jI f p fs) (gY f v ks):=by
 unfold RKv at r⊢
 induction r with
 |nil=>exact .cons ⟨rfl,rv⟩ .nil
 | @cons a b as bs h t ih=>
  obtain⟨a1,a2⟩:=a;obtain⟨b1,b2⟩:=b;have e:a1=b1:=h.1;subst e;unfold jI gY
  by_cases z:a1=f
  ·rw[if_pos z,if_pos z];exact .cons ⟨rfl,rv⟩ t
  ·rw[if_neg z,if_neg z];exact .cons h ih
theorem tH{fs:List (Str×PV)}{ks:List (Str×V)}(r:RKv C φ H fs ks)(f:Str):(fs.lookup f=none/\ks.lookup f=none)\/∃p v,fs.lookup f=some p/\ks.lookup f=some v/\RV C φ H p v:=by
 unfold RKv at r
 induction r with
 |nil=>exact .inl ⟨rfl,rfl⟩
 | @cons a b as bs h t ih=>
  obtain⟨a1,a2⟩:=a;obtain⟨b1,b2⟩:=b;have e:a1=b1:=h.1;subst e;simp only[zw];cases z:(f == a1) with
  |true=>exact .inr ⟨a2,b2,rfl,rfl,h.2⟩
  |false=>exact ih
set_option tactic.hygienic true in
theorem tJ{x:PV}{c:Str}{fs:List (Str×PV)}(rh:RH C φ H h)(rv:RV C φ H x v)(e:jT x h=some (n,c,fs)):
  ∃a ca dx ks,x=.ref n/\v=.ref a/\φ[n]?=some a/\h[n]?=some (.ins c fs)/\C.cl c=some ca/\H a=some (.ins ca dx ks)/\RKv C φ H fs ks:=by
 unfold jT at e;cases x with
 |ref m=>
  obtain⟨a,rfl,ha⟩:=rv;dsimp only at e;split at e
  ·rename_i c' t9 q;cases e
   obtain⟨ca,dx,ks,h1,h2,h3⟩:=rh.at' _ a _ ha q;exact⟨a,ca,dx,ks,rfl,rfl,ha,q,h1,h2,h3⟩
  ·cases e
 |_=>cases e
def F8(C:MC)(f:Str):Prop:=∀c a,C.cl c=some a->Cls C.K a/\iG C.K a f
variable{h3:PH}{mv:Me}{value:Expr}
section
variable{o:Expr}{f:Str}{m7:Pos}
theorem N7{k:Nat}(hF:F8 C f)(he:SE C k X e m)(hb:QJ e f X.env (eval e X.env)=eval e X.env:=by rfl):SE C k X (.Attribute e f pos) (mUn (cH f) m):=λc=>
 (Jn (he c) hb).imp λσ H Q h=>by
  obtain⟨φ,δ,h,rh,re,p⟩:=h;refine⟨φ,δ,h,rh,re,(post.bind p).imp ?_⟩;rintro v H1 ⟨φ1,x,h1,p1,t1,aa,ae,q1⟩;unfold cH at q1;cases ei:jT x h1 with
  |none=>rw[ei]at q1;exact q1.elim
  |some z=>
   obtain⟨n,cn,fs⟩:=z;rw[ei]at q1;dsimp only at q1;obtain⟨a,ca,dx,ks,rfl,rfl,ha,hh,hc,hH,rk⟩:=tJ aa ae ei;obtain⟨cl,na⟩:=hF cn ca hc;rcases tH rk f with⟨l1,_⟩|⟨y,u,l1,l2,ru⟩
   ·rw[l1]at q1;exact q1.elim
   ·rw[l1]at q1;exact⟨a,ca,dx,ks,u,rfl,hH,by rw[c.K];exact cl,by rw[c.K];exact na,l2,q1.val aa ru⟩
def fD(f:Str)(mo mv:Me):Ms:=λδ h=>(mv δ h).fl λy h1=>(mo δ h1).fl λx h2=>match qR f x y h2 with
 |some h3=>.nx δ h3
 |none=>.bad
set_option tactic.hygienic true in
theorem HB{k:Nat}{x y:PV}{u:V}{D:Ends}(c:Cxt C k X)(hF:F8 C f)(rh:RH C φ H h)(re:RE C φ H δ σ)(rx:RV C φ H x v)(ry:RV C φ H y u)(es:qR f x y h=some h3)(q:bI C φ H (.nx δ h3) D):
  ∃a ca dx ks,v=.ref a/\H a=some (.ins ca dx ks)/\Cls X.K ca/\iG X.K ca f/\ks.length<1000/\D.nx σ (upd H a (.ins ca dx (gY f u ks)))/\∃n cn fs,jT x h=some (n,cn,fs)/\C.cl cn=some ca:=by
 unfold qR at es;cases ei:jT x h with
 |none=>rw[ei]at es;cases es
 |some z=>
  obtain⟨n,cn,fs⟩:=z;rw[ei]at es;dsimp only at es;split at es
  ·rename_i hl;cases es
   obtain⟨a,ca,dx,ks,rfl,rfl,ha,hh,hc,hH,rk⟩:=tJ rh rx ei;obtain⟨cl,na⟩:=hF cn ca hc;have kp:Kp H (upd H a (.ins ca dx (gY f u ks))):=Kp.upd (by rw[hH];trivial);refine⟨a,ca,dx,ks,rfl,hH,by rw[c.K];exact cl,by rw[c.K];exact na,by rw[<-Pw rk];exact hl,?_⟩;refine⟨q φ σ _ zf kp (rh.write ha (by rw[hH];trivial) ⟨ca,dx,_,hc,aL,?_⟩) (re.mono zf kp),n,cn,fs,rfl,hc⟩;exact(F7 rk f ry).mono zf kp
  ·cases es
theorem N8{k:Nat}(hF:F8 C f)(hv:SE C k X value mv)(ho:SE C k X o mo)(hs:RS value (some (.Attribute o f pos')) pos.line X.env=pure false:=by rfl):SSt C k X (.Assign [.Attribute o f pos'] value pos) (fD f mo mv):=λc=>
 (Jo (ho c) (hv c) hs).imp λD σ H h=>by
  obtain⟨φ,δ,h,rh,re,p⟩:=h;refine⟨φ,δ,h,rh,re,(post.fl p).imp ?_⟩;rintro u H1 ⟨φ1,y,h1,p1,t1,aa,ae,q1⟩;refine⟨φ1,δ,h1,aa,re.mono p1 t1,(post.fl q1).imp ?_⟩;rintro v H2 ⟨φ2,x,h2,p2,t2,aj,b7,q2⟩;cases es:qR f x y h2 with
  |none=>rw[es]at q2;exact q2.elim
  |some h3=>
   rw[es]at q2;obtain⟨a,ca,dx,ks,g1,g2,g3,g4,g5,g6,_⟩:=HB c hF aj ((re.mono p1 t1).mono p2 t2) b7 (ae.mono p2 t2) es q2;exact⟨a,ca,dx,ks,g1,g2,g3,g4,g5,g6⟩
end
def Ag(C:MC)(X:Cx)(k:Nat)(m:Str)(n:Nat)(tb:Str->Option Fn):Prop:=∀c a f,C.cl c=some a->tb c=some f->
 ∃g fd ps j,Cls C.K a/\CB C.K a m g/\j<=k/\cD X.prog X.w C.K X.mg X.base CX0 j g fd ps (spM C (n+1) f)/\Binds C.K fd ps []
theorem Kn{k:Nat}{m:Str}:Ag C X k m n (λ_=>none):=λ_ _ _ _ h=>nomatch h
variable{tb:Str->Option Fn}
theorem HC{k:Nat}{m c:Str}{g:Addr}{f:Fn}(hc:C.cl c=some a)(hC:Cls C.K a)(me:CB C.K a m g)(hj:j<=k)(G:cD X.prog X.w C.K X.mg X.base CX0 j g fd ps (spM C (n+1) f))(B:Binds C.K fd ps [])(r:Ag C X k m n tb):
  Ag C X k m n (λz=>if z=c then some f else tb z):=λc' a' f' h1 h2=>by
 have cm:(if c'=c then some f else tb c')=some f':=h2
 by_cases e:c'=c
 ·subst e;rw[hc]at h1;cases h1
  rw[if_pos rfl]at cm;cases cm
  exact⟨g,fd,ps,j,hC,me,hj,G,B⟩
 ·rw[if_neg e]at cm;exact r c' a' f' h1 cm
def cY(m:Str)(n:Nat)(tb:Str->Option Fn)(mo:Me)(ms:Ma):Me:=λδ h=>(mo δ h).bind λx h1=>match jT x h1 with
 |some (_,c,fs)=>match tb c,fs.lookup m with
  |some f,none=>(ms δ h1).bind λps h2=>if ps.length=n then f (x::ps) h2 else .bad
  |_,_=>.bad
 |none=>.bad
theorem Ko{k:Nat}{o:Expr}{m:Str}{pl:Sem Bool}(hM:Ag C X k m n tb)(ho:SE C k X o mo)(ha:SA C k X (e::es) ms)(cg:zx (e::es) X.env=(false,eval e X.env)::zx es X.env:=by rfl)(ay:(backTo pos (zx es X.env)).any (·.1)=false:=by rfl)(ht:eval (.Call (.Attribute o m apos) (e::es) [] pos) X.env=(do
   let ov <-eval o X.env
   standAt apos.atName
   let (f,first) <-holding [ov] (getMethod ov m pl)
   callWith pos f first (backTo pos (zx (e::es) X.env)) (backToKw pos (keywordEach [] X.env))):=by rfl):
  SE C k X (.Call (.Attribute o m apos) (e::es) [] pos) (cY m n tb mo ms):=λc pins s σ H Q I h=>by
 obtain⟨φ,δ,h,rh,re,p⟩:=h
 refine PySem.W.methodCall_KW (pl:=pl) (thn (ho c pins s σ H _ I ⟨φ,δ,h,rh,re,post.bind p⟩) λu s1 hh=>?_) ht
 obtain⟨v,H1,I1,ru,φ1,x,h1,p1,t1,aa,ae,q1⟩:=hh
 cases ei:jT x h1 with
 |none=>rw[ei]at q1;exact q1.elim
 |some z=>
  obtain⟨n',cn,fs⟩:=z
  rw[ei]at q1
  dsimp only at q1
  obtain⟨a,ca,dx,ks,rfl,rfl,hφ,hh,hc,hH,rk⟩:=tJ aa ae ei
  cases et:tb cn with
  |none=>rw[et]at q1;exact q1.elim
  |some f=>
   rw[et]at q1
   rcases tH rk m with⟨l1,l2⟩|⟨y,u',l1,_⟩
   ·rw[l1]at q1
    dsimp only at q1
    obtain⟨g,fd,ps,j,cl,me,hj,F,bd⟩:=hM cn ca f hc et
    have yp:Cls X.K ca:=by rw[c.K];exact cl
    have tj:CB X.K ca m g:=by rw[c.K];exact me
    have F':cD X.prog X.w X.K X.mg X.base CX0 j g fd ps (spM C (n+1) f):=by rw[c.K];exact F
    have m9:Binds X.K fd ps []:=by rw[c.K];exact bd
    cases ru
    refine AM I1 hH yp tj l2 ?_
    refine PySem.W.callWith_K (first:=[.ref a]) (h₀:=X.base) I.ok.mod.kin tj.kp (thn (ha c pos pins s1 σ H1 _ I1 ⟨φ1,δ,h1,aa,re.mono p1 t1,postA.bind q1⟩) λus s2 h2=>?_) cg ay
    obtain⟨vs,H2,I2,r2,φ2,zs,h3,p2,t2,aj,b7,q2⟩:=h2
    obtain⟨hl,q2⟩:=q2.ite
    refine⟨I2.kIn,?_⟩
    exact AS (us:=.ref a::us) (vs:=.ref a::vs) F' (c.room.mono hj) m9 .nil zP I2 (.cons rfl r2) ⟨φ2,h3,.ref n'::zs,aj,⟨⟨a,rfl,fK p2 hφ⟩,(by show RVs C φ2 H2 zs (vs++[]);rw[Rk];exact b7)⟩,by simp[hl],q2⟩
   ·rw[l1]at q1;exact q1.elim
def jE(cn:Str)(n:Nat)(f:Fn)(ms:Ma):Me:=λδ h=>(ms δ h).bind λps h1=>if ps.length=n then(f (.ref h1.length::ps) (h1++[.ins cn []])).bind λv h2=>(match v with
 |.non=>.ok (.ref h1.length) h2
 |_=>.bad) else .bad
variable{ca:Addr}{cn:Str}{fn:Fn}{zs:List PV}
theorem C7{Q:VK}(hc:C.cl cn=some ca)(rh:RH C φ H h)(rv:RVs C φ H zs vs)(q:post C φ H (if zs.length=n then(fn (.ref h.length::zs) (h++[.ins cn []])).bind λv h2=>(match v with|.non=>Rs.ok (.ref h.length) h2|_=>.bad) else .bad) Q):
  ∀y dx,H y=none->H dx=none->dx≠y->spM C (n+1) fn (.ref y::(vs++[])) (upd (upd H dx (.own y)) y (.ins ca dx [])) (λv H2=>v=.non/\Q (.ref y) H2) E0:=λy dx hy hd ne=>by
 obtain⟨hl,q⟩:=q.ite;have jc:(upd H dx (.own y)) y=none:=by rw[aH (PY ne)];exact hy
 have k1:Kp H (upd H dx (.own y)):=Kp.new hd;have k2:Kp (upd H dx (.own y)) (upd (upd H dx (.own y)) y (.ins ca dx [])):=Kp.new jc;have aj:RH C (φ++[y]) (upd (upd H dx (.own y)) y (.ins ca dx [])) (h++[.ins cn []]):=(rh.aside hd).new jc ⟨ca,dx,[],hc,aL,.nil⟩;have uu:RV C (φ++[y]) (upd (upd H dx (.own y)) y (.ins ca dx [])) (.ref h.length) (.ref y):=⟨y,rfl,by rw[<-rh.len];simp⟩;refine⟨φ++[y],h++[.ins cn []],.ref h.length::zs,aj,⟨uu,by rw[Rk];exact rv.mono (Pp _ _) (k1.trans k2)⟩,by simp[hl],?_⟩;refine(post.bind (post.weak (Pp _ [y]) (k1.trans k2) q)).imp ?_;rintro v H2 ⟨φ2,pv,h2,p2,t2,bq,rv3,q3⟩;cases pv with
 |non=>cases rv3;exact⟨rfl,q3.val bq (uu.mono p2 t2)⟩
 |_=>exact q3.elim
theorem Kr{k:Nat}{f:Addr}{p:Pos}(hc:C.cl cn=some ca)(M:Mk C.K ca f)(F:cD X.prog X.w C.K X.mg X.base CX0 j f fd ps (spM C (n+1) fn))(hm:X.mg x=some (.ref ca))(bd:Binds C.K fd ps [])(ha:SA C k X (e::es) ms)(hj:j+1<=k:=by decide)(hg:Gl X x:=by rfl)(bf:(x == ("__debug__" : Str))=false:=by decide)(he:zx (e::es) X.env=(false,eval e X.env)::zx es X.env:=by rfl)(ay:(backTo pos (zx es X.env)).any (·.1)=false:=by rfl):
  SE C k X (.Call (.Name x p) (e::es) [] pos) (jE cn n fn ms):=λc=>by
 have M':Mk X.K ca f:=by rw[c.K];exact M
 have F':cD X.prog X.w X.K X.mg X.base CX0 j f fd ps (spM C (n+1) fn):=by rw[c.K];exact F
 have m9:Binds X.K fd ps []:=by rw[c.K];exact bd
 refine(GA M' F' (c.room.mono hj) hg hm m9 .nil zP (ha c) bf he ay).imp λσ H Q h=>?_;obtain⟨φ,δ,h,rh,re,po⟩:=h;refine⟨φ,δ,h,rh,re,(postA.bind po).imp ?_⟩;rintro vs H1 ⟨φ1,zs,h1,p1,t1,aa,ae,q1⟩;exact C7 hc aa ae q1
theorem HE{k:Nat}{f:Addr}{p:Pos}(hc:C.cl cn=some ca)(M:Mk C.K ca f)(F:cD X.prog X.w C.K X.mg X.base CX0 j f fd ps (spM C (0+1) fn))(hm:X.mg x=some (.ref ca))(bd:Binds C.K fd ps [])(hj:j+1<=k:=by decide)(hg:Gl X x:=by rfl)(bf:(x == ("__debug__" : Str))=false:=by decide):SE C k X (.Call (.Name x p) [] [] pos) (jE cn 0 fn aD):=λc=>by
 have M':Mk X.K ca f:=by rw[c.K];exact M
 have F':cD X.prog X.w X.K X.mg X.base CX0 j f fd ps (spM C (0+1) fn):=by rw[c.K];exact F
 have m9:Binds X.K fd ps []:=by rw[c.K];exact bd
 refine(DV M' F' (c.room.mono hj) hg hm m9 .nil zP bf).imp λσ H Q h=>?_;obtain⟨φ,δ,h,rh,re,po⟩:=h;exact C7 (zs:=[]) hc rh trivial po
def eK(x y v:PV)(h:PH):Option PH:=match x,y with
 |.ref n,.int i=>match cA h n with
  |some xs=>match ixN xs.length i with
   |some j=>some (h.set n (.lst (xs.set j v)))
   |none=>none
  |none=>sT x y v h
 |_,_=>sT x y v h
def aZ(mv mo mi:Me):Ms:=λδ h=>(mv δ h).fl λv h1=>(mo δ h1).fl λx h2=>(mi δ h2).fl λy h3=>match eK x y v h3 with
 |some h4=>.nx δ h4
 |none=>.bad
set_option tactic.hygienic true in
theorem Bl{k:Nat}{h':PH}{pv:PV}{x:V}(c:Cxt C k X)(rh:RH C φ H h)(rx:RV C φ H px x)(ry:RV C φ H py y)(rv:RV C φ H pv v)(e:eK px py pv h=some h'){Q:Unit->Shared->Prop}(I:Inv X pins σ H s)(jx:RelV x xu)(cu:RelV y yu)(i6:RelV v vu)(q:∀s' H',Inv X pins σ H' s'->Kp H H'->RH C φ H' h'->Q () s'):wpAny (model X.prog X.w) X.A (setItem xu yu vu) Q X.xe s:=by
 unfold eK at e;split at e
 ·rename_i n i;split at e
  ·rename_i xs el;split at e
   ·rename_i j ej;cases e
    obtain⟨a,rfl,ha⟩:=rx;cases ry
    obtain⟨ws,hH,bt⟩:=rh.at' n a _ ha (fR el);refine thn (set_list pins s σ H (.ref a) (.int i) v xu yu vu (λH'=>H'=upd H a (.lst (ws.set j v))) I jx cu i6 ⟨a,ws,i,j,rfl,rfl,hH,by rw[<-bt.length];exact ej,rfl⟩) ?_;rintro _ s' ⟨H',I',rfl⟩;refine q s' _ I' (Kp.lst hH) (rh.write ha (by rw[hH];trivial) ⟨_,aL,(RVs.set rv j bt).mono zf (Kp.lst hH)⟩)
   ·cases e
  ·exact vW c rh rx ry rv e I jx cu i6 q
 ·exact vW c rh rx ry rv e I jx cu i6 q
theorem Ks{k:Nat}{o i:Expr}{mi:Me}(hv:SE C k X value mv)(ho:SE C k X o mo)(hi:SE C k X i mi)(hs:RS value (some (.Subscript o i pos')) pos.line X.env=pure false:=by rfl):
  SSt C k X (.Assign [.Subscript o i pos'] value pos) (aZ mv mo mi):=λc pins s σ H D I ⟨φ,δ,h,rh,re,p⟩=>by
 refine wpAny_Assign_Subscript (thn (hv c pins s σ H _ I ⟨φ,δ,h,rh,re,post.fl p⟩) ?_) hs;rintro vu s1 ⟨v,H1,I1,i6,φ1,pv,h1,p1,t1,aa,ae,q1⟩;refine thn (ho c pins s1 σ H1 _ I1 ⟨φ1,δ,h1,aa,re.mono p1 t1,post.fl q1⟩) ?_;rintro xu s2 ⟨x,H2,I2,jx,φ2,px,h2,p2,t2,aj,b7,q2⟩;refine thn (hi c pins s2 σ H2 _ I2 ⟨φ2,δ,h2,aj,(re.mono p1 t1).mono p2 t2,post.fl q2⟩) ?_;rintro yu s3 ⟨y,H3,I3,cu,φ3,py,h3,p3,t3,bq,rv3,q3⟩;cases e:eK px py pv h3 with
 |none=>rw[e]at q3;exact q3.elim
 |some h4=>
  rw[e]at q3;exact Bl c bq (b7.mono p3 t3) rv3 ((ae.mono p2 t2).mono p3 t3) e I3 jx cu i6 λs' H' I' kp a9=>⟨σ,H',I',q3 φ3 σ H' zf kp a9 ((((re.mono p1 t1).mono p2 t2).mono p3 t3).mono zf kp)⟩
theorem tK{c:Str}{fs:List (Str×PV)}(e:h[n]?=some (.ins c fs)):jT (.ref n) h=some (n,c,fs):=by simp[jT,e]
theorem iS{c f:Str}{fs:List (Str×PV)}(e:h[n]?=some (.ins c fs))(l:fs.lookup f=some p):cH f (.ref n) h=.ok p h:=by simp[cH,tK e,l]
theorem iB{c f:Str}{fs:List (Str×PV)}(e:h[n]?=some (.ins c fs))(l:fs.length<1000):qR f (.ref n) p h=some (h.set n (.ins c (jI f p fs))):=by simp[qR,tK e,l]
@[simp]theorem Bm{E:FE}{f:Str}:(fD f mo mv δ h).W E=(mv δ h).W λy h1=>(mo δ h1).W λx h2=>∃h3,qR f x y h2=some h3/\E.nx δ h3:=by
 unfold fD;rw[Bg]
 congr 1
 funext y h1
 rw[Bg]
 congr 1
 funext x h2
 cases e:qR f x y h2 <;> simp
@[simp]theorem jU{f:Fn}:jE cn n f ms δ h=(ms δ h).bind λps h1=>if ps.length=n then(f (.ref h1.length::ps) (h1++[.ins cn []])).bind λv h2=>(match v with|.non=>.ok (.ref h1.length) h2|_=>.bad) else .bad:=(rfl)
variable{mm:Str}
theorem bJ{k:Nat}{c:Str}{fs:List (Str×PV)}{f:Fn}(e:mo δ h=.ok (.ref k) h1)(g:h1[k]?=some (.ins c fs))(t:tb c=some f)(l:fs.lookup mm=none):
  cY mm n tb mo ms δ h=(ms δ h1).bind λps h2=>if ps.length=n then f (.ref k::ps) h2 else .bad:=by
 unfold cY;rw[e,Rs.bind_ok,tK g];simp only[t,l]
@[simp]theorem OG{E:FE}{mi:Me}:(aZ mv mo mi δ h).W E=(mv δ h).W λv h1=>(mo δ h1).W λx h2=>(mi δ h2).W λy h3=>∃h4,eK x y v h3=some h4/\E.nx δ h4:=by
 unfold aZ;rw[Bg]
 congr 1
 funext v h1
 rw[Bg]
 congr 1
 funext x h2
 rw[Bg]
 congr 1
 funext y h3
 cases e:eK x y v h3 <;> simp
theorem Dm{es:Array Ra}(hT:s.TypeIs (.ref dc) "dict")(hd:(dc == PR)=false)(h1:s.heap.get? dc=some oc)(h2:oc.data=.dict es ep)(q:Q (.ref s.heap.objs.size) { s with heap:=s.heap.push { cls:=.type "dict_keyiterator",data:=.fields #[.ref dc,.int 0 0,.int es.size 0,.int ep 0] } }):wpAny (model prog w) A (pyIter (.ref dc)) Q E s:=by
 refine wpAny_pyIter_slot hT F.slot_dict_iter (Pg F.slot_dict_iter hT F.entry_dict_iter ?_ (F.args_dict_iter_1 _));unfold Builtin.«dict.__iter__»;refine yw ?_;unfold Builtin.Dict.dictSlotNone;refine yw (wpAny_notOrdered_dict hT ?_)
 show wpAny _ _ (pure (Pf dc)) _ _ s
 refine yy ?_
 show wpAny _ _ (Qs dc >>= _) _ _ s
 unfold Qs;rw[if_neg (by rw[hd];exact zi)];refine yw (yy ?_);refine yw (PN h1 h2 ?_);refine yw (PZ h1 h2 ?_);refine yw (Pc (yy ⟨_,rfl,"dict_keyiterator",_,⟨_,zj _ rfl,rfl⟩,P7.lookup,?_⟩));simpa[rawInt] using q
theorem F9{es:Array Ra}{Q:Option Value->Shared->Prop}(hI:s.heap.IsKeyIter it dc i es.size ep)(h1:s.heap.get? dc=some oc)(h2:oc.data=.dict es ep)(aw:i<es.size)(q:∀h',h'.IsKeyIter it dc (i+1) es.size ep->QI it s.heap h'->Q (some es[i].key) { s with heap:=h' }):wpAny (model prog w) A (pyNext (.ref it)) Q E s:=by
 obtain⟨oi,g1,g2,g3⟩:=id hI;unfold pyNext;refine yw (Rx (Px (name:=zg "__next__") hI.typeIs P7 (Pg P7 hI.typeIs F.entry_dict_keyiterator_next ?_ (F.args_dict_keyiterator_next_1 _))));refine yw (yy (yw (yw ?_)))
 first|refine yw (Qx hI.typeIs (yy ?_))|refine yw (Q2 hI.typeIs (yy ?_))
 refine yw (RF g1 g3 ?_);rw[show Pi "dict_keyiterator" = false by decide];simp only[Pb,if_false]
 show wpAny _ _ (if(Pf dc == zm)=true then _ else _) _ _ s
 rw[if_neg (show ¬ ((Pf dc == zm)=true) from zi)]
 refine yw (yy (yw (PN h1 h2 ?_)));rw[if_neg (show ¬ _ by simp)];refine yw (yy (yw (PZ h1 h2 ?_)));rw[if_neg (show ¬ _ by simp)];refine yy ?_;simp only[show ¬ ((i:Int)<0) by omega,if_false,Q1,Qp aw];refine yw ?_
 first|refine yw (Qx hI.typeIs (yy ?_))|refine yw (Q2 hI.typeIs (yy ?_))
 refine yw (wpAny_isOneOf_keyiter hI.typeIs (show wpAny _ _ (setField (.ref it) 1 (rawInt ((i:Int)+1)) >>= _) _ _ s from yw (Rf g1 g3 (by simp) ?_)))
 have il:(s.heap.update it (Qy (·.setIfInBounds 1 (rawInt ((i:Int)+1))))).IsKeyIter it dc (i+1) es.size ep:=
  ⟨_,QK _ g1 (Rr (QO g3 _)),(Obj.cls_mapFields ..).trans g2,by rw[QO g3];simp[rawInt]⟩
 have jv:({ s with heap:=s.heap.update it (Qy (·.setIfInBounds 1 (rawInt ((i:Int)+1)))) }:Shared).TypeIs (.ref it) "dict_keyiterator" := il.typeIs;refine yw (PF (yw (wpAny_isOneOf_keyiter jv ?_)))
 show wpAny _ _ (pure es[i].key) _ _ _
 exact yy (yy ⟨_,rfl,yy (q _ il (Pk ..))⟩)
theorem Fb{es:Array Ra}{Q:Option Value->Shared->Prop}(hh:A.handled=none)(hI:s.heap.IsKeyIter it dc i es.size ep)(h1:s.heap.get? dc=some oc)(h2:oc.data=.dict es ep)(iu:es.size<=i)(q:∀h',Heap.ExtBut it s.heap h'->Q none { s with heap:=h' }):wpAny (model prog w) A (pyNext (.ref it)) Q E s:=by
 obtain⟨oi,g1,g2,g3⟩:=id hI;unfold pyNext;refine yw (Rx (Px (name:=zg "__next__") hI.typeIs P7 (Pg P7 hI.typeIs F.entry_dict_keyiterator_next ?_ (F.args_dict_keyiterator_next_1 _))));refine yw (yy (yw (yw ?_)))
 first|refine yw (Qx hI.typeIs (yy ?_))|refine yw (Q2 hI.typeIs (yy ?_))
 refine yw (RF g1 g3 ?_);rw[show Pi "dict_keyiterator" = false by decide];simp only[Pb,if_false]
 show wpAny _ _ (if(Pf dc == zm)=true then _ else _) _ _ s
 rw[if_neg (show ¬ ((Pf dc == zm)=true) from zi)]
 refine yw (yy (yw (PN h1 h2 ?_)));rw[if_neg (show ¬ _ by simp)];refine yw (yy (yw (PZ h1 h2 ?_)));rw[if_neg (show ¬ _ by simp)];refine yy ?_;simp only[show ¬ ((i:Int)<0) by omega,if_false,Q1,Qh iu];refine yw ?_
 first|refine yw (Qx hI.typeIs (yy ?_))|refine yw (Q2 hI.typeIs (yy ?_))
 refine(show wpAny _ _ (setField (.ref it) 0 .none >>= _) _ _ s from yw (Rf g1 g3 (by simp) ?_))
 refine(show wpAny _ _ (newExc (.type "StopIteration") [] >>= _) _ _ _ from yw ?_);simp only[newExc,newTuple]
 refine yw (Pc (yw (m:=RG _ _) (wpAny_of_eq (a:=zm) (by first|rfl|(simp only[RG];rfl)) (Pc ?_ (by size_fits)))) (by size_fits))
 simp only[raiseNew];refine yw (wpAny_handled ?_);rw[show A.in1.handled=none from hh]
 refine yw (yy (wpAny_throw ?_));refine yw (wpAny_isInstance (T:="StopIteration") (b:=true) ⟨_,zj _ rfl,rfl⟩ isSubtype_stop ?_);exact yy (q _ (((Pk ..).extBut.push _).push _))
section
variable{k:Nat}{o:Obj}{its:Array Value}{ps:List PV}
def IQ:PV->Option V
 |.non=>some .non
 |.bl b=>some (.bl b)
 |.int i=>some (.int i)
 |.str z=>some (.str z)
 |_=>none
def yE:List PV->Option (List V)
 |[]=>some []
 |p::r=>match IQ p,yE r with
  |some v,some vs=>some (v::vs)
  |_,_=>none
theorem HF(e:IQ p=some v):RV C φ H p v:=by
 cases p <;> first|(cases e;rfl)|cases e
set_option tactic.hygienic true in
theorem Ah{φ:List Addr}{H:Hp}:∀{ps:List PV}{vs:List V},yE ps=some vs->RVs C φ H ps vs
 |[],vs,e=>by cases e;trivial
 |p::ps,vs,e=>by
  unfold yE at e;split at e
  ·rename_i v ws e1 e2;cases e
   exact⟨HF e1,Ah e2⟩
  ·cases e
def N9(K:yz)(a:Addr)(ps:List PV):Prop:=∃(o:Obj)(its:Array Value)(n:Nat)(vs:List V),K.lookup a=some o/\o.cls=.type "tuple" /\ o.data=.seq its n/\its.size<=zk/\aJ vs its.toList/\o.dict=none/\yE ps=some vs
theorem Kt(hm:X.mg x=some (.ref a))(g:N9 C.K a ps)(hg:Gl X x:=by rfl)(hd:(x == ("__debug__" : Str))=false:=by decide):SE C k X (.Name x pos) (mC (.tup ps)):=λc=>
 (Ge (v:=.ref a) hg hm rfl hd).imp λσ H Q h=>by
  obtain⟨φ,δ,h,rh,re,p⟩:=h;obtain⟨o,its,n,vs,g1,g2,g3,g4,g5,g6,g7⟩:=g;exact p φ (.ref a) H zf (Kp.refl _) rh ⟨a,vs,rfl,.inr ⟨o,its,n,g1,g2,g3,g4,g5,g6⟩,Ah g7⟩
end
theorem yF(e:bE h n=some kvs)(hk:(PV.tup xs).ky 6=true)(hl:kvs.length<16777216):eK (.ref n) (.tup xs) z h=some (h.set n (.dD (putP kvs (.tup xs) z))):=by
 show sT (.ref n) (.tup xs) z h=_
 exact F5 e hk hl
theorem C8{kvs:List (Key×PV)}(e:h[n]?=some (.dK kvs))(hl:kvs.length<16777216):eK (.ref n) (.str x) z h=some (h.set n (.dK (putP kvs (.inr x) z))):=by
 show sT (.ref n) (.str x) z h=_
 exact Hy e hl
open PySem PySem.Spec PyProof.Rows PySem.SeqAt
variable{stored:List Value}{hN:Int}
section
theorem Dn{Q:Int->Shared->Prop}(h:∀n tk,Q n { s with toks:=tk }):wpAny (model prog w) A (pyHash .none) Q E s:=by
 have hT:s.TypeIs .none "NoneType" := typeIs_none s;unfold pyHash;unfold pyHashByItsType;have hv:[zm].any Value.onHeap=false:=rfl;refine yw ?_;rw[cRoomFor,if_neg (by rw[hv];exact zi)];refine yy ?_;refine yw (Qr hT RA.lookup ?_)
 show wpAny _ _ (if((some (Value.builtin "NoneType.__hash__"):Option Value) == some zm)=true then _ else _) Q E s
 rw[if_neg (show ¬ _ from by rw[beq_builtin_none];decide)]
 refine yw (Qr hT RA.lookup (show wpAny _ _ (callSpecialIfBoundUnlessNone? zm "__hash__" _ >>= _) Q E s from ?_))
 refine yw (wpAny_callSpecialIfBoundUnlessNone?_slot hT RA (Pg RA hT F.entry_NoneType_hash ?_ (F.args_NoneType_hash_1 _)));unfold Builtin.«NoneType.__hash__»;refine yw (m:=slotArgs "__hash__" 0 _) (wpAny_of_eq (a:=(zm,[])) (by rfl) ?_);refine wpAny_ret_mkInt ?_
 show wpAny _ _ (if(decide (-(2:Int) ^ 63<=4238894112)&&decide ((4238894112:Int)<2 ^ 63))=true then _ else _) Q E _
 rw[if_pos (by decide)];exact yy (h _ _)
variable{K:Type}[DecidableEq K]{knd:HeapKind prog w K}
theorem Do{Q:Bool->Shared->Prop}(cg:∀v∈stored,∃k' b,v=.ref b/\knd.is s.heap k' b)(h:Q false s):wpAny (model prog w) A (tableMayTell .none stored) Q E s:=by
 unfold tableMayTell;split
 ·exact yy h
 ·refine yw (wpAny_of_eq (a:=true) (by rfl) ?_);simp only[Bool.not_true,Pb,if_false];refine yw ?_;refine RM _ (λrest r s'=>s'=s/\r=(none,())/\∀v∈rest,∃k' b,v=.ref b/\knd.is s.heap k' b) _ ?_ ?_ _ _ ⟨rfl,rfl,cg⟩
  ·rintro x rest r s' ⟨rfl,rfl,hr⟩;obtain⟨k',b,rfl,hb⟩:=hr x zd;refine yw (knd.quiet hb ?_);simp only[Bool.not_true,Pb,if_false];exact yy ⟨rfl,rfl,λv hv=>hr v (zc _ hv)⟩
  ·rintro r s' ⟨rfl,rfl,_⟩;exact yy h
theorem find_none{d:Addr}{o:Obj}{es:Array Ra}{xs:List (K×Addr×Value)}{Q:Option Nat->Shared->Prop}(ho:s.heap.get? d=some o)(hd:o.data=.dict es ep)(he:es.toList=xs.map (entryOfKey knd))(sd:∀x∈xs,knd.is s.heap x.1 x.2.1)(heq:∀x∈xs,EqAt A s (.ref x.2.1) .none false)(h:Q none s):wpAny (model prog w) A (dictFind d .none hN) Q E s:=by
 have nk:∀e∈es,∃x∈xs,e=entryOfKey knd x:=by
  intro e bj;have:e∈xs.map (entryOfKey knd):=he▸Array.mem_toList_iff.mpr bj;obtain⟨x,hx,rfl⟩:=z9.mp this;exact⟨x,hx,rfl⟩
 have cg:∀v∈(placesWithHash es.size (λi=>es[i]?.map (·.hash)) hN).filterMap (λi=>es[i]?.map (·.key)),∃k' b,v=.ref b/\knd.is s.heap k' b:=by
  intro v hv;obtain⟨i,_,hi⟩:=List.mem_filterMap.mp hv;cases hei:es[i]? with
  |none=>rw[hei]at hi;cases hi
  |some e=>
   rw[hei]at hi;obtain rfl:e.key=v:=by simpa using hi
   obtain⟨x,hx,rfl⟩:=nk e (Array.mem_of_getElem? hei);exact⟨x.1,x.2.1,rfl,sd x hx⟩
 have ay:∀i∈placesWithHash es.size (λi=>es[i]?.map (·.hash)) hN,∃e,es[i]?=some e/\e.hash=hN:=by
  intro i hi;unfold placesWithHash at hi;obtain⟨_,h2⟩:=List.mem_filter.mp hi;dsimp only at h2;cases hei:es[i]? with
  |none=>rw[hei]at h2;simp at h2
  |some e=>rw[hei]at h2;exact⟨e,rfl,by simpa using h2⟩
 unfold dictFind;refine PF ?_;refine yw (PN ho hd ?_);dsimp only;generalize hP:placesWithHash es.size (λi=>es[i]?.map (·.hash)) hN=P at cg ay;cases P with
 |nil=>
  rw[if_pos (by rfl)];unfold dictWalkPlain;exact yw (yy (yy h))
 |cons p0 P0=>
  have gf:¬ ((zm::((p0::P0).filterMap λi=>es[i]?.map (·.key))).all carriedByValue)=true:=by
   intro z;obtain⟨e,e1,e2⟩:=ay p0 zd;have hm:e.key∈(p0::P0).filterMap (λi=>es[i]?.map (·.key)):=List.mem_filterMap.mpr ⟨p0,zd,by rw[e1];rfl⟩;obtain⟨k',b,hb,_⟩:=cg _ hm;have:=zp.mp z _ (zc _ hm);rw[hb]at this;cases this
  rw[if_neg gf]
  by_cases hone:(((p0::P0).filterMap λi=>es[i]?.map (·.key)) == [zm])=true <;>
  (first|rw[if_pos hone]|rw[if_neg hone]) <;> (first|refine yw (yy ?_)|refine yw (Do cg ?_)) <;> (
   rw[if_neg (by simp)];refine yw ?_;refine RM _ (λrest b s'=>s'=s/\b=(none,none)/\∀i∈rest,∃e,es[i]?=some e/\e.hash=hN) _ ?_ ?_ _ _ ⟨rfl,rfl,ay⟩
   ·rintro x rest b s' ⟨rfl,rfl,hr⟩;obtain⟨e,e1,e2⟩:=hr x zd;obtain⟨y,hy,rfl⟩:=nk e (Array.mem_of_getElem? e1);rw[e1];dsimp only;rw[if_pos (by rw[e2];simp)];refine yw (PZ ho hd (yw (heq y hy _ _ _ _ (yw (PZ ho hd ?_)))))
    show wpAny _ _ (if(ep != ep)=true then _ else _) _ E _
    rw[if_neg (by simp)];simp only[Pb,if_false];refine yw (wpAny_rule ?_)
    first|rw[if_neg (by simp)]|skip
    first
     |exact yy ⟨rfl,rfl,λi hi=>hr i (zc _ hi)⟩
     |exact yw (yy (yy ⟨rfl,rfl,λi hi=>hr i (zc _ hi)⟩))
   ·rintro b s' ⟨rfl,rfl,_⟩;exact yy h)
theorem get_none{d:Addr}{xs:List (K×Addr×Value)}{Q:Option Value->Shared->Prop}(hm:s.heap.DictOfH knd d xs)(heq:∀tk,∀x∈xs,EqAt A { s with toks:=tk } (.ref x.2.1) .none false)(h:∀tk,Q none { s with toks:=tk }):
  wpAny (model prog w) A (dictGet d .none) Q E s:=by
 obtain⟨o,es,ep,ho,hc,hd,he,sd,hn⟩:=hm;unfold dictGet;refine PF ?_;refine yw (Dn λn tk=>yw (find_none (s:={ s with toks:=tk }) ho hd he sd (heq tk) ?_));exact yy (h tk)
theorem HG{d:Addr}{xs:List (K×Addr×Value)}(hd:(d == PR)=false)(hm:s.heap.DictOfH knd d xs)(heq:∀tk,∀x∈xs,EqAt A.in1 { s with toks:=tk } (.ref x.2.1) .none false)(h:∀tk,Q (.bool false) { s with toks:=tk }):
  wpAny (model prog w) A (z8 .In .none (.ref d)) Q E s:=by
 show wpAny _ _ (do return .bool (<-contains (.ref d) .none)) Q E s
 refine yw ?_
 unfold contains
 try with_reducible refine PF ?_
 refine yw (Qr hm.typeIs QQ.lookup ?_)
 show wpAny _ _ (if(some (Value.builtin "dict.__contains__") == some zm)=true then _ else _) _ E s
 rw[if_neg (by rw[beq_builtin_none];exact zi)]
 refine yw (wpAny_callSpecialUnlessNone?_slot (name:=zg "__contains__") hm.typeIs QQ
  (Pg QQ hm.typeIs entry_dict_contains ?_ (args_dict_contains _ _)))
 show wpAny _ _ (dictGet d .none >>= _) _ _ s
 refine yw (get_none hm heq λtk=>?_)
 show wpAny _ _ (Builtin.Dict.pendingKey? d .none >>= _) _ _ _
 exact yw (wpAny_pendingKey_other hd (yy ⟨_,rfl,Qz (yy (h tk))⟩))
theorem Bn{d:Addr}{xs:List (K×Addr×Value)}(hd:(d == PR)=false)(hm:s.heap.DictOfH knd d xs)(heq:∀tk,∀x∈xs,EqAt A.in1 { s with toks:=tk } (.ref x.2.1) .none false)(h:∀tk,Q (.bool true) { s with toks:=tk }):
  wpAny (model prog w) A (z8 .NotIn .none (.ref d)) Q E s:=by
 show wpAny _ _ (do return .bool (!(<-contains (.ref d) .none))) Q E s
 refine yw ?_
 unfold contains
 try with_reducible refine PF ?_
 refine yw (Qr hm.typeIs QQ.lookup ?_)
 show wpAny _ _ (if(some (Value.builtin "dict.__contains__") == some zm)=true then _ else _) _ E s
 rw[if_neg (by rw[beq_builtin_none];exact zi)]
 refine yw (wpAny_callSpecialUnlessNone?_slot (name:=zg "__contains__") hm.typeIs QQ
  (Pg QQ hm.typeIs entry_dict_contains ?_ (args_dict_contains _ _)))
 show wpAny _ _ (dictGet d .none >>= _) _ _ s
 refine yw (get_none hm heq λtk=>?_)
 show wpAny _ _ (Builtin.Dict.pendingKey? d .none >>= _) _ _ _
 exact yw (wpAny_pendingKey_other hd (yy ⟨_,rfl,Qz (yy (h tk))⟩))
end
section
variable{k:Nat}
theorem N':∀(n:Nat)(p:PV),p.ky n=true->p.pl n=true:=by
 intro n
 induction n with
 |zero=>intro p h;cases p <;> first|rfl|cases h
 |succ n ih=>
  intro p h;cases p with
  |tup xs=>
   show xs.all (PV.pl n)=true
   rw[zp];exact λy hy=>ih y (zp.mp (show xs.all (PV.ky n)=true from h) y hy)
  |_=>first|rfl|cases h
theorem tL{pins:List (Addr×Obj)}{σ:St}{H:Hp}{s:Shared}{φ:List Addr}{A:Around}(I:Inv X pins σ H s)(hK:X.K=C.K)(hu:A.units+6<cLine):∀{kvs:List (PV×PV)}{ks:List (PV×Addr×V)}{xs:List (PV×Addr×Value)},RKd C φ H kvs ks->xW ks xs->(∀q∈kvs,q.1.isKt=true)->∀x∈xs,EqAt A s (.ref x.2.1) .none false
 |[],[],[],_,_,_=>λx hx=>nomatch hx
 |p::kvs,q::ks,y::xs,r,rx,hk=>by
  cases r with
  |cons h1 t1=>
   cases rx with
   |cons h2 t2=>
    intro x hx;rcases zq.mp hx with rfl|hx
    ·obtain⟨d,qj,hd2⟩:=lN 6 _ (N' 6 _ h1.2.1);have hr:Rep X.K H d (.ref q.2.1):=by rw[hK];exact h1.2.2.1.rep qj
     have ix:∃ds,d=.tup ds:=by
      have:=hk p zd;cases e:p.1 with
      |tup zs=>rw[e]at qj;obtain⟨ds,_,rfl⟩:=dW qj;exact⟨ds,rfl⟩
      |_=>rw[e]at this;cases this
     obtain⟨ds,rfl⟩:=ix;have:=CS I (n:=6) (d:=.tup ds) (e:=.non) (A:=A) (x:=.ref q.2.1) (y:=.non) (v:=.ref x.2.1) (u:=.none) hd2 hu hr rfl (by rw[h2.2.1];rfl) rfl;simpa[eqD] using this
    ·exact tL I hK hu t1 t2 (λz hz=>hk z (zc _ hz)) x hx
 |[],_::_,_,r,_,_=>nomatch r
 |_::_,[],_,r,_,_=>nomatch r
 |_,[],_::_,_,rx,_=>nomatch rx
 |_,_::_,[],_,rx,_=>nomatch rx
def cB:PV->PV->PH->Rs PV:=λx y h=>match x,y with
 |.non,.ref n=>match bE h n with
  |some kvs=>if kvs.all (λq=>q.1.isKt) then .ok (.bl false) h else .bad
  |none=>kO x y h
 |_,_=>kO x y h
def bK:PV->PV->PH->Rs PV:=λx y h=>match x,y with
 |.non,.ref n=>match bE h n with
  |some kvs=>if kvs.all (λq=>q.1.isKt) then .ok (.bl true) h else .bad
  |none=>eY x y h
 |_,_=>eY x y h
def Na(C:MC):V->V->Hp->(Hp->Prop)->Prop:=λx y H R=>∃φ h n a kvs,RH C φ H h/\x=.non/\y=.ref a/\φ[n]?=some a/\bE h n=some kvs/\(∀q∈kvs,q.1.isKt=true)/\R H
theorem Ku(c:Cxt C k X):OpR X (z8 .In) (λx y H Q=>Na C x y H λH=>Q (.bl false) H):=λpins s σ H x y v u Q I rx ry h=>by
 obtain⟨φ,h,n,a,kvs,rh,rfl,rfl,ha,ht,hk,q⟩:=h;cases rx
 cases ry
 obtain⟨⟨ks,xs,r,b5,hz,hm,dd⟩,_⟩:=iA I c.K c.w rh ha ht;have hu:X.A.in1.units+6<cLine:=by have:=c.hu64;show X.A.units+1+6<cLine;omega
 exact HG hm dd (λtk=>tL (I.tok tk) c.K hu r b5 hk) λtk=>⟨.bl false,H,I.tok _,rfl,q⟩
theorem Dp(c:Cxt C k X):OpR X (z8 .NotIn) (λx y H Q=>Na C x y H λH=>Q (.bl true) H):=λpins s σ H x y v u Q I rx ry h=>by
 obtain⟨φ,h,n,a,kvs,rh,rfl,rfl,ha,ht,hk,q⟩:=h;cases rx
 cases ry
 obtain⟨⟨ks,xs,r,b5,hz,hm,dd⟩,_⟩:=iA I c.K c.w rh ha ht;have hu:X.A.in1.units+6<cLine:=by have:=c.hu64;show X.A.units+1+6<cLine;omega
 exact Bn hm dd (λtk=>tL (I.tok tk) c.K hu r b5 hk) λtk=>⟨.bl true,H,I.tok _,rfl,q⟩
set_option tactic.hygienic true in
theorem Kv:OpS C k X (z8 .In) cB:=λc=>((MZ c).or (Ku c)).imp λx y H Q h=>by
 obtain⟨φ,h,p,q,rh,rx,ry,po⟩:=h;unfold cB at po;split at po
 ·rename_i n;split at po
  ·rename_i kvs ht;split at po
   ·rename_i hk;obtain⟨a,rfl,ha⟩:=ry;exact .inr ⟨φ,h,n,a,kvs,rh,rx,rfl,ha,ht,zp.mp hk,po.val rh rfl⟩
   ·exact po.elim
  ·exact .inl ⟨φ,h,_,_,rh,rx,ry,po⟩
 ·exact .inl ⟨φ,h,_,_,rh,rx,ry,po⟩
set_option tactic.hygienic true in
theorem Dq:OpS C k X (z8 .NotIn) bK:=λc=>((ER c).or (Dp c)).imp λx y H Q h=>by
 obtain⟨φ,h,p,q,rh,rx,ry,po⟩:=h;unfold bK at po;split at po
 ·rename_i n;split at po
  ·rename_i kvs ht;split at po
   ·rename_i hk;obtain⟨a,rfl,ha⟩:=ry;exact .inr ⟨φ,h,n,a,kvs,rh,rx,rfl,ha,ht,zp.mp hk,po.val rh rfl⟩
   ·exact po.elim
  ·exact .inl ⟨φ,h,_,_,rh,rx,ry,po⟩
 ·exact .inl ⟨φ,h,_,_,rh,rx,ry,po⟩
@[simp]theorem wF{y:PV}:cB (.tup xs) y h=kO (.tup xs) y h:=by unfold cB;rfl
@[simp]theorem L9{y:PV}:cB (.str x) y h=kO (.str x) y h:=by unfold cB;rfl
@[simp]theorem iT{y:PV}:bK (.tup xs) y h=eY (.tup xs) y h:=by unfold bK;rfl
theorem Dr(e:bE h n=some kvs)(hk:kvs.all (λq=>q.1.isKt)=true):cB .non (.ref n) h=.ok (.bl false) h:=by simp[cB,e,hk]
end
open PySem PySem.Spec PyProof.Rows
def Fc:HO->Prop
 |.tup _=>False
 |.own _=>False
 |.tbl _=>False
 |_=>True
theorem Inv.swap{d:Addr}{u u':HO}(I:Inv X pins σ H s)(hd:H d=some u)(hu:Fc u)(hz:∀o z,X.H₀ d≠some (.frz o z))(new:bH X.prog X.w (upd H d u') s.heap d u'):Inv X pins σ (upd H d u') s:=by
 have nn:∀b,H b=none->b≠d:=λb n z=>by rw[z,hd]at n;cases n
 have nt:∀b xs,H b=some (.tup xs)->b≠d:=λb xs n z=>by rw[z,hd]at n;cases n;exact hu
 have no:∀b y,H b=some (.own y)->b≠d:=λb xs n z=>by rw[z,hd]at n;cases n;exact hu
 have nb:∀b y,H b=some (.tbl y)->b≠d:=λb xs n z=>by rw[z,hd]at n;cases n;exact hu
 refine⟨I.ok,I.os,I.bare,⟨I.base.keep,I.base.slot,λb o e n hx=>?_,I.base.there,λb xs e=>?_,λb o xs e=>?_,λb ps e=>?_⟩,I.loc,I.cell,?_,λx c e=>?_,λp hp=>?_,λb o e=>?_,I.len⟩
 ·have:=I.base.free b o e n hx;rw[aH (nn b this)];exact this
 ·have:=I.base.tups b xs e;rw[aH (nt b xs this)];exact this
 ·have:=I.base.frzs b o xs e;have ne:b≠d:=λz=>hz o xs (z▸e);rw[aH ne];exact this
 ·obtain⟨m,e1⟩:=I.base.tbls b ps e;exact⟨m,by rw[aH (nb b _ e1)];exact e1⟩
 ·rw[aH (nn _ I.free)];exact I.free
 ·have:=I.freeC x c e;rw[aH (nn _ this)];exact this
 ·obtain⟨e,n,r⟩:=I.pin p hp;exact⟨e,by rw[aH (nn _ n)];exact n,r⟩
 ·by_cases hb:b=d
  ·subst hb;rw[aL]at e;cases e;exact new
  ·rw[aH hb]at e;exact(I.hok b o e).stay (λc v _ q=>q) (λc q=>by rw[aH (no c b q)];exact q) λc xs q=>by rw[aH (nt c xs q)];exact q
theorem Inv.nofrz{d:Addr}(I:Inv X pins σ H s)(hd:∀o z,H d≠some (.frz o z)):∀o z,X.H₀ d≠some (.frz o z):=λo z e=>hd o z (I.base.frzs d o z e)
theorem Inv.freeze{d:Addr}{u:HO}(I:Inv X pins σ H s)(hd:H d=some u)(hu:Fc u)(hf:∀o z,u≠.frz o z)(ho:s.heap.get? d=some oc):Inv X pins σ (upd H d (.frz oc u)) s:=by
 have nt:∀b xs,H b=some (.tup xs)->b≠d:=λb xs n z=>by rw[z,hd]at n;cases n;exact hu
 have no:∀b y,H b=some (.own y)->b≠d:=λb xs n z=>by rw[z,hd]at n;cases n;exact hu
 refine I.swap hd hu (I.nofrz λo z e=>?_) ⟨ho,(I.hok d u hd).stay (λc v _ q=>q) (λc q=>by rw[aH (no c d q)];exact q) λc xs q=>by rw[aH (nt c xs q)];exact q⟩;rw[hd]at e;exact hf o z (zy e)
theorem Inv.thaw{d:Addr}{u:HO}(I:Inv X pins σ H s)(hd:H d=some (.frz oc u))(hz:∀o z,X.H₀ d≠some (.frz o z)):Inv X pins σ (upd H d u) s:=by
 have nt:∀b xs,H b=some (.tup xs)->b≠d:=λb xs n z=>by rw[z,hd]at n;cases n
 have no:∀b y,H b=some (.own y)->b≠d:=λb xs n z=>by rw[z,hd]at n;cases n
 obtain⟨_,q⟩:=I.hok d _ hd;exact I.swap hd trivial hz (q.stay (λc v _ q=>q) (λc q=>by rw[aH (no c d q)];exact q) λc xs q=>by rw[aH (nt c xs q)];exact q)
def ItI(dc:Addr)(oc:Obj)(u:HO)(ks:List (V×V)):It:=
 ⟨λi H=>H dc=some (.frz oc u)/\i<ks.length,λi H x H'=>∃t kv,H t=none/\ks[i]?=some kv/\x=.ref t/\H'=upd H t (.tup [kv.1,kv.2]),λi H=>H dc=some (.frz oc u)/\ks.length<=i⟩
def ItK(dc:Addr)(oc:Obj)(u:HO)(ks:List V):It:=
 ⟨λi H=>H dc=some (.frz oc u)/\i<ks.length,λi H x H'=>H'=H/\ks[i]?=some x,λi H=>H dc=some (.frz oc u)/\ks.length<=i⟩
variable{elts:List Expr}{x1:Nat}
theorem Bo(it dc:Addr)(oc:Obj)(u:HO)(es:Array Ra)(ep:Nat)(h2:oc.data=.dict es ep)(ks:List (V×V))(hl:ks.length=es.size)(hk:∀(i:Nat)(hi:i<es.size),∃kv,ks[i]?=some kv/\RelV kv.1 es[i].key/\RelV kv.2 es[i].val):Turn P w K (.Tuple elts x1 pos) (ItI dc oc u ks) [it] it (λi h=>∃ok ov,IsItemIter h it dc i es.size ep ok ov) where
 mem:=by simp
 obj:=λi h ⟨ok,ov,st⟩ b hb=>by
  have e:b=it:=by simpa using hb
  subst e;exact⟨_,st,λv z=>by cases z⟩
 keep:=λi h h' ⟨ok,ov,st⟩ k=>⟨ok,ov,k it (by simp) _ st⟩
 item:=by
  intro X hP hw hK hc i pins s σ H E I hf ⟨ok,ov,st⟩ ⟨hg,hi⟩;subst hP hw hK;have ax:i<es.size:=by omega
  obtain⟨kv,dt,r1,r2⟩:=hk i ax;obtain⟨f0,f1,f2,f3,f4,f5⟩:=hf it (by simp);have fq:s.heap.get? dc=some oc:=(I.hok dc _ hg).1;refine next_item st fq h2 ax λh' out gt kp=>⟨_,rfl,?_⟩;refine wpAny_letOwnedTupleGo_items (s:={ s with heap:=h' }) out λiy hI same=>?_;have fr:H s.heap.objs.size=none:=I.hok.fresh (zb _);have ne:s.heap.objs.size≠it:=RQ (zl st);have v7:iy.get? s.heap.objs.size=some { cls:=.type "tuple",data:=.seq #[es[i].key,es[i].val] }:=(same.2 _ ne).trans gt;have l0:∀(b:Addr)(o:Obj),b≠it->s.heap.get? b=some o->iy.get? b=some o:=λb o hb e=>(same.2 b hb).trans (kp b o hb e);have my:∀b u,H b=some u->b≠it:=λb u e z=>by rw[z,f0]at e;cases e
  have mq:∀b u,H b=some u->b≠s.heap.objs.size:=λb u e z=>by rw[z,fr]at e;cases e
  refine⟨.ref s.heap.objs.size,upd H s.heap.objs.size (.tup [kv.1,kv.2]),?_,rfl,⟨_,kv,fr,dt,rfl,rfl⟩,⟨_,_,hI⟩,λb hb=>?_⟩
  ·refine Inv.step (s:=s) (h':=iy) (H:=H) (g':=s.gens) (d':=s.drawn) (t':=s.toks) (ch:=[it]) I (λb hb=>?_) (λb o _ _ hc e _=>l0 b o (λz=>hc (by simp[z])) e) (λb o _ _ hc e _=>⟨o.slots,l0 b o (λz=>hc (by simp[z])) e⟩) (λb o hc e n=>?_)
    (λb o hc e=>⟨o,l0 b o (λz=>hc (by simp[z])) e⟩) (λb xs e=>by rw[aH (mq _ _ e)];exact e) (λb o u e=>by rw[aH (mq _ _ e)];exact e) (λb ps e=>⟨#[],by rw[aH (mq _ _ e),e];simp⟩) (λm hm=>?_) (λb u e=>?_) I.bare
   ·have e:b=it:=by simpa using hb
    subst e;exact⟨f3,f1,f4,f5⟩
   ·rw[aH (z7 (zl e))];exact n
   ·obtain⟨o,es,ep,ho,r⟩:=hm;exact⟨o,es,ep,l0 _ o (PY f1) ho,r⟩
   ·by_cases hb:b=s.heap.objs.size
    ·subst hb;rw[aL]at e;cases e
     exact⟨by show 2<=zk;rw[nQ];decide,[es[i].key,es[i].val],.cons r1 (.cons r2 .nil),_,v7,rfl,⟨_,rfl⟩,rfl⟩
    ·rw[aH hb]at e;refine(I.hok b u e).stay (λc v hc q=>l0 c v ?_ q) (λc q=>by rw[aH (mq _ _ q)];exact q) λc xs q=>by rw[aH (mq _ _ q)];exact q
     rcases hc with z|z
     ·rw[z];exact my b u e
     ·exact my c _ z
  ·have e:b=it:=by simpa using hb
   subst e;rw[aH (PY ne)];exact f0
 done:=by
  intro X hP hw hK hc i pins s σ H E I hf ⟨ok,ov,st⟩ ⟨hg,hi⟩;subst hP hw hK;obtain⟨f0,f1,f2,f3,f4,f5⟩:=hf it (by simp);have fq:s.heap.get? dc=some oc:=(I.hok dc _ hg).1;exact CZ (I.ok.hd hc) st fq h2 (by omega) λh' eb=>⟨rfl,I.turned (t':=s.toks) (λb o hb e=>eb b o hb e) f0 f1 f3 f4 f5⟩
 self:=λ_ _ _ _ _ ⟨_,_,st⟩ h=>B5 st h
theorem Ds(it dc:Addr)(oc:Obj)(u:HO)(es:Array Ra)(ep:Nat)(h2:oc.data=.dict es ep)(ks:List V)(hl:ks.length=es.size)(hk:∀(i:Nat)(hi:i<es.size),∃kv,ks[i]?=some kv/\RelV kv es[i].key):Turn P w K tg (ItK dc oc u ks) [it] it (λi h=>h.IsKeyIter it dc i es.size ep) where
 mem:=by simp
 obj:=λi h st b hb=>by
  have e:b=it:=by simpa using hb
  subst e;obtain⟨o,e,c,d⟩:=st;exact⟨o,e,λv z=>by rw[d]at z;cases z⟩
 keep:=λi h h' st k=>st.at λo e=>k it (by simp) o e
 item:=by
  intro X hP hw hK hc i pins s σ H E I hf st ⟨hg,hi⟩;subst hP hw hK;have ax:i<es.size:=by omega
  obtain⟨kv,dt,r1⟩:=hk i ax;obtain⟨f0,f1,f2,f3,f4,f5⟩:=hf it (by simp);have fq:s.heap.get? dc=some oc:=(I.hok dc _ hg).1;refine F9 st fq h2 ax λh' bh sb=>?_;have I1:Inv X pins σ H { s with heap:=h' }:=I.turned (t':=s.toks) (λb o hb e=>(sb.2 b hb).trans e) f0 f1 f3 f4 f5;obtain⟨o,e,c,d⟩:=id bh;exact⟨_,rfl,zK (s:={ s with heap:=h' }) e c d (by decide) ⟨kv,H,I1,r1,⟨rfl,dt⟩,bh,λb hb=>(hf b hb).1⟩⟩
 done:=by
  intro X hP hw hK hc i pins s σ H E I hf st ⟨hg,hi⟩;subst hP hw hK;obtain⟨f0,f1,f2,f3,f4,f5⟩:=hf it (by simp);have fq:s.heap.get? dc=some oc:=(I.hok dc _ hg).1;exact Fb (I.ok.hd hc) st fq h2 (by omega) λh' eb=>⟨rfl,I.turned (t':=s.toks) (λb o hb e=>eb b o hb e) f0 f1 f3 f4 f5⟩
 self:=λ_ _ _ _ _ st h=>wpAny_pyIter_keyiter st h
def lW:MO->Option (List PV)
 |.dK kvs=>some (kvs.map λkv=>.tup [kP kv.1,kv.2])
 |.dD kvs=>some (kvs.map λkv=>.tup [kv.1,kv.2])
 |_=>none
def Ai:MO->Option (List PV)
 |.dK kvs=>some (kvs.map λkv=>kP kv.1)
 |.dD kvs=>some (kvs.map (·.1))
 |_=>none
def tN:Option MO->Bool
 |some (.dK _)=>true
 |some (.dD _)=>true
 |_=>false
def wkI(b:Bool)(x:PV)(h:PH):Option (Nat×MO×List PV):=match x with
 |.ref n=>match h[n]? with
  |some (.vw 0 d)=>if b then(h[d]?).bind λo=>(lW o).map λxs=>(d,o,xs) else none
  |some o=>(Ai o).map λxs=>(n,o,xs)
  |none=>none
 |_=>none
def tO(b:Bool)(m:Me):Mi:=λδ h=>(m δ h).bind λx h1=>match wkI b x h1 with
 |some (d,o,xs)=>.ok ⟨xs,λ_=>true⟩ (h1.set d (.fz o))
 |none=>.bad
theorem Kw{k:Key}{v:Value}(h:qB k v=true):RelV (kV k) v:=by
 rcases bC h with⟨i,t,rfl,rfl⟩|⟨x,t,rfl,rfl⟩
 ·exact⟨t,rfl⟩
 ·exact⟨t,rfl⟩
theorem pH{α β:Type}{F:α->β->Prop}:∀{l:List α}{m:List β},Paired F l m->∀{i:Nat}{a:α},l[i]?=some a->∃b,m[i]?=some b/\F a b
 |_,_,.nil,i,a,e=>by simp at e
 |_,_,.cons (a:=x) (b:=y) r t,0,a,e=>by
  have:x=a:=by simpa using e
  subst this;exact⟨y,rfl,r⟩
 |_,_,.cons r t,i+1,a,e=>by
  obtain⟨b,h1,h2⟩:=pH t (i:=i) (a:=a) (by simpa using e)
  exact⟨b,by simpa using h1,h2⟩
theorem lX{α β:Type}{F:α->β->Prop}:∀{l:List α}{m:List β},Paired F l m->∀{i:Nat}{b:β},m[i]?=some b->∃a,l[i]?=some a/\F a b
 |_,_,.nil,i,a,e=>by simp at e
 |_,_,.cons (a:=x) (b:=y) r t,0,b,e=>by
  have:y=b:=by simpa using e
  subst this;exact⟨x,rfl,r⟩
 |_,_,.cons r t,i+1,b,e=>by
  obtain⟨a,h1,h2⟩:=lX t (i:=i) (b:=b) (by simpa using e)
  exact⟨a,by simpa using h1,h2⟩
theorem C9(a:Key):RV C φ H (kP a) (kV a):=by cases a <;> rfl
theorem Fd{kvs:List (Key×PV)}{ks:List (Key×V)}(rk:RKv C φ H kvs ks):RVs C φ H (kvs.map λkv=>kP kv.1) ((ks.map λq=>(kV q.1,q.2)).map (·.1)):=by
 unfold RKv at rk
 induction rk with
 |nil=>trivial
 | @cons p q ps qs e t ih=>exact⟨by show RV C φ H (kP p.1) (kV q.1);rw[e.1];exact C9 q.1,ih⟩
theorem Fe(rk:RKd C φ H kvs ks):RVs C φ H (kvs.map (·.1)) ((ks.map λq=>(V.ref q.2.1,q.2.2)).map (·.1)):=by
 unfold RKd at rk
 induction rk with
 |nil=>trivial
 | @cons p q ps qs e t ih=>exact⟨e.2.2.1,ih⟩
structure Nb(C:MC)(φ:List Addr)(H:Hp)(s:Shared)(b:Addr)(o:MO)(ks:List (V×V))(u:HO)(oc:Obj)(es:Array Ra)(ep:Nat):Prop where
 at':H b=some u
 nf:Fc u
 nz:∀o z,u≠.frz o z
 nt:qK (some u)
 get:s.heap.get? b=some oc
 cls:oc.cls=.type "dict"
 data:oc.data=.dict es ep
 nsys:(b == PR)=false
 fz:∀φ' H',φ<+:φ'->H' b=some (.frz oc u)->Kp H H'->RO C φ' H' b (.fz o)
 len:ks.length=es.size
 ent:∀(i:Nat)(hi:i<es.size),∃kv,ks[i]?=some kv/\RelV kv.1 es[i].key/\RelV kv.2 es[i].val
 keys:∀xs,Ai o=some xs->RVs C φ H xs (ks.map (·.1))
 items:∀xs,lW o=some xs->xs.length=ks.length/\∀(i:Nat) p,xs[i]?=some p->∃p1 p2 kv,p=.tup [p1,p2]/\ks[i]?=some kv/\RV C φ H p1 kv.1/\RV C φ H p2 kv.2
theorem Ff{k:Nat}{d:Nat}{b:Addr}{o:MO}(c:Cxt C k X)(I:Inv X pins σ H s)(rh:RH C φ H h)(hb:φ[d]?=some b)(ho:h[d]?=some o)(hd:tN (some o)=true):∃ks u oc es ep,Nb C φ H s b o ks u oc es ep:=by
 cases o with
 |dK kvs=>
  obtain⟨ks,hH,rk⟩:=rh.at' d b _ hb ho;obtain⟨z,hm,vs,rel,dd⟩:=zR I.hok hH;obtain⟨oc,es,ep,g1,g2,g3,g4,g5,g6⟩:=dd;have l1:ks.length=vs.length:=Pw rel;have l2:es.size=vs.length:=by have:=sW g5;have:=congrArg List.length this;simpa using this
  refine⟨ks.map λq=>(kV q.1,q.2),_,oc,es,ep,hH,trivial,(λ_ _ e=>by cases e),trivial,g1,g2.1,g3,hm,λφ' H' p e t=>⟨oc,ks,e,rk.mono p t⟩,by rw[za,l1,l2],λi hi=>?_,λxs hx=>?_,λxs hx=>?_⟩
  ·have hv:vs[i]?=some (vs[i]'(by omega)):=by simp[show i<vs.length by omega]
   have he:es.toList[i]?=some es[i]:=by simp[hi]
   obtain⟨q1,q2⟩:=g5.get? he hv;obtain⟨kv,dt,iq⟩:=lX rel hv;refine⟨(kV kv.1,kv.2),by rw[zo,dt];rfl,?_,?_⟩
   ·show RelV (kV kv.1) es[i].key
    rw[iq.1];exact Kw q1
   ·show RelV kv.2 es[i].val
    rw[q2];exact iq.2
  ·cases hx
   exact Fd rk
  ·cases hx
   have lk:kvs.length=ks.length:=Pw rk;refine⟨by rw[za,za,lk],λi p e=>?_⟩;rw[zo]at e;obtain⟨kv,e1,rfl⟩:=z6.mp e;obtain⟨q,e2,r2⟩:=pH rk e1;exact⟨_,_,(kV q.1,q.2),rfl,by rw[zo,e2];rfl,by show RV C φ H (kP kv.1) (kV q.1);rw[r2.1];exact C9 q.1,r2.2⟩
 |dD kvs=>
  obtain⟨ks,hH,rk⟩:=rh.at' d b _ hb ho;have hO:bH X.prog X.w H s.heap b (dDO C.w b ks):=I.hok b _ hH;obtain⟨⟨hz,hm,xs,rx,oc,es,ep,g1,g2,g3,g4,g5⟩,_⟩:=hO;have l1:ks.length=xs.length:=Pw rx;have l2:es.size=xs.length:=by have:=congrArg List.length g4;simpa using this
  refine⟨ks.map λq=>(V.ref q.2.1,q.2.2),_,oc,es,ep,hH,trivial,(λ_ _ e=>by cases e),trivial,g1,g2.1,g3,hm,λφ' H' p e t=>⟨oc,ks,e,rk.mono p t⟩,by rw[za,l1,l2],λi hi=>?_,λxs hx=>?_,λxs hx=>?_⟩
  ·have hv:xs[i]?=some (xs[i]'(by omega)):=by simp[show i<xs.length by omega]
   have he:es.toList[i]?=some es[i]:=by simp[hi]
   rw[g4,zo,hv]at he;have gj:=zy he;obtain⟨kv,dt,iq⟩:=lX rx hv;refine⟨(V.ref kv.2.1,kv.2.2),by rw[zo,dt];rfl,?_,?_⟩
   ·show RelV (V.ref kv.2.1) es[i].key
    rw[<-gj,iq.2.1];rfl
   ·show RelV kv.2.2 es[i].val
    rw[<-gj];exact iq.2.2
  ·cases hx
   exact Fe rk
  ·cases hx
   have lk:kvs.length=ks.length:=Pw rk;refine⟨by rw[za,za,lk],λi p e=>?_⟩;rw[zo]at e;obtain⟨kv,e1,rfl⟩:=z6.mp e;obtain⟨q,e2,r2⟩:=pH rk e1;exact⟨_,_,(V.ref q.2.1,q.2.2),rfl,by rw[zo,e2];rfl,r2.2.2.1,r2.2.2.2⟩
 |_=>cases hd
theorem Fg{o:MO}(h:Ai o=some xs):tN (some o)=true:=by cases o <;> first|rfl|cases h
theorem Dt{o:MO}(h:lW o=some xs):tN (some o)=true:=by cases o <;> first|rfl|cases h
set_option tactic.hygienic true in
theorem HH{x:PV}{d:Nat}{o:MO}(e:wkI b x h=some (d,o,xs)):∃n,x=.ref n/\((h[n]?=some (.vw 0 d)/\b=true/\h[d]?=some o/\lW o=some xs)\/(h[n]?=some o/\n=d/\Ai o=some xs)):=by
 unfold wkI at e;split at e
 ·rename_i n;refine⟨n,rfl,?_⟩;split at e
  ·rename_i d' hv;split at e
   ·rename_i hb;cases e1:h[d']? with
    |none=>rw[e1]at e;cases e
    |some o'=>
     rw[e1]at e;cases e2:lW o' with
     |none=>simp[e2]at e
     |some ys=>
      simp[e2]at e;obtain⟨rfl,rfl,rfl⟩:=e;exact .inl ⟨hv,hb,e1,e2⟩
   ·cases e
  ·rename_i o' _ hv;cases e2:Ai o' with
   |none=>rw[e2]at e;cases e
   |some ys=>
    rw[e2]at e;simp at e;obtain⟨rfl,rfl,rfl⟩:=e;exact .inr ⟨hv,rfl,e2⟩
  ·cases e
 ·cases e
def walk2(b:Bool)(x:PV)(h1:PH):Rs Wk:=match wkI b x h1 with
 |some (d,o,xs)=>.ok ⟨xs,λ_=>true⟩ (h1.set d (.fz o))
 |none=>.bad
theorem Kz{k:Nat}(b:Bool)(hb:b=true->∃elts x1 pos,tg=.Tuple elts x1 pos)(h:SE C k X iter m):SI C k X tg iter (tO b m):=λc=>by
 intro pins s σ H R I q;obtain⟨φ,δ,hh,rh,re,p⟩:=q;have key:rd C m σ H λv H1=>∃φ1 x h1,φ<+:φ1/\Kp H H1/\RH C φ1 H1 h1/\RV C φ1 H1 x v/\cU C φ1 H1 (walk2 b x h1) R:=by
  refine⟨φ,δ,hh,rh,re,?_⟩;unfold tO at p;cases e:m δ hh with
  |ok x h1=>
   rw[e]at p;intro φ' v H' p' t' a9 ak;refine⟨φ',x,h1,p',t',a9,ak,?_⟩
   show cU C φ' H' (walk2 b x h1) R
   have p0:cU C φ H (walk2 b x h1) R:=p;cases e2:walk2 b x h1 with
   |ok w h2=>rw[e2]at p0;exact λφ2 H2 J p2 t2=>p0 φ2 H2 J (p'.trans p2) (t'.trans t2)
   |exc z h2=>rw[e2]at p0;exact λφ2 H2 p2 t2=>p0 φ2 H2 (p'.trans p2) (t'.trans t2)
   |bad=>rw[e2]at p0;exact p0
  |exc x h1=>rw[e]at p;exact p
  |bad=>rw[e]at p;exact p
 refine thn (h c pins s σ H _ I key) λv s1 hz=>?_;obtain⟨x,H1,I1,r1,φ1,x',h1,p1,t1,aa,ae,q1⟩:=hz;unfold walk2 at q1;cases e:wkI b x' h1 with
 |none=>rw[e]at q1;exact q1.elim
 |some t=>
  obtain⟨d,o,xs⟩:=t;rw[e]at q1;dsimp only at q1;obtain⟨n,rfl,k9⟩:=HH e;obtain⟨a,rfl,ha⟩:=ae;cases r1
  -- the frozen heap
  have fin:∀{bb:Addr}{ks:List (V×V)}{u:HO}{oc:Obj}{es:Array Ra}{ep:Nat}(jg:φ1[d]?=some bb)(W:Nb C φ1 H1 s1 bb o ks u oc es ep)(ob:Obj)(J:It)(tn:Nat->Heap->Prop),(∀φ2 H2 h2,φ1<+:φ2->Kp (upd H1 bb (.frz oc u)) H2->RH C φ2 H2 h2->∀i:Nat,
    (i<xs.length->J.go i H2/\∀x H',J.yld i H2 x H'->(∃p,xs[i]?=some p/\RV C φ2 H' p x)/\Kp H2 H'/\RH C φ2 H' h2)/\(xs.length<=i->J.stop i H2))->
    Turn X.prog X.w X.K tg J [s1.heap.objs.size] s1.heap.objs.size tn->tn 0 (s1.heap.push ob)->PIE X pins σ tg R (.ref s1.heap.objs.size) { s1 with heap:=s1.heap.push ob }:=λ{bb ks u oc es ep} jg W ob J tn hJ hT h0=>by
   have I2:=I1.freeze W.at' W.nf W.nz W.get;have nt:qK (H1 bb):=by rw[W.at'];exact W.nt
   refine⟨s1.heap.objs.size,[s1.heap.objs.size],tn,J,upd H1 bb (.frz oc u),rfl,I2.kept (t':=s1.toks) λb o e=>y0 _ e,hT,h0,λb hb=>?_,?_⟩
   ·have e:b=s1.heap.objs.size:=by simpa using hb
    subst e;exact I2.fpOk (zb _) (I2.hok.fresh (zb _))
   ·exact q1 φ1 _ J zf (Kp.upd nt) (aa.write jg nt (W.fz φ1 _ zf aL (Kp.upd nt))) λφ2 H2 h2 p2 t2 aj _ i=>hJ φ2 H2 h2 p2 t2 aj i
  rcases k9 with⟨hv,hbt,ho,hx⟩|⟨ho,rfl,hx⟩
  ·obtain⟨bb,jg,hH⟩:=aa.at' n a _ ha hv;obtain⟨ks,u,oc,es,ep,W⟩:=Ff c I1 aa jg ho (Dt hx);obtain⟨elts,x1,pos,rfl⟩:=hb hbt;have e7:s1.heap.IsItemsView a bb:=(I1.hok a _ hH).1;obtain⟨lx,ex⟩:=W.items xs hx;refine B4 e7 W.get W.data (fin jg W _ (ItI bb oc u ks) _ (λφ2 H2 h2 p2 t2 aj i=>⟨λhi=>⟨⟨t2.2 _ _ _ aL,by omega⟩,λx H' y=>?_⟩,λhi=>⟨t2.2 _ _ _ aL,by omega⟩⟩) (Bo _ bb oc u es ep W.data ks W.len W.ent) ⟨.none,.none,zj _ rfl⟩);obtain⟨t,kv,ht,dt,rfl,rfl⟩:=y;obtain⟨p1,p2',kv',yf,nh,v3,pf⟩:=ex i xs[i] (by simp[hi]);rw[dt]at nh;cases nh
   have nt:qK (H1 bb):=by rw[W.at'];exact W.nt
   have T:Kp H1 (upd H2 t (.tup [kv.1,kv.2])):=(Kp.upd nt).trans (t2.trans (Kp.new ht));refine⟨⟨xs[i],by simp[hi],?_⟩,Kp.new ht,aj.aside ht⟩;rw[yf];exact⟨t,[kv.1,kv.2],rfl,.inl (.inl aL),v3.mono p2 T,pf.mono p2 T,trivial⟩
  ·obtain⟨ks,u,oc,es,ep,W⟩:=Ff c I1 aa ha ho (Fg hx);have rk:=W.keys xs hx;have lx:=rk.length;rw[za]at lx;refine Dm ⟨oc,W.get,W.cls⟩ W.nsys W.get W.data (fin ha W _ (ItK a oc u (ks.map (·.1))) _ (λφ2 H2 h2 p2 t2 aj i=>⟨λhi=>⟨⟨t2.2 _ _ _ aL,by rw[za];omega⟩,λx H' y=>?_⟩,λhi=>⟨t2.2 _ _ _ aL,by rw[za];omega⟩⟩) (Ds _ a oc u es ep W.data (ks.map (·.1)) (by rw[za];exact W.len) λi hi=>?_) ⟨_,zj _ rfl,rfl,rfl⟩)
   ·obtain⟨rfl,ey⟩:=y;have nt:qK (H1 a):=by rw[W.at'];exact W.nt
    obtain⟨p,jq,rp⟩:=rk.get ey;exact⟨⟨p,jq,rp.mono p2 ((Kp.upd nt).trans t2)⟩,Kp.refl _,aj⟩
   ·obtain⟨kv,dt,r1,_⟩:=W.ent i hi;exact⟨kv.1,by rw[zo,dt];rfl,r1⟩
theorem RH.writeQ(r:RH C φ H h){u:HO}{o:MO}(e:φ[n]?=some a)(t:Kq H (upd H a u))(q:RO C φ (upd H a u) a o):RH C φ (upd H a u) (h.set n o):=by
 refine⟨by rw[QC];exact r.len,r.nd,λm b ob h1 h2=>?_⟩
 by_cases hm:n=m
 ·subst hm;rw[e]at h1;cases h1;have hl:n<h.length:=by rw[<-r.len];exact(yx.mp e).1
  rw[PU hl]at h2;cases h2
  exact q
 ·rw[Pr hm]at h2;have hb:b≠a:=λz=>by
   subst z;exact hm ((List.getElem?_inj (yx.mp e).1 r.nd).mp (e.trans h1.symm))
  exact(r.at' m b ob h1 h2).stayQ zf t (aH hb)
def jV(d:Nat)(h:PH):Option PH:=match h[d]? with
 |some (.fz o)=>some (h.set d o)
 |_=>none
set_option tactic.hygienic true in
theorem kH{d:Nat}(rh:RH C φ H h)(hd:tN h[d]?=true)(p:φ<+:φ')(t:Kp H H')(aj:RH C φ' H' h2)(e:jV d h2=some h3):
  ∃a oc u,H' a=some (.frz oc u)/\(∀o z,H a≠some (.frz o z))/\Kp H (upd H' a u)/\RH C φ' (upd H' a u) h3/\Kq H' (upd H' a u):=by
 unfold jV at e;split at e
 ·rename_i o ho;cases e
  cases e0:h[d]? with
  |none=>rw[e0]at hd;cases hd
  |some o0=>
   rw[e0]at hd;obtain⟨a,ha,r0⟩:=rh.get e0;have nf:∀o z,H a≠some (.frz o z):=λo z q=>by
    cases o0 with
    |dK kvs=>obtain⟨ks,q2,_⟩:=r0;rw[q]at q2;cases q2
    |dD kvs=>obtain⟨ks,q2,_⟩:=r0;rw[q]at q2;cases q2
    |_=>cases hd
   have ha':=fK p ha;have r1:=aj.at' d a _ ha' ho;have gen:∀oc u,H' a=some (.frz oc u)->(∀xs,u≠.tup xs)->(∀xs,u≠.lst xs)->Kp H (upd H' a u)/\Kq H' (upd H' a u):=λoc u q nt nl=>by
    have kq:Kq H' (upd H' a u):=⟨λb xs z=>by
     have ne:b≠a:=by
      rintro rfl;rcases z with z|⟨ob,z⟩
      ·rw[q]at z;cases z
      ·rw[q]at z;cases z;exact nt _ rfl
     unfold Rd;rw[aH ne];exact z,λb ob xs z=>by
     have ne:b≠a:=by
      rintro rfl;rw[q]at z;cases z;exact nl _ rfl
     rw[aH ne];exact z⟩
    refine⟨⟨λb xs z=>kq.1 b xs (t.1 b xs z),λb ob z q2=>?_⟩,kq⟩;have ne:b≠a:=λz2=>nf ob z (z2▸q2);rw[aH ne];exact t.2 b ob z q2
   cases o with
   |dK kvs=>
    obtain⟨oc,ks,q,r⟩:=r1;obtain⟨k1,k2⟩:=gen oc _ q (λ_ z=>by cases z) (λ_ z=>by cases z);exact⟨a,oc,_,q,nf,k1,aj.writeQ ha' k2 ⟨ks,aL,r.monoQ zf k2⟩,k2⟩
   |dD kvs=>
    obtain⟨oc,ks,q,r⟩:=r1;obtain⟨k1,k2⟩:=gen oc _ q (λ_ z=>by cases z) (λ_ z=>by cases z);exact⟨a,oc,_,q,nf,k1,aj.writeQ ha' k2 ⟨ks,aL,r.monoQ zf k2⟩,k2⟩
   |_=>exact r1.elim
 ·cases e
def wkD(b:Bool)(m:Me)(δ:Ev)(h:PH):Option Nat:=match m δ h with
 |.ok x h1=>match wkI b x h1 with
  |some (d,_,_)=>if tN h[d]?=true then some d else none
  |none=>none
 |_=>none
set_option tactic.hygienic true in
theorem KA{d:Nat}(e:wkD b m δ h=some d):tN h[d]?=true:=by
 unfold wkD at e;split at e
 ·split at e
  ·split at e
   ·rename_i hd;cases e
    exact hd
   ·cases e
  ·cases e
 ·cases e
theorem RE.monoQ(t:Kq H H')(h:RE C φ H δ σ):RE C φ H' δ σ:=⟨h.1,λi x e=>let ⟨v,q,r⟩:=h.2 i x e;⟨v,q,r.monoQ zf t⟩⟩
def kT(d:Nat):Fl->Fl
 |.nx δ h=>match jV d h with
  |some h3=>.nx δ h3
  |none=>.bad
 |.rt p h=>match jV d h with
  |some h3=>.rt p h3
  |none=>.bad
 |.bk δ h=>match jV d h with
  |some h3=>.bk δ h3
  |none=>.bad
 |.ct δ h=>match jV d h with
  |some h3=>.ct δ h3
  |none=>.bad
 |.exc x h=>.exc x h
 |.bad=>.bad
def pI(b:Bool)(m:Me)(ms:Ms):Ms:=λδ h=>match wkD b m δ h with
 |some d=>kT d (ms δ h)
 |none=>.bad
def Ca(H:Hp)(P:Hp->Prop)(H2:Hp):Prop:=∃a oc u,H2 a=some (.frz oc u)/\(∀o z,H a≠some (.frz o z))/\P (upd H2 a u)
theorem KB{k:Nat}{ms:Ms}(b:Bool)(m:Me)(he:SSt C k X st ms):SSt C k X st (pI b m ms):=λc=>by
 intro pins s σ H D I q;obtain⟨φ,δ,h,rh,re,p⟩:=q;unfold pI at p;cases ed:wkD b m δ h with
 |none=>rw[ed]at p;exact p.elim
 |some d=>
  rw[ed]at p;dsimp only at p;have hd:=KA ed;refine thn (he c pins s σ H { nx:=λσ=>Ca H (D.nx σ),rt:=λv=>Ca H (D.rt v),bk:=λσ=>Ca H (D.bk σ),ct:=λσ=>Ca H (D.ct σ) } I ⟨φ,δ,h,rh,re,?_⟩) ?_
  ·cases em:ms δ h with
   |bad=>rw[em]at p;exact p.elim
   |exc x h2=>rw[em]at p;exact p
   |nx δ2 h2=>
    rw[em]at p;intro φ' v H' pp tt a9 ak;cases et:jV d h2 with
    |none=>simp only[kT,et]at p;exact p.elim
    |some h3=>
     simp only[kT,et]at p;obtain⟨a,oc,u,q,nf,k1,bq,k2⟩:=kH rh hd pp tt a9 et;exact⟨a,oc,u,q,nf,p φ' v _ pp k1 bq (RE.monoQ k2 ak)⟩
   |rt x h2=>
    rw[em]at p;intro φ' v H' pp tt a9 ak;cases et:jV d h2 with
    |none=>simp only[kT,et]at p;exact p.elim
    |some h3=>
     simp only[kT,et]at p;obtain⟨a,oc,u,q,nf,k1,bq,k2⟩:=kH rh hd pp tt a9 et;exact⟨a,oc,u,q,nf,p φ' v _ pp k1 bq (ak.monoQ zf k2)⟩
   |bk δ2 h2=>
    rw[em]at p;intro φ' v H' pp tt a9 ak;cases et:jV d h2 with
    |none=>simp only[kT,et]at p;exact p.elim
    |some h3=>
     simp only[kT,et]at p;obtain⟨a,oc,u,q,nf,k1,bq,k2⟩:=kH rh hd pp tt a9 et;exact⟨a,oc,u,q,nf,p φ' v _ pp k1 bq (RE.monoQ k2 ak)⟩
   |ct δ2 h2=>
    rw[em]at p;intro φ' v H' pp tt a9 ak;cases et:jV d h2 with
    |none=>simp only[kT,et]at p;exact p.elim
    |some h3=>
     simp only[kT,et]at p;obtain⟨a,oc,u,q,nf,k1,bq,k2⟩:=kH rh hd pp tt a9 et;exact⟨a,oc,u,q,nf,p φ' v _ pp k1 bq (RE.monoQ k2 ak)⟩
  ·intro f s1 hf;cases f with
   |next=>
    obtain⟨σ',H2,I2,a,oc,u,q,nf,hq⟩:=hf;exact⟨σ',_,I2.thaw q (I.nofrz nf),hq⟩
   |brk=>
    obtain⟨σ',H2,I2,a,oc,u,q,nf,hq⟩:=hf;exact⟨σ',_,I2.thaw q (I.nofrz nf),hq⟩
   |cont=>
    obtain⟨σ',H2,I2,a,oc,u,q,nf,hq⟩:=hf;exact⟨σ',_,I2.thaw q (I.nofrz nf),hq⟩
   |ret w=>
    obtain⟨v,σ',H2,I2,r,a,oc,u,q,nf,hq⟩:=hf;exact⟨v,σ',_,I2.thaw q (I.nofrz nf),r,hq⟩
def gM:PV->List PV->PH->Rs PV:=λx ps h=>match x,ps with
 |.ref n,[]=>if tN h[n]?=true then .ok (.ref h.length) (h++[.vw 0 n]) else .bad
 |_,_=>.bad
set_option tactic.hygienic true in
theorem Fh{k:Nat}:MtG C k X "dict" cX "dict.items" gM:=λc=>⟨λpins s σ H x xs v us Q I rx rs h=>by
 obtain⟨φ,h,p,ps,rh,rp,j9,po⟩:=h;unfold gM at po;split at po
 ·rename_i n;split at po
  ·rename_i hd;obtain⟨a,rfl,ha⟩:=rp;have:xs=[]:=by cases xs <;> first|rfl|exact j9.elim
   subst this;cases rx
   cases rs
   cases ho:h[n]? with
   |none=>rw[ho]at hd;cases hd
   |some o=>
    rw[ho]at hd;obtain⟨ks,u,oc,es,ep,W⟩:=Ff c I rh ha ho hd;have hT:s.TypeIs (.ref a) "dict" := ⟨oc,W.get,W.cls⟩;refine Rm PySem.F.slot_dict_items hT PySem.F.entry_dict_items (PySem.F.args_dict_items_1 _) (A0 a W.nsys) ⟨hT,?_⟩;have fr:H s.heap.objs.size=none:=I.fresh;refine⟨.ref s.heap.objs.size,_,I.laid (t':=s.toks) (o:=Em 0 s.heap.objs.size a) (λb u e=>y0 _ e) (zb _) ?_,rfl,?_⟩
    ·exact⟨⟨_,zj _ rfl,rfl,rfl⟩,⟨_,zj _ rfl⟩,λh1 h2 ⟨o,e,p⟩ k=>⟨o,k o e,p⟩⟩
    ·exact po (φ++[s.heap.objs.size]) (.ref _) _ (Pp _ _) (Kp.new fr) (rh.new fr ⟨a,fK (Pp _ _) ha,aL⟩) ⟨_,rfl,by rw[<-rh.len];simp⟩
  ·exact po.elim
 ·exact po.elim,sU c⟩
theorem Bp{o:MO}(e:h[n]?=some o)(hd:tN (some o)=true):gM (.ref n) [] h=.ok (.ref h.length) (h++[.vw 0 n]):=by
 simp only[gM,e,hd,if_true]
theorem Fi{d:Nat}{o:MO}(e:h[n]?=some (.vw 0 d))(e2:h[d]?=some o)(hx:lW o=some xs):wkI true (.ref n) h=some (d,o,xs):=by
 simp[wkI,e,e2,hx]
theorem KC{x:PV}{d:Nat}{o:MO}(e:m δ h=.ok x h1)(ew:wkI b x h1=some (d,o,xs))(hd:tN h[d]?=true):wkD b m δ h=some d:=by
 simp[wkD,e,ew,hd]
theorem Fj{x:PV}{d:Nat}{o:MO}(e:m δ h=.ok x h1)(ew:wkI b x h1=some (d,o,xs)):tO b m δ h=.ok ⟨xs,λ_=>true⟩ (h1.set d (.fz o)):=by
 simp[tO,e,ew]
open PySem PySem.Spec PyProof.Rows PySem.SeqAt
section
theorem tQ(I:Inv X pins σ H s):∀{ds es:List D}{vs:List V},D.depths ds<=40->cP X.K H ds vs->cP X.K H es vs->ds=es
 |[],[],[],_,_,_=>rfl
 |d::ds,e::es,v::vs,h,⟨a,b⟩,⟨a',b'⟩=>by
  have hh:D.depths (d::ds)=max d.depth (D.depths ds):=by simp[D.depths]
  have h1:d.depth<=40:=by omega
  have h2:D.depths ds<=40:=by omega
  rw[kE I 40 d e v h1 a a',tQ I h2 b b']
 |[],_::_,vs,_,h,h'=>by
  cases vs with
  |nil=>exact h'.elim
  |cons _ _=>exact h.elim
 |_::_,[],vs,_,h,h'=>by
  cases vs with
  |nil=>exact h.elim
  |cons _ _=>exact h'.elim
theorem OH(I:Inv X pins σ H s){ds es:List D}{x:V}{v:Value}(hd:D.depths ds<=40)(hu:A.units+42<cLine)(hx:zV X.K H ds x)(hy:zV X.K H es y)(rx:RelV x v)(ry:RelV y u):EqAt A s v u (eM ds es):=by
 obtain⟨a,vs,rfl,q,r⟩:=hx;obtain⟨b,cy,rfl,q',r'⟩:=hy;cases rx;cases ry;refine eN (λprog w E Q hq=>?_) (λe=>?_) (λf t z=>by cases z)
 ·obtain⟨its,rv,p,_⟩:=I.list q;obtain⟨its',ak,p',_⟩:=I.list q';have l1:=r.length;have l2:=r'.length;have l3:=rv.length;have l4:=ak.length
  by_cases hl:ds.length=es.length
  ·refine eq_listAt p.isList p'.isList (by simp;omega) (by omega) (lH (I:=I) r r' rv ak hd (by omega)) ?_;have e1:its.toArray.size=ds.length:=by simp;omega
   rw[e1,oW hl];exact hq
  ·refine eq_list_lengthsAt p.isList p'.isList (by simp;omega) (by omega) ?_;have e:eM ds es=false:=by
    cases h:eM ds es with
    |false=>rfl
    |true=>exact absurd (rY h) hl
   rw[e]at hq;exact hq
 ·cases e
  have ev:=I.list_inj q q';subst ev;have e2:=tQ I hd r r';subst e2;have:=gZ (.tup ds);simpa[eqD] using this
end
open PySem PySem.Spec PyProof.Rows PySem.SeqAt PySem.W
def hdk:PV->Option Nat
 |.tup (.int _::_)=>some 0
 |.tup (.str _::_)=>some 1
 |.tup (.tup _::_)=>some 2
 |_=>none
open PySem PySem.Spec PyProof.Rows
def Its(x:Str):It:=⟨λi _=>i<x.cps.size,λi H v H'=>H'=H/\∃c,x.cps[i]?=some c/\v=V.str ⟨#[c]⟩,λi _=>x.cps.size<=i⟩
theorem Fk(x:Str)(t:Tok)(it:Addr):Turn P w K tg (Its x) [it] it (λi h=>h.IsStrIter it "str_ascii_iterator" x t i) where
 mem:=by simp
 obj:=λi h st b hb=>by
  have e:b=it:=by simpa using hb
  subst e;obtain⟨o,e,c,d⟩:=st;exact⟨o,e,λv z=>by rw[d]at z;cases z⟩
 keep:=λi h h' ⟨o,e,r⟩ k=>⟨o,k it (by simp) o e,r⟩
 item:=by
  intro X hP hw hK hc i pins s σ H E I hf st hg;subst hP hw hK;obtain⟨f0,f1,f2,f3,f4,f5⟩:=hf it (by simp);have hi:x.cps[i]?=some x.cps[i]:=Qp hg;refine wpAny_pyNext_ascii_item st hi λh' bh sb=>?_;have I1:Inv X pins σ H { s with heap:=h',toks:=s.toks+1 }:=I.turned (t':=s.toks+1) (λb o hb e=>(sb.2 b hb).trans e) f0 f1 f3 f4 f5;obtain⟨o,e,c,d⟩:=id bh;exact⟨_,rfl,zK (s:={ s with heap:=h',toks:=s.toks+1 }) e c d (by decide) ⟨.str ⟨#[x.cps[i]]⟩,H,I1,⟨_,rfl⟩,⟨rfl,_,hi,rfl⟩,bh,λb hb=>(hf b hb).1⟩⟩
 done:=by
  intro X hP hw hK hc i pins s σ H E I hf st hg;subst hP hw hK;obtain⟨f0,f1,f2,f3,f4,f5⟩:=hf it (by simp);exact wpAny_pyNext_ascii_end (I.ok.hd hc) st (Qh hg) λh' eb=>⟨rfl,I.turned (t':=s.toks) (λb o hb e=>eb b o hb e) f0 f1 f3 f4 f5⟩
 self:=λ_ _ _ _ _ st h=>wpAny_pyIter_striter_ascii st h
def ofStr(x:PV)(h:PH):Rs Wk:=match x with
 |.str x=>if(x.cps.all λc=>decide (c<128))=true then .ok ⟨x.cps.toList.map λc=>.str ⟨#[c]⟩,λ_=>true⟩ h else .bad
 |_=>.bad
def wG(m:Me):Mi:=λδ h=>(m δ h).bind ofStr
set_option tactic.hygienic true in
theorem Nc{k:Nat}(h:SE C k X iter m):SI C k X tg iter (wG m):=λc=>by
 intro pins s σ H R I q;obtain⟨φ,δ,hh,rh,re,p⟩:=q;have key:rd C m σ H λv H1=>∃φ1 x h1,φ<+:φ1/\Kp H H1/\RH C φ1 H1 h1/\RV C φ1 H1 x v/\cU C φ1 H1 (ofStr x h1) R:=by
  refine⟨φ,δ,hh,rh,re,?_⟩;unfold wG at p;cases e:m δ hh with
  |ok x h1=>
   rw[e]at p;intro φ' v H' p' t' a9 ak;refine⟨φ',x,h1,p',t',a9,ak,?_⟩
   show cU C φ' H' (ofStr x h1) R
   have p0:cU C φ H (ofStr x h1) R:=p;cases e2:ofStr x h1 with
   |ok w h2=>rw[e2]at p0;exact λφ2 H2 J p2 t2=>p0 φ2 H2 J (p'.trans p2) (t'.trans t2)
   |exc z h2=>rw[e2]at p0;exact λφ2 H2 p2 t2=>p0 φ2 H2 (p'.trans p2) (t'.trans t2)
   |bad=>rw[e2]at p0;exact p0
  |exc x h1=>rw[e]at p;exact p
  |bad=>rw[e]at p;exact p
 refine thn (h c pins s σ H _ I key) λv s1 hz=>?_;obtain⟨x,H1,I1,r1,φ1,x',h1,p1,t1,aa,ae,q1⟩:=hz;unfold ofStr at q1;cases x' with
 |str x'=>
  cases ae
  obtain⟨t,rfl⟩:=r1;dsimp only at q1;split at q1
  ·rename_i ha;refine wpAny_pyIter_ascii ha ?_;refine⟨s1.heap.objs.size,[s1.heap.objs.size],_,_,H1,rfl,I1.kept (t':=s1.toks) λb o e=>y0 _ e,Fk x' t _,⟨_,zj _ rfl,rfl,rfl⟩,λb hb=>?_,?_⟩
   ·have e:b=s1.heap.objs.size:=by simpa using hb
    subst e;exact I1.fpOk (zb _) (I1.hok.fresh (zb _))
   ·refine q1 φ1 H1 (Its x') zf (Kp.refl H1) aa λφ2 H2 h2 p2 t2 aj _ i=>⟨λhi=>?_,λhi=>by simpa[Its] using hi⟩
    have ax:i<x'.cps.size:=by simpa using hi
    refine⟨ax,λv H' y=>?_⟩;obtain⟨e,c',ec,rfl⟩:=y;subst e;have:x'.cps.toList[i]?=some c':=by simpa using ec
    exact⟨⟨.str ⟨#[c']⟩,by simp[ec],rfl⟩,Kp.refl _,aj⟩
  ·exact q1.elim
 |_=>exact q1.elim
theorem KD{E:FE}{tg:Mg}{body:Ms}(I:Nat->Ev->PH->Prop)(e:m δ h=.ok (.str x) h)(ha:(x.cps.all λc=>decide (c<128))=true)(h0:I 0 δ h)(step:∀(q:Nat) c δ h,x.cps.toList[q]?=some c->I q δ h->∃δ1,tg (.str ⟨#[c]⟩) δ=some δ1/\(body δ1 h).W { nx:=I (q+1),ct:=I (q+1),rt:=E.rt,bk:=E.nx })(fin:∀δ h,I x.cps.size δ h->E.nx δ h):(eC (wG m) tg body δ h).W E:=by
 have go:(fB (λ_=>true) tg body (x.cps.toList.map λc=>PV.str ⟨#[c]⟩) δ h).W E:=sS I _ 0 δ h h0 (λq y δ h _ hx hi=>⟨rfl,by
  rw[Nat.sub_zero,zo]at hx;obtain⟨c,hc,rfl⟩:=z6.mp hx;exact step q c δ h hc hi⟩) (λδ h hi=>⟨rfl,fin δ h (by simpa using hi)⟩)
 unfold eC wG;rw[e,Rs.bind_ok];unfold ofStr;dsimp only;rw[if_pos ha];exact go
theorem HJ(K:yz)(hK:X.K=K):OpR X (PK .Add) (λx y H Q=>∃l b xs zs,x=.ref l/\y=.ref b/\SqL K H l xs/\H b=some (.lst zs)/\xs.length+zs.length<=zk/\∀p,H p=none->Q (.ref p) (upd H p (.lst (xs++zs)))):=by
 subst hK;intro pins s σ H x y v u Q I rx ry h;obtain⟨l,b,xs,zs,rfl,rfl,hH,hB,hz,q⟩:=h;cases rx
 cases ry
 obtain⟨its,r,⟨⟨oc,od,oda,osl⟩,n,e,h1,h2,h3⟩,z⟩:=I.list hH;obtain⟨z2,bw,n2,r2,ph,e2⟩:=I.lstM hB;have hl:=r.length;dsimp only at h1 h2 h3;subst h1 h2 h3;refine concat_meets (T:="list") ⟨_,e,rfl⟩ ⟨_,e2,rfl⟩ noFill_list_add seq_list_add F.slot_list_add F.entry_list_add (F.args_list_add_2 _ _) (list_addW l b its.toArray bw.toArray n n2 none none osl #[] (by rw[ze,ze];omega)) ⟨e,e2,?_⟩;have ea:its.toArray++bw.toArray=(its++bw).toArray:=by simp
 rw[ea];exact⟨.ref _,_,I.lnew (t':=s.toks) (r.append r2) (by rw[PP];omega),rfl,q _ I.fresh⟩
def pJ:PV->PV->PH->Rs PV:=λx y h=>match x,y with
 |.fl xs,.ref m=>match cA h m with
  |some ys=>if xs.length+ys.length<=zk then .ok (.ref h.length) (h++[.lst (xs++ys)]) else .bad
  |none=>.bad
 |_,_=>.bad
set_option tactic.hygienic true in
theorem HK{k:Nat}:OpS C k X (PK .Add) pJ:=λc=>(HJ C.K c.K).imp λx y H Q h=>by
 obtain⟨φ,h,p,q,rh,rx,ry,po⟩:=h;unfold pJ at po;split at po
 ·rename_i xs m;obtain⟨a,vs,rfl,sa,ra⟩:=rx;obtain⟨b,rfl,hb⟩:=ry;cases e:cA h m with
  |none=>rw[e]at po;exact po.elim
  |some ys=>
   rw[e]at po;obtain⟨us,h2,r2⟩:=rh.at' m b _ hb (fR e);obtain⟨hz,po⟩:=po.ite;exact⟨a,b,vs,us,rfl,rfl,sa.sq,h2,by rw[<-ra.length,<-r2.length];exact hz,λp hp=>po.lnew rh (ra.append r2) hp⟩
 ·exact po.elim
theorem Du{m:Nat}(e:h[m]?=some (.lst ys))(hz:xs.length+ys.length<=16777216):pJ (.fl xs) (.ref m) h=.ok (.ref h.length) (h++[.lst (xs++ys)]):=by
 have:cA h m=some ys:=by simp[cA,e]
 unfold pJ;simp only[this];rw[if_pos (by rw[Pj];exact hz)]
open PySem PySem.Spec PyProof.Rows PySem.SeqAt
def eqL(f:PV->PV->Option Bool):List PV->List PV->Option Bool
 |x::xs,y::ys=>match f x y,eqL f xs ys with
  |some b,some c=>some (b&&c)
  |_,_=>none
 |[],[]=>some true
 |_,_=>some false
set_option tactic.hygienic true in
theorem Fm{f:PV->PV->Option Bool}:∀{xs ys:List PV}{b:Bool},eqL f xs ys=some b->
  ∃g:Nat->Bool,(∀(j:Nat)(x y:PV),xs[j]?=some x->ys[j]?=some y->f x y=some (g j))/\b=((Io (min xs.length ys.length)).all g&&xs.length == ys.length)
 |[],[],b,e=>⟨λ_=>true,λj x y h=>(by simp at h),by cases e;rfl⟩
 |[],y::ys,b,e=>⟨λ_=>true,λj x y h=>(by simp at h),by cases e;simp⟩
 |x::xs,[],b,e=>⟨λ_=>true,λj x y _ h=>(by simp at h),by cases e;simp⟩
 |x::xs,y::ys,b,e=>by
  unfold eqL at e;split at e
  ·rename_i b' c e1 e2;cases e
   obtain⟨g,h1,h2⟩:=Fm e2;refine⟨λj=>match j with|0=>b'|j+1=>g j,λj x y hx hy=>?_,?_⟩
   ·cases j with
    |zero=>simp at hx hy;subst hx hy;exact e1
    |succ j=>exact h1 j x y (by simpa using hx) (by simpa using hy)
   ·rw[h2];have e3:min (x::xs).length (y::ys).length=min xs.length ys.length+1:=by simp only[Pt];omega
    rw[e3,List.range_succ_eq_map,QL,List.all_map,Bool.and_assoc];simp[Function.comp_def]
  ·cases e
set_option tactic.hygienic true in
theorem yG{f:PV->PV->Option Bool}{R:PV->V->Prop}(hf:∀x y v b,f x y=some b->R x v->R y v->b=true):∀{xs ys:List PV}{vs:List V}{b:Bool},(∀(j:Nat)(x:PV),xs[j]?=some x->∃v,vs[j]?=some v/\R x v)->(∀(j:Nat)(x:PV),ys[j]?=some x->∃v,vs[j]?=some v/\R x v)->xs.length=ys.length->eqL f xs ys=some b->b=true
 |[],[],_,b,_,_,_,e=>by cases e;rfl
 |[],_::_,_,_,_,_,h,_=>by simp at h
 |_::_,[],_,_,_,_,h,_=>by simp at h
 |x::xs,y::ys,vs,b,h1,h2,h,e=>by
  unfold eqL at e;split at e
  ·rename_i b' c e1 e2;cases e
   obtain⟨v,hv,rx⟩:=h1 0 x rfl;obtain⟨v',n5,ry⟩:=h2 0 y rfl;rw[hv]at n5;cases n5
   rw[hf x y v b' e1 rx ry,yG hf (vs:=vs.tail) (λj z hz=>by simpa using h1 (j+1) z hz) (λj z hz=>by simpa using h2 (j+1) z hz) (by simpa using h) e2]
   rfl
  ·cases e
def eqF:Nat->PV->PV->PH->Option Bool
 |0,x,y,h=>fT x y h
 |n+1,x,y,h=>match fT x y h with
  |some b=>some b
  |none=>match x,y with
   |.tup xs,.tup ys=>eqL (λa b=>eqF n a b h) xs ys
   |x,y=>match eJ x h,eJ y h with
    |some xs,some ys=>eqL (λa b=>eqF n a b h) xs ys
    |_,_=>none
def Aj:PV->PV->PH->Rs PV:=λx y h=>ofB (eqF 3 x y h) h
def pK:PV->PV->PH->Rs PV:=λx y h=>ofB ((eqF 3 x y h).map not) h
section
variable{k:Nat}
theorem lY:∀{xs:List PV}{vs:List V},RVs C φ H xs vs->xs.length=vs.length/\∀(j:Nat)(x:PV),xs[j]?=some x->∃v,vs[j]?=some v/\RV C φ H x v
 |[],[],_=>⟨rfl,λj x h=>by simp at h⟩
 |x::xs,v::vs,r=>by
  obtain⟨l,q⟩:=lY r.2;refine⟨by simp[l],λj y hy=>?_⟩;cases j with
  |zero=>simp at hy;subst hy;exact⟨v,rfl,r.1⟩
  |succ j=>simpa using q j y (by simpa using hy)
 |[],_::_,r=>r.elim
 |_::_,[],r=>r.elim
theorem wH(I:Inv X pins σ H s)(hK:X.K=C.K)(rh:RH C φ H h){x y:PV}{w:V}(e:fT x y h=some b)(rx:RV C φ H x w)(ry:RV C φ H y w):b=true:=by
 rcases iK rh rx ry e with⟨d,e',q1,q2,q3,rfl⟩|⟨d,e',⟨a,vs,hw,sa,ra⟩,⟨a',us,hw',kb,ra'⟩,q3,rfl⟩
 ·rw[<-hK]at q1 q2;rw[kE I 40 d e' w q3 q1 q2];exact gZ _
 ·rw[<-hK]at sa kb ra ra';subst hw;cases hw'
  have ev:=I.list_inj sa kb;subst ev;have e2:=tQ I q3 ra ra';subst e2;have:=gZ (.tup d);simpa[eqD] using this
set_option tactic.hygienic true in
theorem Fo(I:Inv X pins σ H s)(hK:X.K=C.K)(rh:RH C φ H h):∀(n:Nat)(x y:PV)(w:V)(b:Bool),eqF n x y h=some b->RV C φ H x w->RV C φ H y w->b=true:=by
 intro n
 induction n with
 |zero=>intro x y w b e rx ry;exact wH I hK rh e rx ry
 |succ n ih=>
  intro x y w b e rx ry;unfold eqF at e;split at e
  ·rename_i b' e2;cases e
   exact wH I hK rh e2 rx ry
  ·split at e
   ·rename_i xs ys _;obtain⟨a,vs,rfl,q,r⟩:=rx;obtain⟨a',us,hw,q',r'⟩:=ry;cases hw
    rw[<-hK]at q q';have ev:=I.tuple_inj q q';subst ev;obtain⟨l1,a1⟩:=lY r;obtain⟨l2,a2⟩:=lY r';exact yG (R:=RV C φ H) (λx y v b=>ih x y v b) a1 a2 (by omega) e
   ·split at e
    ·rename_i xs ys h1 h2;obtain⟨a,vs,rfl,sa,ra⟩:=fS rh rx h1;obtain⟨a',us,hw,sb,rb⟩:=fS rh ry h2;cases hw
     rw[<-hK]at sa sb;have ev:=I.list_inj sa sb;subst ev;obtain⟨l1,a1⟩:=lY ra;obtain⟨l2,a2⟩:=lY rb;exact yG (R:=RV C φ H) (λx y v b=>ih x y v b) a1 a2 (by omega) e
    ·cases e
theorem Ak(hn:∀(A:Around)(x y:PV)(v u:V)(i j:Value)(b:Bool),A.units+42+n<cLine->eqF n x y h=some b->RV C φ H x v->RV C φ H y u->RelV v i->RelV u j->EqAt A s i j b){us:List V}{is js:List Value}(hu:A.units+42+n<cLine)(e:eqL (λa b=>eqF n a b h) xs ys=some b)(r:RVs C φ H xs vs)(r':RVs C φ H ys us)(rv:aJ vs is)(bt:aJ us js):
  ∃g:Nat->Bool,is.toArray.size=xs.length/\js.toArray.size=ys.length/\(∀(j:Nat)(h1:j<is.toArray.size)(h2:j<js.toArray.size),EqAt A s is.toArray[j] js.toArray[j] (g j))/\b=((Io (min is.toArray.size js.toArray.size)).all g&&is.toArray.size == js.toArray.size):=by
 obtain⟨g,hg,hb⟩:=Fm e;obtain⟨l1,a1⟩:=lY r;obtain⟨l2,a2⟩:=lY r';have l3:=rv.length;have l4:=bt.length;have z1:is.toArray.size=xs.length:=by simp;omega
 have z2:js.toArray.size=ys.length:=by simp;omega
 refine⟨g,z1,z2,λj h1 h2=>?_,by rw[z1,z2];exact hb⟩;have k1:j<xs.length:=by omega
 have k2:j<ys.length:=by omega
 obtain⟨v,hv,q1⟩:=a1 j xs[j] (Pe k1);obtain⟨u,wm,q2⟩:=a2 j ys[j] (Pe k2);obtain⟨i,hi,q3⟩:=rv.get hv;obtain⟨i',ax,q4⟩:=bt.get wm;have e1:is.toArray[j]=i:=by
  have:=(yx.mp hi).2;simpa using this
 have e2:js.toArray[j]=i':=by
  have:=(yx.mp ax).2;simpa using this
 rw[e1,e2];exact hn A _ _ v u i i' (g j) hu (hg j _ _ (Pe k1) (Pe k2)) q1 q2 q3 q4
set_option tactic.hygienic true in
theorem Bq(I:Inv X pins σ H s)(hK:X.K=C.K)(rh:RH C φ H h)(n:Nat)(hn:∀(A:Around)(x y:PV)(v u:V)(i j:Value)(b:Bool),A.units+42+n<cLine->eqF n x y h=some b->RV C φ H x v->RV C φ H y u->RelV v i->RelV u j->EqAt A s i j b)
  (A:Around) (x y:PV) (v u:V) (i j:Value) (b:Bool) (hu:A.units+43+n<cLine) (e2:fT x y h=none) (e:eqF (n+1) x y h=some b) (rx:RV C φ H x v) (ry:RV C φ H y u) (r1:RelV v i) (r2:RelV u j):
  RcAt A s i j b/\RcNeAt A s i j (!b)/\∃a a',i=.ref a/\j=.ref a'/\v=.ref a/\u=.ref a':=by
 unfold eqF at e;rw[e2]at e;simp only at e;split at e
 ·rename_i xs ys;obtain⟨a,vs,rfl,q,r⟩:=rx;obtain⟨a',us,rfl,q',r'⟩:=ry;cases r1;cases r2;rw[<-hK]at q q';obtain⟨its,rv,p,_⟩:=I.tuple q;obtain⟨its',ak,p',_⟩:=I.tuple q';obtain⟨g,z1,z2,el,hb⟩:=Ak hn (A:=A.in1) (by show A.units+1+42+n<cLine;omega) e r r' rv ak;rw[hb];exact⟨RcAt.tuples p p' (by omega) el,RcNeAt.tuples p p' (by omega) el,a,a',rfl,rfl,rfl,rfl⟩
 ·split at e
  ·rename_i xs ys h1 h2;obtain⟨a,vs,rfl,sa,ra⟩:=fS rh rx h1;obtain⟨a',us,rfl,sb,rb⟩:=fS rh ry h2;cases r1;cases r2;rw[<-hK]at sa sb;obtain⟨its,rv,p,_⟩:=I.list sa;obtain⟨its',ak,p',_⟩:=I.list sb;obtain⟨g,z1,z2,el,hb⟩:=Ak hn (A:=A.in1) (by show A.units+1+42+n<cLine;omega) e ra rb rv ak;refine⟨?_,?_,a,a',rfl,rfl,rfl,rfl⟩
   all_goals by_cases hl:its.toArray.size=its'.toArray.size
   all_goals first
    |rw[hb,<-hl,Nat.min_self,beq_self_eq_true,Bool.and_true]
    |rw[hb,beq_eq_false_iff_ne.mpr hl,Bool.and_false]
   ·intro prog w E Q hq;exact eq_listAt p.isList p'.isList hl (by omega) el hq
   ·intro prog w E Q hq;exact eq_list_lengthsAt p.isList p'.isList (by simpa using hl) (by omega) hq
   ·exact RcNeAt.lists p.isList p'.isList hl (by omega) el
   ·exact RcNeAt.lists_lengths p.isList p'.isList (by simpa using hl) (by omega)
  ·cases e
theorem Fp(I:Inv X pins σ H s)(hK:X.K=C.K)(rh:RH C φ H h):∀(n:Nat)(A:Around)(x y:PV)(v u:V)(i j:Value)(b:Bool),A.units+42+n<cLine->eqF n x y h=some b->RV C φ H x v->RV C φ H y u->RelV v i->RelV u j->EqAt A s i j b:=by
 have base:∀(A:Around)(x y:PV)(v u:V)(i j:Value)(b:Bool),A.units+42<cLine->fT x y h=some b->RV C φ H x v->RV C φ H y u->RelV v i->RelV u j->EqAt A s i j b:=by
  intro A x y v u i j b hu e rx ry r1 r3;rcases iK rh rx ry e with⟨d,e',q1,q2,q3,rfl⟩|⟨d,e',q1,q2,q3,rfl⟩
  ·exact CS I (n:=40) q3 (by omega) (by rw[hK];exact q1) (by rw[hK];exact q2) r1 r3
  ·exact OH I q3 hu (by rw[hK];exact q1) (by rw[hK];exact q2) r1 r3
 intro n
 induction n with
 |zero=>intro A x y v u i j b hu e;exact base A x y v u i j b (by omega) e
 |succ n ih=>
  intro A x y v u i j b hu e rx ry r1 r2;cases e2:fT x y h with
  |some b'=>
   unfold eqF at e;rw[e2]at e;cases e
   exact base A x y v u i j b (by omega) e2 rx ry r1 r2
  |none=>
   obtain⟨h1,_,a,a',rfl,rfl,rfl,rfl⟩:=Bq I hK rh n ih A x y v u i j b (by omega) e2 e rx ry r1 r2;refine eN h1 (λz=>?_) (λf t z=>by cases z);cases z
   exact Fo I hK rh (n+1) x y _ b e rx ry
set_option tactic.hygienic true in
theorem Al{x y:PV}(e:eqF 3 x y h=some b):fT x y h=some b\/fT x y h=none:=by
 unfold eqF at e;split at e
 ·rename_i b' e2;cases e
  exact .inl e2
 ·exact .inr (by assumption)
theorem KF:OpS C k X (z8 .Eq) Aj:=λc=>by
 intro pins s σ H x y v u Q I rx ry hq;obtain⟨φ,h,p,q,rh,rp,rq,po⟩:=hq;obtain⟨b,e,po⟩:=po.ofB;have hu:=c.hu64;rcases Al e with e2|e2
 ·refine M0 c pins s σ H x y v u Q I rx ry ⟨φ,h,p,q,rh,rp,rq,?_⟩;unfold vEq;rw[e2];exact po
 ·exact(Bq I c.K rh 2 (Fp I c.K rh 2) X.A p q x y v u b (by omega) e2 e rp rq rx ry).1 X.prog X.w X.xe _ ⟨.bl _,H,I,rfl,po.val rh rfl⟩
theorem KG:OpS C k X (z8 .NotEq) pK:=λc=>by
 intro pins s σ H x y v u Q I rx ry hq;obtain⟨φ,h,p,q,rh,rp,rq,po⟩:=hq;obtain⟨b0,e0,po⟩:=po.ofB;obtain⟨b,e,rfl⟩:=z6.mp e0;have hu:=c.hu64;rcases Al e with e2|e2
 ·refine Oh c pins s σ H x y v u Q I rx ry ⟨φ,h,p,q,rh,rp,rq,?_⟩;unfold vNe;rw[e2];exact po
 ·exact(Bq I c.K rh 2 (Fp I c.K rh 2) X.A p q x y v u b (by omega) e2 e rp rq rx ry).2.1 X.prog X.w X.xe _ ⟨.bl _,H,I,rfl,po.val rh rfl⟩
end
open PySem PySem.Spec PyProof.Rows
def yH(f:Fn):Me:=λ_ h=>f [] h
theorem HL{k:Nat}{p:Pos}{f:Fn}(D:Def C.K X.mg x st a fd ps)(G:cD X.prog X.w C.K X.mg X.base CX0 j a fd ps (spM C 0 f))(hj:j<=k:=by decide)(hg:Gl X x:=by rfl)(bf:(x == ("__debug__" : Str))=false:=by decide):SE C k X (.Call (.Name x p) [] [] pos) (yH f):=λc=>by
 have e1:=c.K;have D':Def X.K X.mg x st a fd ps:=by rw[e1];exact D
 have G':cD X.prog X.w X.K X.mg X.base CX0 j a fd ps (spM C 0 f):=by rw[e1];exact G
 refine(DU G' (c.room.mono hj) hg D'.mg D'.fn.kp D'.bd .nil zP bf).imp λσ H Q h=>?_;obtain⟨φ,δ,h,rh,re,p⟩:=h;exact⟨φ,h,[],rh,trivial,rfl,p⟩
@[simp]theorem La{f:Fn}:yH f δ h=f [] h:=(rfl)
open PySem PySem.Spec PyProof.Rows PySem.W
def eL:Ms:=λ_ _=>.bad
theorem Nd{k:Nat}:SSt C k X st eL:=λc _ _ σ H _ I h=>by
 obtain⟨φ,δ,h,rh,re,p⟩:=h;exact p.elim
open PySem PySem.Spec PyProof.Rows
theorem getD_none{α:Type}{o:Array (Option α)}{x:α}(h:(o.getD j (some x)).isNone=true):o[j]?=some none:=by
 by_cases q:j<o.size
 ·have e:o.getD j (some x)=o[j]:=by simp[Array.getD,q]
  rw[e]at h;rw[Qp q,Option.isNone_iff_eq_none.mp h]
 ·have e:o.getD j (some x)=some x:=by simp[Array.getD,q]
  rw[e]at h;cases h
theorem sub_tuple_tuple:isSubtype (.type "tuple") (.type "tuple")=pure true:=isSubtype_tuple_tuple
end L2
namespace K72
open PySem L2
noncomputable section
def yI:Ms:=
 (aE (aO 2 (aB fN (aB xK (aB bQ (aB bQ (mV 0) (aB xK (mC (.int 7919)) (mV 1))) (mC (.int 1))) (mC (.int 48271))) (mC (.int 2147483647))))
 (aU (aB fN (aB xK (mV 2) (aB bQ (aB sJ (mV 2) (mC (.int 1009))) (mC (.int 69621)))) (mC (.int 2147483647)))))
def cF:Fn:=mFn 3 yI
def pL:Ms:=
 (aO 3 (aB bQ (mV 3) (aB vAt (mC (.str "abcdefghijklmnopqrstuvwxyz")) (aB fN (aS 2 cF (aA (mV 0) (aA (aB bQ (aB bQ (mC (.int 60)) (aB xK (mC (.int 9)) (mV 2))) (mV 4)) aD))) (mC (.int 26))))))
def pM:Ms:=
 (aV (aK (aB cB (mV 3) (mV 1)))
    (aO 3 (aB bQ (mV 5) (mSl (mV 3) (mP (mC (.int 1))) nL)))
    bA)
def pN:Ms:=
 (aE (aO 3 (mC (.str "")))
  (aE (eC (vN (aA (aB bQ (mC (.int 1)) (aB fN (aS 2 cF (aA (mV 0) (aA (aB bQ (mC (.int 50)) (mV 2)) aD))) (mC (.int 8)))) aD)) (gN 4) pL)
  (aE (eC (wG (mC (.str "hijkl"))) (gN 5) pM)
  (jH (mMt isL (onL bM) (mV 1) (aA (mV 3) aD))))))
def yJ:Ms:=
 (aE (aO 1 (eI aD))
 (aE (eC (vN (aA (aB bQ (mC (.int 2)) (aB fN (mV 0) (mC (.int 3)))) aD)) (gN 2) pN)
 (aU (mCB iO (aA (mV 1) aD)))))
def yK:Fn:=mFn 6 yJ
def Br:Ms:=
 (aE (aO 2 (cV [none] (bB (mV 0)) (gN 0) (nK (aK (aB vEq (aB vAt (aB vAt (mV 0) (mC (.int 2))) (mC (.int 0))) (mC (.str "make")))) (aK (aB sR (aB vAt (aB vAt (mV 0) (mC (.int 2))) (mC (.int 1))) (mC (.str "choice"))))) (aB vAt (mV 0) (mC (.int 0)))))
 (aE (aV (nK (aK (aB vGt (aB fN (mV 1) (mC (.int 7))) (mC (.int 2)))) (aK (aB pK (mV 2) (eI aD))))
  (aU (aB vAt (mV 2) (aB fN (aB sJ (mV 1) (mC (.int 7))) (mCB sO (aA (mV 2) aD)))))
  bA)
 (aE (aV (Bc (aK (aB vEq (aB fN (mV 1) (mC (.int 7))) (mC (.int 0)))) (aK (aB vEq (mV 0) (eI aD))))
  (aU (aX (aA (mC (.str "")) (aA (mC (.int 0)) aD))))
  bA)
 (aE (aV (aK (aB vEq (aB fN (mV 1) (mC (.int 7))) (mC (.int 1))))
  (aU (aX (aA (aB vAt (aB vAt (aB vAt (mV 0) (mUn xM (mC (.int 1)))) (mC (.int 0))) (mC (.int 0))) (aA (aB bQ (aB vAt (aB vAt (aB vAt (mV 0) (mUn xM (mC (.int 1)))) (mC (.int 0))) (mC (.int 1))) (mC (.int 500))) aD))))
  bA)
 (aU (aB vAt (aB vAt (mV 0) (aB fN (aB sJ (mV 1) (mC (.int 7))) (mCB sO (aA (mV 0) aD)))) (mC (.int 0))))))))
def yL:Fn:=mFn 3 Br
def Fq:Ms:=
 (aE (aO 2 (aB fN (aS 2 cF (aA (mV 0) (aA (mC (.int 2)) aD))) (mC (.int 10))))
 (aE (aO 3 (aS 2 yL (aA (mV 1) (aA (aS 2 cF (aA (mV 0) (aA (mC (.int 3)) aD))) aD))))
 (aE (aV (aK (aB Aj (mV 2) (mC (.int 0))))
  (aU (aX (aA (mC (.str "drop")) (aA (mV 3) aD))))
  bA)
 (aE (aO 4 (aS 2 yL (aA (mV 1) (aA (aS 2 cF (aA (mV 0) (aA (mC (.int 4)) aD))) aD))))
 (aE (aO 5 (aX (aA (aX aD) (aA (mC (.int 1)) aD))))
 (aE (aV (aK (aB vGt (aB fN (aS 2 cF (aA (mV 0) (aA (mC (.int 5)) aD))) (mC (.int 3))) (mC (.int 0))))
  (aO 5 (aB Df (aB vAt (mC (.str "dkmrtvz")) (aB fN (aS 2 cF (aA (mV 0) (aA (mC (.int 6)) aD))) (mC (.int 7)))) (aB bQ (mC (.int 1)) (aB fN (aS 2 cF (aA (mV 0) (aA (mC (.int 7)) aD))) (mC (.int 12))))))
  bA)
 (aE (aV (aK (aB vR (mV 2) (mC (.int 5))))
  (aU (aX (aA (mC (.str "make")) (aA (aB vAt (eI (aA (mC (.str "map")) (aA (mC (.str "map")) (aA (mC (.str "row")) (aA (mC (.str "choice")) aD))))) (aB A3 (mV 2) (mC (.int 1)))) (aA (mV 4) (aA (mV 5) aD))))))
  bA)
 (aU (aX (aA (mC (.str "move")) (aA (mV 3) (aA (mV 4) (aA (mV 5) aD)))))))))))))
def Fs:Fn:=mFn 6 Fq
def pO:Ms:=
 (aZ (aB xK (aB sJ (aB fN (aB sJ (mCB xU (aA (mSl (mV 0) nL (mP (mC (.int 1)))) aD)) (mC (.int 4))) (mC (.int 3))) (mC (.int 2))) (aB JV (mC (.int 10)) (mC (.int 9)))) (mV 2) (mV 3))
def kI:Ms:=
 (aE (aO 9 (mCB Ew (aA (mC (.int 0)) (aA (aB A3 (aB vAt (mV 2) (mV 8)) (aB xK (mV 6) (aB A3 (aB fN (aS 2 cF (aA (mV 5) (aA (aB bQ (mC (.int 9)) (mCB sO (aA (mV 7) aD))) aD))) (mC (.int 17))) (mC (.int 2))))) aD))))
   (aE (aV (aK (aB vEq (mV 8) (mV 3)))
    (aO 9 (aB vAt (mV 2) (mV 3)))
    bA)
   (aV (aK (aB vGt (mV 9) (mC (.int 0))))
    (jH (mMt isL (onL bM) (mV 7) (aA (aX (aA (mV 8) (aA (mV 9) aD))) aD)))
    bA)))
def iC:Ms:=
 (aE (aO 3 (aB vAt (mV 1) (aB fN (aS 2 cF (aA (mV 5) (aA (mC (.int 1)) aD))) (mCB sO (aA (mV 1) aD)))))
  (aE (aO 6 (aB fN (aS 2 cF (aA (mV 5) (aA (mC (.int 8)) aD))) (mC (.int 2))))
  (aE (aO 7 (eI aD))
  (aE (eC (bB (mV 1)) (gN 8) kI)
  (aE (aZ (aB bQ (aB vAt (mV 2) (mV 3)) (mC (.int 1))) (mV 2) (mV 3))
  (jH (mMt isL (onL bM) (mV 4) (aA (aX (aA (aX (aA (mV 3) (aA (aB vAt (mV 2) (mV 3)) aD))) (aA (mCB pC (aA (mV 7) aD)) (aA (aS 2 Fs (aA (mV 5) (aA (mV 4) aD))) aD)))) aD))))))))
def yM:Ms:=
 (aE (aO 1 (aS 1 yK (aA (aB vAt (aB pJ (mV 0) (eI (aA (mC (.int 0)) aD))) (mC (.int 0))) aD)))
 (aE (aO 2 bP)
 (aE (eC (bB (mV 1)) (gN 3) pO)
 (aE (aO 4 (eI aD))
 (aE (eC (bB (mSl (mV 0) nL (mP (mC (.int 50))))) (gN 5) iC)
 (aU (mV 4)))))))
def yN:Fn:=mFn 10 yM
def dH:Ms:=
 (aE (fD "made" (mV 0) bP)
 (fD "failed" (mV 0) (eI aD)))
def dI:Fn:=mFn 1 dH
def kW:Ms:=
 eL
def jW:Ms:=
 (aE (fD "made" (mV 0) bP)
 (aE (eC (bB (mV 1)) (gTp 4 (gCn (gN 3) (gCn (gN 4) (gCn (gN 5) (gCn (gN 6) gNl))))) kW)
 (fD "failed" (mV 0) (mCB vM (aA (mV 2) aD)))))
def gO:Fn:=mFn 7 jW
def yO:Str->Option Fn:=λ(z:Str)=>if z=("Tree" : Str) then some gO else(λ_=>none) z
def fE:Ms:=
 (aE eL
  eL)
def dJ:Ms:=
 (aE (nN (mV 1) (gTp 2 (gCn (gN 2) (gCn (gN 3) gNl))))
 (aE (fD "tree" (mV 0) (jE "Tree" 0 dI aD))
 (aE (jH (cY "fill" 2 yO (mUn (cH "tree") (mV 0)) (aA (cV [none] (bB (mV 2)) (gN 0) nP (mSl (mV 0) nL (mP (mC (.int 4))))) (aA (mV 3) aD))))
 (aE (fD "leaves" (mV 0) bP)
 (eC (bB (mV 2)) (gTp 5 (gCn (gN 4) (gCn (gN 5) (gCn (gN 6) (gCn (gN 7) (gCn (gN 8) gNl)))))) fE)))))
def dM:Fn:=mFn 9 dJ
def yP:Ms:=
 (aU (aX (aA (eI aD) (aA (eI aD) aD))))
def rD:Fn:=mFn 0 yP
def dN:Ms:=
 (aE (fD "undone" (mV 0) bP)
 (aE (fD "placers" (mV 0) bP)
 (aE (fD "numbers" (mV 0) bP)
 (aE (fD "writers" (mV 0) bP)
 (fD "signs_left" (mV 0) bP)))))
def dO:Fn:=mFn 1 dN
def fV:Ms:=
 (aE (aV (aK (aB vEq (mV 1) (mC (.tup [.str "",.int (0)]))))
  (aU (mC (.str "map")))
  bA)
 (aU (mIf (aK (aB cB (mV 1) (mUn (cH "made") (mV 0)))) (aB vAt (aB vAt (mUn (cH "made") (mV 0)) (mV 1)) (mC (.int 0))) (mC .non))))
def cK:Fn:=mFn 2 fV
def lZ:Str->Option Fn:=λ(z:Str)=>if z=("Tree" : Str) then some cK else(λ_=>none) z
def iU:Ms:=
 (aU (aB vEq (cY "kind_of" 1 lZ (mV 0) (aA (mV 1) aD)) (mIf (aK (mCB pE (aA (mV 2) (aA (mC (.ty "str")) aD)))) (mC (.str "map")) (mC (.str "row")))))
def cQ:Fn:=mFn 3 iU
def mB:Ms:=
 (aE (nN (mV 0) (gTp 2 (gCn (gN 2) (gCn (gN 3) gNl))))
 (aE (nN (mV 1) (gTp 2 (gCn (gN 4) (gCn (gN 5) gNl))))
 (aU (aB bQ (mV 2) (aX (aA (aX (aA (mV 3) (aA (mV 4) (aA (mV 5) (aA (mC (.int 0)) aD))))) aD))))))
def iV:Fn:=mFn 6 mB
def mD:Ms:=
 (aU (mIf (aK (mCB pE (aA (mV 0) (aA (mC (.ty "str")) aD)))) (mV 0) (aS 2 iV (aA (mV 0) (aA (mV 1) aD)))))
def eQ:Fn:=mFn 2 mD
def iD:Str->Option Fn:=λ(z:Str)=>if z=("Tree" : Str) then some cQ else(λ_=>none) z
def eR:Ms:=
 (aE (nN (mV 2) (gTp 4 (gCn (gN 3) (gCn (gN 4) (gCn (gN 5) (gCn (gN 6) gNl))))))
 (aE (aV (vL (aK (cY "takes" 2 iD (mV 0) (aA (mV 5) (aA (mV 6) aD)))))
  (aU (mC (.str "idle")))
  bA)
 (aE (aZ (aX (aA (mV 4) (aA (mV 5) (aA (aS 2 eQ (aA (mV 6) (aA (mV 1) aD))) aD)))) (mUn (cH "made") (mV 0)) (mV 1))
 (aU (mC (.str "done"))))))
def cR:Fn:=mFn 7 eR
def mE:Ms:=
 (aZ (aX (aA (aB vAt (aB vAt (mUn (cH "made") (mV 0)) (mV 1)) (mC (.int 0))) (aA (mV 2) (aA (mV 3) aD)))) (mUn (cH "made") (mV 0)) (mV 1))
def cL:Fn:=mFn 4 mE
def gW:Ms:=
 (aE (jH (mMt isL (onL bM) (mV 3) (aA (mV 4) aD)))
  (aE (aV (aK (aB vEq (mV 4) (mV 1)))
   (aU (mV 3))
   bA)
  (aO 4 (aB vAt (aB vAt (mUn (cH "made") (mV 0)) (mV 4)) (mC (.int 1))))))
def jX:Ms:=
 (aE (aO 3 (eI aD))
 (aE (aO 4 (mV 2))
 (aE (pD 1000000 (aK (aB cB (mV 4) (mUn (cH "made") (mV 0)))) gW)
 (aU (eI aD)))))
def fF:Fn:=mFn 5 jX
def iW:Str->Option Fn:=λ(z:Str)=>if z=("Tree" : Str) then some fF else(λ_=>none) z
def pP:Str->Option Fn:=λ(z:Str)=>if z=("Tree" : Str) then some cL else(λ_=>none) z
def eS:Ms:=
 (aE (nN (mV 2) (gTp 4 (gCn (gN 3) (gCn (gN 4) (gCn (gN 5) (gCn (gN 6) gNl))))))
 (aE (aV (vL (aK (cY "takes" 2 iD (mV 0) (aA (mV 5) (aA (mV 6) aD)))))
  (aU (mC (.str "idle")))
  bA)
 (aE (aV (aK (cY "ring" 2 iW (mV 0) (aA (mV 4) (aA (mV 5) aD))))
  (aE (jH (mMt isL (onL bM) (mUn (cH "failed") (mV 0)) (aA (mV 1) aD)))
  (aU (mC (.str "lost"))))
  bA)
 (aE (jH (cY "put" 3 pP (mV 0) (aA (mV 4) (aA (mV 5) (aA (aS 2 eQ (aA (mV 6) (aA (mV 1) aD))) aD)))))
 (aU (mC (.str "done")))))))
def cS:Fn:=mFn 7 eS
def iX:Str->Option Fn:=λ(z:Str)=>if z=("Tree" : Str) then some cR else(λ_=>none) z
def iY:Str->Option Fn:=λ(z:Str)=>if z=("Tree" : Str) then some cS else(λ_=>none) z
def jY:Ms:=
 (aE (nN (mV 1) (gTp 3 (gCn (gN 2) (gCn (gN 3) (gCn (gN 4) gNl)))))
 (aE (aV (aK (aB vEq (aB vAt (mV 4) (mC (.int 0))) (mC (.str "make"))))
  (aU (cY "hear_make" 2 iX (mV 0) (aA (mV 2) (aA (mV 4) aD))))
  bA)
 (aE (aV (aK (aB bK (aB vAt (mV 4) (mC (.int 1))) (mUn (cH "made") (mV 0))))
  (aU (mC (.str "idle")))
  bA)
 (aE (aV (aK (aB vEq (aB vAt (mV 4) (mC (.int 0))) (mC (.str "drop"))))
  (aE (jH (cY "put" 3 pP (mV 0) (aA (aB vAt (mV 4) (mC (.int 1))) (aA (mC .non) (aA (mC .non) aD)))))
  (aU (mC (.str "done"))))
  bA)
 (aU (cY "hear_move" 2 iY (mV 0) (aA (mV 2) (aA (mV 4) aD))))))))
def dX:Fn:=mFn 5 jY
def eD:Ms:=
 (aE (nN (mV 1) (gTp 3 (gCn (gN 2) (gCn (gN 3) (gCn (gN 4) gNl)))))
 (aV (aK (aB vEq (aB vAt (mV 4) (mC (.int 0))) (mC (.str "make"))))
  (aZ (mV 2) (mUn (cH "placers") (mV 0)) (mV 2))
  (aV (aK (aB cB (aB vAt (mV 4) (mC (.int 0))) (aX (aA (mC (.str "move")) (aA (mC (.str "drop")) aD)))))
   (aE (aZ (mV 2) (mUn (cH "undone") (mV 0)) (aB vAt (mUn (cH "placers") (mV 0)) (aB vAt (mV 4) (mC (.int 1)))))
   (aZ (mV 2) (mUn (cH "placers") (mV 0)) (aB vAt (mV 4) (mC (.int 1)))))
   eL)))
def bL:Fn:=mFn 5 eD
def eG:Ms:=
 (fD "standing" (mV 0) (eI aD))
def gP:Fn:=mFn 1 eG
def pQ:Ms:=
 (aE (aV (aK (aB vEq (mV 0) (mC (.str "count"))))
  eL
  bA)
 (aE (aV (aK (aB vEq (mV 0) (mC (.str "choice"))))
  (aU (jE "Choice" 0 gP aD))
  bA)
 (aE (aV (aK (aB vEq (mV 0) (mC (.str "bag"))))
  eL
  bA)
 (aE (aV (aK (aB vEq (mV 0) (mC (.str "text"))))
  eL
  bA)
 (aU (mC .non))))))
def pR:Fn:=mFn 1 pQ
def dQ:Ms:=
 (aE (aO 3 (aS 1 pR (aA (mV 2) aD)))
 (aV (aK (aB fH (mV 3) (mC .non)))
  (aZ (mV 3) (mUn (cH "leaves") (mV 0)) (mV 1))
  bA))
def bW:Fn:=mFn 4 dQ
def rE:Str->Option Fn:=λ(z:Str)=>if z=("Tree" : Str) then some dX else(λ(z:Str)=>if z=("Undoing" : Str) then some bL else(λ_=>none) z) z
def jZ:Str->Option Fn:=λ(z:Str)=>if z=("Folding" : Str) then some bW else(λ_=>none) z
def cW:Ms:=
 (aE (aO 2 (cY "hear" 1 rE (mUn (cH "tree") (mV 0)) (aA (mV 1) aD)))
 (aE (aO 3 (aB vAt (mV 1) (mC (.int 2))))
 (aE (aV (nK (aK (aB vEq (aB vAt (mV 3) (mC (.int 0))) (mC (.str "make")))) (aK (aB vEq (mV 2) (mC (.str "done")))))
  (jH (cY "add_leaf" 2 jZ (mV 0) (aA (aB vAt (mV 1) (mC (.int 0))) (aA (aB vAt (mV 3) (mC (.int 1))) aD))))
  bA)
 (aU (mV 2)))))
def bO:Fn:=mFn 4 cW
def iZ:Str->Option Fn:=λ(z:Str)=>if z=("Folding" : Str) then some bO else(λ_=>none) z
def fW:Ms:=
 (aE (aO 2 (aB vAt (mV 1) (mC (.int 2))))
 (aE (aV (aK (aB cB (aB vAt (mV 2) (mC (.int 0))) (aX (aA (mC (.str "make")) (aA (mC (.str "move")) (aA (mC (.str "drop")) aD))))))
  (aU (cY "hear_tree" 1 iZ (mV 0) (aA (mV 1) aD)))
  bA)
 (aE eL
 eL)))
def cM:Fn:=mFn 3 fW
def bX:Str->Option Fn:=λ(z:Str)=>if z=("Tree" : Str) then some dX else(λ(z:Str)=>if z=("Folding" : Str) then some cM else(λ(z:Str)=>if z=("Undoing" : Str) then some bL else(λ_=>none) z) z) z
def bY:Ms:=
 (aE (nN (mV 4) (gTp 3 (gCn (gN 5) (gCn (gN 6) (gCn (gN 7) gNl)))))
  (aE (aO 8 (cY "hear" 1 bX (mV 1) (aA (mV 4) aD)))
  (aV (aK (aB vEq (mV 8) (mC (.str "lost"))))
   (aZ (aX (aA (mC (.str "lost")) (aA (cY "ring" 2 iW (mUn (cH "tree") (mV 1)) (aA (aB vAt (mV 7) (mC (.int 1))) (aA (aB vAt (mV 7) (mC (.int 2))) aD))) aD))) (mV 3) (mV 5))
   (aV (aK (aB vEq (mV 8) (mC (.str "idle"))))
    (aZ (aX (aA (mC (.str "idle")) aD)) (mV 3) (mV 5))
    (jH (cY "hear" 1 bX (mV 2) (aA (mV 4) aD)))))))
def dR:Ms:=
 (aZ (aX (aA (mC (.str "outdone")) (aA (mV 9) aD))) (mV 3) (mV 5))
def eT:Ms:=
 (aE (aO 1 (jE "Folding" 1 dM (aA (yH rD) aD)))
 (aE (aO 2 (jE "Undoing" 0 dO aD))
 (aE (aO 3 bP)
 (aE (eC (bB (mV 0)) (gN 4) bY)
 (aE (pI true (sQ cX gM (mUn (cH "undone") (mV 2))) (eC (tO true (sQ cX gM (mUn (cH "undone") (mV 2)))) (gTp 2 (gCn (gN 5) (gCn (gN 9) gNl))) dR))
 (aU (mV 3)))))))
def eU:Fn:=mFn 10 eT
def rF:Ms:=
 (aU (aB bQ (mC (.int 1)) (mCB xU (aA (cV [none] (bB (aB vAt (mV 0) (mC (.int 1)))) (gN 0) nP (aB vAt (mV 0) (mC (.int 1)))) aD))))
def yQ:Fn:=mFn 1 rF
def Bs:Ms:=
 (aE (nN (aB vAt (mV 0) (mC (.int 0))) (gTp 2 (gCn (gN 1) (gCn (gN 2) gNl))))
 (aU (aX (aA (aS 1 yQ (aA (mV 0) aD)) (aA (mV 1) (aA (mV 2) aD))))))
def Bt:Fn:=mFn 3 Bs
def jA:Ms:=
 (aZ (mV 2) (mV 1) (aB vAt (mV 2) (mC (.int 0))))
def mF:Ms:=
 (aE (aO 1 bP)
 (aE (eC (bB (mV 0)) (gN 2) jA)
 (aU (iR Bt false (sQ cX vY (mV 1))))))
def dU:Fn:=mFn 3 mF
def pS:Ms:=
 (aU (aB vAt (mV 0) (mC (.int 0))))
def kJ:Fn:=mFn 1 pS
def oB:Ms:=
 (aE eL
  eL)
def mG:Ms:=
 (aE (eC (bB (mV 1)) (gN 2) oB)
 (aU (mC .non)))
def jB:Fn:=mFn 6 mG
def mH:Ms:=
 (aE (nN (aB vAt (mV 3) (mC (.int 0))) (gTp 2 (gCn (gN 4) (gCn (gN 5) gNl))))
  (aE (aO 6 (aB vAt (aB vAt (mV 3) (mC (.int 2))) (mC (.int 0))))
  (aE (aV (aK (aB vEq (mV 6) (mC (.str "settle"))))
   (aE eL
   eL)
   bA)
  (aE (aO 7 (aS 2 jB (aA (mV 5) (aA (mMt cX nV (mV 2) (aA (mV 4) (aA (eI aD) aD))) aD))))
  (aV (aK (aB fH (mV 7) (mC .non)))
   eL
   (aV (aK (aB vEq (mV 6) (mC (.str "back"))))
    eL
    bA))))))
def tR:Ms:=
 (aE (aO 1 bP)
 (aE (aO 2 bP)
 (aE (eC (bB (iR kJ true (mV 0))) (gN 3) mH)
 (aU (mV 1)))))
def oC:Fn:=mFn 8 tR
def mI:Ms:=
 (aE (aO 1 (aS 1 dU (aA (mV 0) aD)))
 (aE (aO 2 (aS 1 oC (aA (mV 1) aD)))
 (aU (cV [none,some 2] (bB (mV 1)) (gN 0) (aK (aB bK (aB vAt (mV 0) (mC (.int 0))) (mV 1))) (mV 0)))))
def mJ:Fn:=mFn 3 mI
def mK:Ms:=
 (aE (aO 1 (aS 1 dU (aA (mV 0) aD)))
 (aE (aO 2 (aS 1 oC (aA (mV 1) aD)))
 (aU (cV [none,some 2] (bB (mV 1)) (gN 0) (aK (aB cB (aB vAt (mV 0) (mC (.int 0))) (mV 1))) (aX (aA (aB vAt (mV 0) (mC (.int 0))) (aA (aB vAt (mV 1) (aB vAt (mV 0) (mC (.int 0)))) aD)))))))
def mL:Fn:=mFn 3 mK
def wI:Ms:=
 eL
def yR:Ms:=
 (aE (aO 1 (aS 1 eU (aA (aS 1 mJ (aA (mV 0) aD)) aD)))
 (aE (eC (bB (aS 1 mL (aA (mV 0) aD))) (gTp 2 (gCn (gN 2) (gCn (gN 3) gNl))) wI)
 (aU (cV [none,some 1] (bB (aS 1 dU (aA (mV 0) aD))) (gN 0) nP (aX (aA (aB vAt (mV 0) (mC (.int 0))) (aA (mMt cX nV (mV 1) (aA (aB vAt (mV 0) (mC (.int 0))) (aA (aX (aA (mC (.str "stands")) aD)) aD))) aD)))))))
def rG:Fn:=mFn 4 yR
def tS:Ms:=
 (aU (aX (aA (mCB xU (aA (cV [none,none] (bB (aB vAt (mV 0) (mC (.int 1)))) (gTp 2 (gCn (gN 0) (gCn (gN 1) gNl))) nP (mV 1)) aD)) (aA (aB vAt (aB vAt (mV 0) (mC (.int 0))) (mC (.int 0))) (aA (aB vAt (aB vAt (mV 0) (mC (.int 0))) (mC (.int 1))) aD)))))
def oE:Fn:=mFn 1 tS
def Bu:Ms:=
 (aE (aO 2 (mC (.str "none")))
 (aE (aV (aK (aB vEq (aB vAt (mV 1) (mC (.int 2))) (aX (aA (mC (.str "")) (aA (mC (.int 0)) aD)))))
  (aO 2 (mC (.str "map")))
  bA)
 (aE (aV (aK (aB cB (aB vAt (mV 1) (mC (.int 2))) (mV 0)))
  (aO 2 (aB vAt (aB vAt (mV 0) (aB vAt (mV 1) (mC (.int 2)))) (mC (.int 0))))
  bA)
 (aE (aV (aK (mCB pE (aA (aB vAt (mV 1) (mC (.int 3))) (aA (mC (.ty "str")) aD))))
  (aU (aB vEq (mV 2) (mC (.str "map"))))
  bA)
 (aU (aB vEq (mV 2) (mC (.str "row"))))))))
def yS:Fn:=mFn 3 Bu
def Bv:Ms:=
 (aE (aV (nK (aK (aB sR (aB vAt (mV 1) (mC (.int 0))) (mC (.str "make")))) (aK (aB bK (aB vAt (mV 1) (mC (.int 1))) (mV 0))))
  (aU (mC (.bl true)))
  bA)
 (aU (A4 (aB sR (aB vAt (mV 1) (mC (.int 0))) (mC (.str "drop"))) (A5 (aS 2 yS (aA (mV 0) (aA (mV 1) aD)))))))
def tT:Fn:=mFn 2 Bv
def yT:Ms:=
 (aE (jH (mMt isL (onL bM) (mV 3) (aA (mV 2) aD)))
  (aE (aV (aK (aB vEq (mV 2) (mV 1)))
   (aU (mV 3))
   bA)
  (aE (aV (aK (aB bK (mV 2) (mV 0)))
   (aU (eI aD))
   bA)
  (aO 2 (aB vAt (aB vAt (mV 0) (mV 2)) (mC (.int 1)))))))
def Fu:Ms:=
 (aE (aO 3 (eI aD))
 (aE (pD 1000000 (aK (aB fH (mV 2) (mC .non))) yT)
 (aU (eI aD))))
def Cb:Fn:=mFn 4 Fu
def rH:Ms:=
 (aE (aZ (aX (aA (mC (.str "idle")) aD)) (mV 2) (mV 4))
  (aE (aV (aK (aS 2 tT (aA (mV 1) (aA (mV 6) aD))))
   xO
   bA)
  (aE (aO 7 (aB vAt (mV 6) (mC (.int 1))))
  (aE (aO 8 (aB vAt (mV 6) (mC (.int 1))))
  (aE (aV (aK (aB vEq (aB vAt (mV 6) (mC (.int 0))) (mC (.str "make"))))
   (aO 7 (mV 4))
   (aO 8 (aB vAt (aB vAt (mV 1) (mV 7)) (mC (.int 0)))))
  (aE (aO 9 (eI aD))
  (aE (aV (aK (aB vEq (aB vAt (mV 6) (mC (.int 0))) (mC (.str "move"))))
   (aO 9 (aS 3 Cb (aA (mV 1) (aA (mV 7) (aA (aB vAt (mV 6) (mC (.int 2))) aD)))))
   bA)
  (aE (aZ (aX (aA (mC (.str "stands")) aD)) (mV 2) (mV 4))
  (aE (aV (aK (aB pK (mV 9) (eI aD)))
   (aE (aZ (aX (aA (mC (.str "lost")) (aA (mV 9) aD))) (mV 2) (mV 4))
   xO)
   bA)
  (aE (aV (aK (aB cB (mV 7) (mV 3)))
   (aZ (aX (aA (mC (.str "outdone")) (aA (mV 4) aD))) (mV 2) (aB vAt (mV 3) (mV 7)))
   bA)
  (aE (aZ (mV 4) (mV 3) (mV 7))
  (aE (aZ (aX (aA (mV 8) (aA (mC .non) aD))) (mV 1) (mV 7))
  (aV (aK (aB sR (aB vAt (mV 6) (mC (.int 0))) (mC (.str "drop"))))
   (aZ (aX (aA (mV 8) (aA (aB vAt (mV 6) (mC (.int 2))) aD))) (mV 1) (mV 7))
   bA)))))))))))))
def Fv:Ms:=
 (aE (aO 1 bP)
 (aE (aO 2 bP)
 (aE (aO 3 bP)
 (aE (eC (bB (mV 0)) (gTp 3 (gCn (gN 4) (gCn (gN 5) (gCn (gN 6) gNl)))) rH)
 (aU (mV 2))))))
def Fw:Fn:=mFn 10 Fv
def rJ:Ms:=
 (aV (aK (aB vEq (aB vAt (mV 9) (mC (.int 0))) (mC (.str "lost"))))
   (jH (sQ isL (onL lK) (aB vAt (mV 9) (mC (.int 1)))))
   bA)
def Fx:Ms:=
 (aE (aO 1 (aS 1 yN (aA (mV 0) aD)))
 (aE (aO 2 (aB fN (aB sJ (mCB xU (aA (mSl (mV 0) (mP (mUn xM (mC (.int 1)))) nL) aD)) (mC (.int 3))) (aB bQ (mCB sO (aA (mV 1) aD)) (mC (.int 1)))))
 (aE (aO 3 (aB bQ (aB bQ (mSl (mV 1) (mP (mV 2)) nL) (mSl (mV 1) nL (mP (mV 2)))) (mSl (mV 1) (mP (aB sJ (mV 2) (mC (.int 3)))) (mP (aB sJ (mV 2) (mC (.int 2)))))))
 (aE (aO 4 (aS 1 rG (aA (mV 3) aD)))
 (aE (aO 5 (iR oE false (mV 1)))
 (aE (aO 6 (aS 1 Fw (aA (mV 5) aD)))
 (aE (aO 7 (cV [none,none,none,some 6] (bB (mV 5)) (gTp 3 (gCn (gN 0) (gCn (gN 1) (gCn (gN 2) gNl)))) nP (aX (aA (mV 0) (aA (aB vAt (mV 3) (mV 0)) aD)))))
 (aE (aV (Bc (vL (aK (mCB pE (aA (mV 4) (aA (mC (.ty "list")) aD))))) (aK (aB pK (mV 4) (mV 7))))
  (aU (mC (.bl false)))
  bA)
 (aE (eC (bB (mV 4)) (gTp 2 (gCn (gN 8) (gCn (gN 9) gNl))) rJ)
 (aU (aB Aj (aS 1 rG (aA (mV 1) aD)) (mV 7))))))))))))
def Fy:Fn:=mFn 10 Fx
end
end K72
namespace K72
open PySem L2
abbrev Seen:=List (Str×Int)
def look:Seen->Str->Option Int
 |[],_=>none
 |p::r,h=>if p.1=h then some p.2 else look r h
theorem dY(p:Str×Int)(r:Seen)(h:Str):look (p::r) h=if p.1=h then some p.2 else look r h:=(rfl)
def dput(kvs:Seen)(h:Str)(n:Int):Seen:=if(look kvs h).isSome then kvs.map (λp=>if p.1=h then(p.1,n) else p) else kvs++[(h,n)]
def emb(kvs:Seen):List (Key×PV):=kvs.map λp=>(.inr p.1,.int p.2)
def row(p:Str×Int):List Key:=[.inr p.1,.inl p.2]
def sv(S:Seen):PV:=.tup (S.map λp=>.tup [.str p.1,.int p.2])
theorem tU(h:Str):∀kvs:Seen,aP (emb kvs) (.inr h)=(look kvs h).map PV.int
 |[]=>rfl
 |p::r=>by
  show aP ((QT p.1,PV.int p.2)::emb r) (.inr h)=_
  unfold aP look
  by_cases e:p.1=h
  ·rw[if_pos e,if_pos (by rw[e])];rfl
  ·rw[if_neg e,if_neg (by simpa using e)];exact tU h r
theorem Cc(kvs:Seen)(h:Str)(n:Int):putP (emb kvs) (.inr h) (.int n)=emb (dput kvs h n):=by
 unfold putP dput;rw[tU];cases look kvs h with
 |none=>simp[emb]
 |some m=>
  simp only[Ru,Rj,if_true];unfold emb;rw[Pm,Pm];apply Ql;intro p _
  by_cases e:p.1=h
  ·simp[e]
  ·simp[e]
variable{S:Seen}
theorem Cd{h:Str}{n:Int}:(dput S h n).length<=S.length+1:=by
 unfold dput;split <;> simp
abbrev Fz:Str:="abcdefghijklmnopqrstuvwxyz"
theorem FA:Fz.cps.toList.length=26:=by decide +kernel
theorem wJ:Fz.length=26:=by decide +kernel
theorem FB:∀i:Fin 26,Fz.cps.toList[i.val]?=some (97+i.val):=by decide +kernel
variable{c:Nat}
theorem FC{x:Str}:(x++(⟨#[c]⟩:Str)).length=x.length+1:=by
 rw[Str.length_append];rfl
variable{i:Int}
theorem HM(h0:0<=i)(h1:i<26):atI Fz.cps.toList i=some (97+i.toNat):=by
 rw[Ho h0 (by rw[FA];exact h1)];exact FB ⟨i.toNat,by omega⟩
variable{j:Int}{z:Str}
theorem Bw(h0:0<=j)(h1:j<=z.length):(Txt.slice z (some j) none).cps.toList=z.cps.toList.drop j.toNat:=by
 have fw:j<=z.cps.toList.length:=by simpa[Str.length] using h1
 have e:=StrLaws.sliceText_from (x:=z) ⟨h0,fw⟩;have e':Txt.slice z (some j) none=_:=e;rw[e']
 show List.take _ _=_
 rw[Rh];rw[Q9];omega
theorem len_list(z:Str):z.cps.toList.length=z.length:=by simp[Str.length]
def pv(p:Str×Int):PV:=.tup [.str p.1,.int p.2]
theorem FD(S:Seen):sv S=.tup (S.map pv):=rfl
variable{h hX:PH}{o:MO}
theorem kK(x:Ext h hX):Ext h (hX.set h.length o):=λn o' e=>by
 have hn:=(yx.mp e).1;rw[Pr (by omega)];exact x n o' e
theorem pv0{p:Str×Int}:vIx (pv p) (.int 0) h=.ok (.str p.1) h:=by unfold pv;simp
theorem pv1{p:Str×Int}:vIx (pv p) (.int 1) h=.ok (.int p.2) h:=by unfold pv;simp
theorem mM{p q:Str×Int}(e:pv p=pv q):p=q:=by
 unfold pv at e;have e':=PV.tup.inj e;simp at e';exact Prod.ext e'.1 e'.2
theorem Nf{p:Str×Int}:(PV.tup [.str p.1,.int p.2]).ky 6=true:=rfl
variable{n:Nat}
theorem FF(x:Ext h hX)(hn:h.length<=n):Ext h (hX.set n o):=λm o' e=>by
 have:=(yx.mp e).1;rw[Pr (by omega)];exact x m o' e
variable{E:FE}{body:Ms}
unseal Fl.W Rs.W in
theorem Ce{t:Ev->PH->Rs Bool}(I:Nat->Ev->PH->Prop)(step:∀m δ h,I m δ h->(t δ h).W λb h1=>if b=true then(body δ h1).W { nx:=λδ h=>∃m',m'<m/\I m' δ h,ct:=λδ h=>∃m',m'<m/\I m' δ h,rt:=E.rt,bk:=E.nx } else E.nx δ h1):
  ∀(n m:Nat),m<n->∀δ h,I m δ h->(pD n t body δ h).W E:=by
 intro n
 induction n with
 |zero=>intro m hm;exact absurd hm (QE _)
 |succ n ih=>
  intro m hm δ h hi;have hs:=step m δ h hi;unfold pD vO;rw[Bg];refine Bh hs λb h1 hb=>?_;cases b with
  |false=>simpa using hb
  |true=>
   rw[if_pos rfl]at hb;dsimp only;cases e:body δ h1 with
   |nx δ2 h2=>rw[e]at hb;obtain⟨m',h3,h4⟩:=hb;exact ih m' (by omega) δ2 h2 h4
   |ct δ2 h2=>rw[e]at hb;obtain⟨m',h3,h4⟩:=hb;exact ih m' (by omega) δ2 h2 h4
   |bk δ2 h2=>rw[e]at hb;exact hb
   |rt p h2=>rw[e]at hb;exact hb
   |exc p h2=>rw[e]at hb;exact hb
   |bad=>rw[e]at hb;exact hb
abbrev Nm:=Str×Int
structure Rc where
 kd:Str
 hd:Option Nm
 st:PV
def obN:Option Nm->PV
 |none=>.non
 |some p=>pv p
def tV(r:Rc):PV:=.tup [.str r.kd,obN r.hd,r.st]
abbrev Md:=List (Nm×Rc)
def fnd{β:Type}:List (Nm×β)->Nm->Option β
 |[],_=>none
 |x::M,p=>if x.1=p then some x.2 else fnd M p
theorem oF{β:Type}(x:Nm×β)(M:List (Nm×β))(p:Nm):fnd (x::M) p=if x.1=p then some x.2 else fnd M p:=rfl
def pT{β:Type}(f:β->PV)(x:Nm×β):PV×PV:=(pv x.1,f x.2)
abbrev yU:=pT tV
def cN{β:Type}(M:List (Nm×β))(p:Nm)(r:β):List (Nm×β):=if(fnd M p).isSome then M.map (λx=>if x.1=p then(x.1,r) else x) else M++[(p,r)]
variable{p:Nm}
theorem Am:(pv p).pl (n+1)=true:=by cases n <;> rfl
variable{r:Rc}
theorem rc0:vIx (tV r) (.int 0) h=.ok (.str r.kd) h:=by unfold tV;simp
theorem rc1:vIx (tV r) (.int 1) h=.ok (obN r.hd) h:=by unfold tV;simp
theorem jC{β:Type}(f:β->PV)(p:Nm):∀M:List (Nm×β),aP (M.map (pT f)) (pv p)=(fnd M p).map f
 |[]=>rfl
 |x::M=>by
  rw[zt]
  show aP ((pv x.1,f x.2)::M.map (pT f)) (pv p)=_
  unfold aP fnd
  by_cases e:x.1=p
  ·rw[if_pos (by rw[e]),if_pos e];rfl
  ·rw[if_neg (λz=>e (mM z)),if_neg e,jC f p M]
theorem FG{β:Type}(f:β->PV)(M:List (Nm×β))(p:Nm)(r:β):putP (M.map (pT f)) (pv p) (f r)=(cN M p r).map (pT f):=by
 unfold putP cN;rw[jC];cases e:fnd M p with
 |none=>simp[pT]
 |some z=>
  simp only[Ru,Rj,if_true,Pm];apply Ql;intro x _
  show(if pv x.1=pv p then(pv x.1,f r) else pT f x)=pT f (if x.1=p then(x.1,r) else x)
  by_cases e:x.1=p
  ·rw[if_pos (show pv x.1=pv p by rw[e]),if_pos e];rfl
  ·rw[if_neg (show ¬ pv x.1=pv p from λz=>e (mM z)),if_neg e]
theorem HN{β:Type}(M:List (Nm×β))(p:Nm)(r:β)(q:Nm):fnd (M.map λx=>if x.1=p then(x.1,r) else x) q=if q=p then(fnd M p).map (λ_=>r) else fnd M q:=by
 induction M with
 |nil=>simp[fnd]
 |cons x M ih=>
  rw[zt];unfold fnd;rw[ih]
  by_cases h1:x.1=p
  ·rw[if_pos h1]
   by_cases h2:q=p
   ·rw[if_pos (show x.1=q by rw[h1,h2]),if_pos h2,if_pos h1];rfl
   ·have h3:¬ x.1=q:=λz=>h2 (z▸h1);rw[if_neg (show ¬ x.1=q from h3),if_neg h2,if_neg h2,if_neg h3]
  ·rw[if_neg h1]
   by_cases h2:q=p
   ·have h3:¬ x.1=q:=λz=>h1 (z.trans h2);rw[if_neg h3,if_pos h2,if_pos h2,if_neg h1]
   ·rw[if_neg h2,if_neg h2]
theorem Cf{β:Type}(M N:List (Nm×β))(q:Nm):fnd (M++N) q=(fnd M q).or (fnd N q):=by
 induction M with
 |nil=>simp[fnd]
 |cons x M ih=>
  rw[List.cons_append,oF,oF]
  by_cases h:x.1=q
  ·rw[if_pos h,if_pos h];rfl
  ·rw[if_neg h,if_neg h,ih]
theorem cZ{β:Type}(M:List (Nm×β))(p:Nm)(r:β)(q:Nm):fnd (cN M p r) q=if q=p then some r else fnd M q:=by
 unfold cN;cases e:fnd M p with
 |some z=>simp only[Rj,if_true];rw[HN,e];rfl
 |none=>
  simp only[Option.isSome_none,Pb,if_false];rw[Cf]
  by_cases h:q=p
  ·rw[if_pos h,h,e];simp[fnd]
  ·rw[if_neg h];have:fnd [(p,r)] q=none:=by unfold fnd;rw[if_neg (λz=>h z.symm)];rfl
   rw[this];cases fnd M q <;> rfl
theorem rK{β:Type}{M:List (Nm×β)}:(fnd M p).isSome=true↔p∈M.map (·.1):=by
 induction M with
 |nil=>simp[fnd]
 |cons x M ih=>
  unfold fnd
  by_cases e:x.1=p
  ·rw[if_pos e];simp[e]
  ·rw[if_neg e,ih,zt,zq];exact⟨.inr,λz=>z.resolve_left λq=>e q.symm⟩
theorem Dv{β:Type}(M:List (Nm×β))(p:Nm)(r:β):(cN M p r).map (·.1)=if p∈M.map (·.1) then M.map (·.1) else M.map (·.1)++[p]:=by
 unfold cN
 by_cases e:(fnd M p).isSome=true
 ·rw[if_pos e,if_pos (rK.mp e),Pm];apply Ql;intro x _
  show(if x.1=p then(x.1,r) else x).1=x.1
  split <;> rfl
 ·rw[if_neg e,if_neg (λz=>e (rK.mpr z)),Pq];rfl
theorem An{β:Type}(M:List (Nm×β))(p:Nm)(r:β):(cN M p r).length<=M.length+1:=by
 unfold cN;split
 ·rw[za];omega
 ·simp
def Up(M:Md)(f:Nm->Nat):Prop:=∀p r q,fnd M p=some r->r.hd=some q->(fnd M q).isSome=true->f q<f p
def gX(M:Md):Prop:=∃f,Up M f
def cG(M:Md)(p:Nm):Nat->Option Nm->List Nm->List Nm
 |0,_,_=>[]
 |_+1,none,_=>[]
 |n+1,some q,way=>match fnd M q with
  |none=>[]
  |some r=>if q=p then way++[q] else cG M p n r.hd (way++[q])
def oG(M:Md)(p:Nm):Nat->Option Nm->Prop
 |0,_=>False
 |_+1,none=>False
 |n+1,some q=>match fnd M q with
  |none=>False
  |some r=>q=p\/oG M p n r.hd
variable{M:Md}
theorem eV{q:Nm}:oG M p (n+1) (some q)=(match fnd M q with|none=>False|some r=>q=p\/oG M p n r.hd):=rfl
theorem tW{M:Md}{p:Nm}:∀{n:Nat}{u:Option Nm}{way:List Nm},cG M p n u way=[] ↔ ¬ oG M p n u
 |0,u,way=>by simp[cG,oG]
 |n+1,none,way=>by simp[cG,oG]
 |n+1,some q,way=>by
  unfold cG oG;cases e:fnd M q with
  |none=>simp
  |some r=>
   dsimp only
   by_cases h:q=p
   ·rw[if_pos h];simp[h]
   ·rw[if_neg h,tW];simp[h]
def On(M:Md)(p:Nm)(u:Option Nm):Prop:=∃n,oG M p n u
theorem yV{q:Nm}(e:fnd M q=some r):On M p (some q)↔q=p\/On M p r.hd:=by
 constructor
 ·rintro⟨n,hn⟩;cases n with
  |zero=>exact hn.elim
  |succ n=>
   rw[eV,e]at hn;exact hn.imp id λz=>⟨n,z⟩
 ·rintro(z|⟨n,hn⟩)
  ·exact⟨1,by rw[eV,e];exact .inl z⟩
  ·exact⟨n+1,by rw[eV,e];exact .inr hn⟩
theorem KH{q:Nm}(e:fnd M q=none):¬ On M p (some q):=λ⟨n,hn⟩=>by
 cases n with
 |zero=>exact hn
 |succ n=>rw[eV,e]at hn;exact hn
theorem HP:¬ On M p none:=λ⟨n,hn⟩=>by cases n <;> exact hn
def vr(M:Md)(f:Nm->Nat):Option Nm->Nat
 |none=>0
 |some q=>if(fnd M q).isSome=true then f q+1 else 0
theorem yW{f:Nm->Nat}{q:Nm}:vr M f (some q)=if(fnd M q).isSome=true then f q+1 else 0:=rfl
theorem tX{f:Nm->Nat}(hf:Up M f){q:Nm}(e:fnd M q=some r):vr M f r.hd<vr M f (some q):=by
 have h1:vr M f (some q)=f q+1:=by rw[yW,e];rfl
 rw[h1];cases e2:r.hd with
 |none=>exact Nat.succ_pos _
 |some z=>
  rw[yW]
  by_cases e3:(fnd M z).isSome=true
  ·rw[if_pos e3];have:=hf q r z e e2 e3;omega
  ·rw[if_neg e3];exact Nat.succ_pos _
theorem pU{M:Md}{p:Nm}{f:Nm->Nat}(hf:Up M f):∀{n:Nat}{u:Option Nm},vr M f u<n->(On M p u↔oG M p n u)
 |0,u,h=>absurd h (QE _)
 |n+1,none,_=>iff_of_false HP id
 |n+1,some q,h=>by
  cases e:fnd M q with
  |none=>exact iff_of_false (KH e) (by rw[eV,e];exact id)
  |some r=>
   rw[yV e,eV,e];exact or_congr Iff.rfl (pU hf (by have:=tX hf e;omega))
theorem kL{M:Md}{p:Nm}{f:Nm->Nat}(hf:Up M f):∀{n m:Nat}{u:Option Nm}{way:List Nm},vr M f u<n->vr M f u<m->cG M p n u way=cG M p m u way
 |0,m,u,_,h,_=>absurd h (QE _)
 |_,0,u,_,_,h=>absurd h (QE _)
 |n+1,m+1,none,_,_,_=>rfl
 |n+1,m+1,some q,way,h1,h2=>by
  unfold cG;cases e:fnd M q with
  |none=>rfl
  |some r=>
   dsimp only;have:=tX hf e;split
   ·rfl
   ·exact kL hf (by omega) (by omega)
def wy(M:Md):Nat->Option Nm->List Nm
 |0,_=>[]
 |_+1,none=>[]
 |n+1,some q=>match fnd M q with
  |none=>[]
  |some r=>q::wy M n r.hd
theorem Ao{M:Md}{f:Nm->Nat}(hf:Up M f):∀{n:Nat}{u:Option Nm},vr M f u<n->(wy M n u).Nodup/\(∀x∈wy M n u,x∈M.map (·.1)/\vr M f (some x)<=vr M f u)
 |0,u,h=>absurd h (QE _)
 |n+1,none,_=>⟨List.nodup_nil,λx hx=>nomatch hx⟩
 |n+1,some q,h=>by
  unfold wy;cases e:fnd M q with
  |none=>exact⟨List.nodup_nil,λx hx=>nomatch hx⟩
  |some r=>
   dsimp only;have lt:=tX hf e;obtain⟨h1,h2⟩:=Ao hf (n:=n) (u:=r.hd) (by omega);refine⟨Qq.mpr ⟨λz=>?_,h1⟩,λx hx=>?_⟩
   ·have:=(h2 q z).2;omega
   ·rcases zq.mp hx with rfl|hx
    ·exact⟨rK.mp (by rw[e];rfl),zb _⟩
    ·exact⟨(h2 x hx).1,by have:=(h2 x hx).2;omega⟩
theorem Cg{M:Md}{f:Nm->Nat}(hf:Up M f):∀{n m:Nat}{u:Option Nm},vr M f u<n->vr M f u<m->wy M n u=wy M m u
 |0,m,u,h,_=>absurd h (QE _)
 |_,0,u,_,h=>absurd h (QE _)
 |n+1,m+1,none,_,_=>rfl
 |n+1,m+1,some q,h1,h2=>by
  unfold wy;cases e:fnd M q with
  |none=>rfl
  |some r=>
   dsimp only;have:=tX hf e;rw[Cg hf (n:=n) (m:=m) (by omega) (by omega)]
theorem small(hM:gX M):∃g,Up M g/\∀q,g q<=M.length:=by
 obtain⟨f,hf⟩:=hM;refine⟨λq=>(wy M (vr M f (some q)+1) (some q)).length,λp r q h1 h2 h3=>?_,λq=>?_⟩
 ·have e1:wy M (vr M f (some p)+1) (some p)=p::wy M (vr M f (some p)) r.hd:=by
   show(match fnd M p with|none=>[]|some r=>p::wy M (vr M f (some p)) r.hd)=_
   rw[h1]
  have lt:=tX hf h1
  show(wy M (vr M f (some q)+1) (some q)).length<(wy M (vr M f (some p)+1) (some p)).length
  rw[e1,h2,Pt,Cg hf (u:=some q) (n:=vr M f (some p)) (m:=vr M f (some q)+1) (by rw[<-h2];exact lt) (by omega)];omega
 ·obtain⟨h1,h2⟩:=Ao hf (n:=vr M f (some q)+1) (u:=some q) (by omega);have:=Q5 h1 (l₂:=M.map (·.1)) λx hx=>(h2 x hx).1;simpa using this
variable{r':Rc}
theorem Ap{q:Nm}{f:Nm->Nat}(hf:Up M f)(hr:fnd M p=some r)(hq:r'.hd=some q)(gf:¬ On M p (some q)):gX (cN M p r'):=by
 classical
 refine⟨λx=>if On M p (some x) then f x+f q+1 else f x,?_⟩;intro x rx z h1 h2 h3;rw[cZ]at h1 h3
 by_cases ex:x=p
 ·rw[if_pos ex]at h1;cases h1
  rw[hq]at h2;cases h2
  subst ex;have on:On M x (some x):=(yV hr).mpr (.inl rfl)
  show(if On M x (some q) then f q+f q+1 else f q)<if On M x (some x) then f x+f q+1 else f x
  rw[if_neg gf,if_pos on];omega
 ·rw[if_neg ex]at h1;have hz:(fnd M z).isSome=true:=by
   by_cases ez:z=p
   ·rw[ez,hr];rfl
   ·rw[if_neg ez]at h3;exact h3
  have lt:=hf x rx z h1 h2 hz;have st:=yV (p:=p) h1;rw[h2]at st
  show(if On M p (some z) then f z+f q+1 else f z)<if On M p (some x) then f x+f q+1 else f x
  by_cases oz:On M p (some z)
  ·rw[if_pos oz,if_pos (st.mpr (.inr oz))];omega
  ·have ox:¬ On M p (some x):=λw=>(st.mp w).elim ex oz;rw[if_neg oz,if_neg ox];exact lt
theorem Aq{f:Nm->Nat}(hf:Up M f)(hr:fnd M p=some r)(hq:r'.hd=none):Up (cN M p r') f:=by
 intro x rx z h1 h2 h3;rw[cZ]at h1 h3
 by_cases ex:x=p
 ·rw[if_pos ex]at h1;cases h1
  rw[hq]at h2;cases h2
 ·rw[if_neg ex]at h1;refine hf x rx z h1 h2 ?_
  by_cases ez:z=p
  ·rw[ez,hr];rfl
  ·rw[if_neg ez]at h3;exact h3
theorem Ar{f:Nm->Nat}(hf:Up M f)(hr:fnd M p=none)(hq:r.hd≠some p)(gf:∀x rx,fnd M x=some rx->rx.hd≠some p):gX (cN M p r):=by
 refine⟨λx=>if x=p then(match r.hd with|some q=>f q+1|none=>0) else f x,?_⟩
 intro x rx z h1 h2 h3;rw[cZ]at h1 h3
 by_cases ex:x=p
 ·rw[if_pos ex]at h1;cases h1
  have ez:z≠p:=λw=>hq (w▸h2)
  show(if z=p then _ else f z)<if x=p then _ else f x
  rw[if_neg ez,if_pos ex,h2];exact RJ _
 ·rw[if_neg ex]at h1;have ez:z≠p:=λw=>gf x rx h1 (w▸h2);rw[if_neg ez]at h3
  show(if z=p then _ else f z)<if x=p then _ else f x
  rw[if_neg ez,if_neg ex];exact hf x rx z h1 h2 h3
structure aM(h:PH)(lt lm lf:Nat)(M:Md)(L:List Nm):Prop where
 ins:h[lt]?=some (.ins "Tree" [("made",.ref lm),("failed",.ref lf)])
 made:bE h lm=some (M.map yU)
 fail:h[lf]?=some (.lst (L.map pv))
variable{L:List Nm}{h':PH}{lf lm:Nat}
theorem aM.ext{lt:Nat}(t:aM h lt lm lf M L)(x:Ext h h'):aM h' lt lm lf M L:=⟨x _ _ t.ins,Ae x t.made,x _ _ t.fail⟩
theorem aM.fm{lt:Nat}(t:aM h lt lm lf M L):cH "made" (.ref lt) h=.ok (.ref lm) h:=iS t.ins rfl
theorem aM.ff{lt:Nat}(t:aM h lt lm lf M L):cH "failed" (.ref lt) h=.ok (.ref lf) h:=iS t.ins rfl
theorem aM.has{lt:Nat}(t:aM h lt lm lf M L)(p:Nm):kO (pv p) (.ref lm) h=.ok (.bl (fnd M p).isSome) h:=by
 have:kO (pv p) (.ref lm) h=.ok (.bl (aP (M.map yU) (pv p)).isSome) h:=F6 t.made rfl;rw[this,jC,Qk]
theorem aM.hasNot{lt:Nat}(t:aM h lt lm lf M L)(p:Nm):eY (pv p) (.ref lm) h=.ok (.bl (!(fnd M p).isSome)) h:=by
 have:eY (pv p) (.ref lm) h=.ok (.bl (!(aP (M.map yU) (pv p)).isSome)) h:=wC t.made rfl;rw[this,jC,Qk]
variable{kvs:List (PV×PV)}{xs:List PV}
theorem IR{p:PV}(e:bE h n=some kvs)(hk:(PV.tup xs).ky 6=true)(hl:aP kvs (.tup xs)=some p):vAt (.ref n) (.tup xs) h=.ok p h:=by
 have k1:(PV.tup xs).isKt=true:=hk;have:fI (.tup xs) (.ref n) h=some (aP kvs (.tup xs)):=by simp only[fI,k1,if_true,e,Ru]
 unfold vAt;rw[this,hl]
theorem aM.at'{lt:Nat}(t:aM h lt lm lf M L)(e:fnd M p=some r):vAt (.ref lm) (pv p) h=.ok (tV r) h:=IR t.made rfl (by show aP _ (pv p)=_;rw[jC,e];rfl)
theorem HQ(M:Md):(M.map yU).all (λq=>q.1.isKt)=true:=by
 rw[zp];intro q hq;obtain⟨x,_,rfl⟩:=z9.mp hq;rfl
theorem aM.hasN{lt:Nat}(t:aM h lt lm lf M L)(u:Option Nm):cB (obN u) (.ref lm) h=.ok (.bl (u.bind (fnd M)).isSome) h:=by
 cases u with
 |none=>exact Dr t.made (HQ M)
 |some p=>show cB (pv p) _ _=_;unfold pv;rw[wF];exact t.has p
abbrev root:Nm:=("",0)
def gQ(M:Md)(p:Nm):PV:=if p=root then .str "map" else match fnd M p with
 |some r=>.str r.kd
 |none=>.non
theorem yX:vEq (pv p) (.tup [.str "",.int 0]) h=.ok (.bl (decide (p=root))) h:=by
 rw[lO (Am (n:=39)) rfl]
 congr 2
 rw[decide_eq_decide];exact⟨λe=>mM (q:=root) e,λe=>by rw[e];rfl⟩
theorem Ci{lt:Nat}(t:aM h lt lm lf M L)(p:Nm):cK [.ref lt,pv p] h=.ok (gQ M p) h:=by
 have w:(cK [.ref lt,pv p] h).W λq h'=>q=gQ M p/\h'=h:=by
  refine bR ?_;unfold fV gQ;rw[aC];simp[yX]
  by_cases e:p=root
  ·simp[e]
  ·simp[e];refine now ?_;have hh:cB (pv p) (.ref lm) h=.ok (.bl (fnd M p).isSome) h:=t.hasN (some p);cases e2:fnd M p with
   |none=>rw[e2]at hh;simp[t.fm,hh]
   |some r=>rw[e2]at hh;simp[t.fm,hh,t.at' e2,rc0]
 obtain⟨q,h',e,rfl,rfl⟩:=hW w;exact e
inductive Spot where
 |key (z:Str)
 |place (u:List PV) (side:Int)
def spP:Spot->PV
 |.key z=>.str z
 |.place u s=>.tup [.tup u,.int s]
def cO(sp:Spot)(p:Nm):PV:=match sp with
 |.key z=>.str z
 |.place u s=>.tup (u++[.tup [.int s,.str p.1,.int p.2,.int 0]])
def isKey:Spot->Bool
 |.key _=>true
 |_=>false
def bN(M:Md)(p:Nm)(sp:Spot):Bool:=decide (gQ M p=if isKey sp then .str "map" else .str "row")
theorem As(M:Md)(p:Nm):(gQ M p).pl 40=true:=by
 unfold gQ;split
 ·rfl
 ·split <;> rfl
theorem oH{lt:Nat}(t:aM h lt lm lf M L)(p:Nm)(sp:Spot):cQ [.ref lt,pv p,spP sp] h=.ok (.bl (bN M p sp)) h:=by
 have w:(cQ [.ref lt,pv p,spP sp] h).W λq h'=>q=.bl (bN M p sp)/\h'=h:=by
  refine bR ?_;unfold iU bN;have m1:=λy=>bJ (mm:="kind_of") (n:=1) (tb:=lZ) (ms:=aA (mV 1) aD) (δ:=[some (.ref lt),some (pv p),some y]) (h:=h) (h1:=h) (mo:=mV 0) (k:=lt) (f:=cK) (by simp) t.ins (by simp[lZ]) rfl;cases sp with
  |key z=>
   simp[m1,Ci t,spP,known,gH,isKey];rw[lO (As M p) rfl];simp
  |place u s=>
   simp[m1,Ci t,spP,known,gH,isKey];rw[lO (As M p) rfl];simp
 obtain⟨q,h',e,rfl,rfl⟩:=hW w;exact e
theorem FH(u:List PV)(hu:u.length<=1000)(s:Int)(p:Nm)(h:PH):iV [.tup [.tup u,.int s],pv p] h=.ok (.tup (u++[.tup [.int s,.str p.1,.int p.2,.int 0]])) h:=by
 have w:(iV [.tup [.tup u,.int s],pv p] h).W λq h'=>q=.tup (u++[.tup [.int s,.str p.1,.int p.2,.int 0]])/\h'=h:=by
  refine bR ?_;unfold mB;rw[aC];simp;refine now ?_;rw[aC];simp;refine⟨[some (.tup [.tup u,.int s]),some (pv p),some (.tup u),some (.int s),some (.str p.1),some (.int p.2)],by simp[pv],?_⟩;refine now ?_;simp;rw[Da (by simp;omega)];simp
 obtain⟨q,h',e,rfl,rfl⟩:=hW w;exact e
def Au:Spot->Prop
 |.key _=>True
 |.place u _=>u.length<=1000
theorem Av(sp:Spot)(hs:Au sp)(p:Nm)(h:PH):eQ [spP sp,pv p] h=.ok (cO sp p) h:=by
 have w:(eQ [spP sp,pv p] h).W λq h'=>q=cO sp p/\h'=h:=by
  refine bR ?_;unfold mD;cases sp with
  |key z=>simp[spP,known,gH,cO]
  |place u s=>simp[spP,known,gH,cO,FH u hs s p]
 obtain⟨q,h',e,rfl,rfl⟩:=hW w;exact e
theorem aM.dm{lt:Nat}(t:aM h lt lm lf M L):lt≠lm/\lf≠lm/\lt≠lf:=by
 have h1:=t.ins;have h2:=t.made;have h3:=t.fail;refine⟨λe=>?_,λe=>?_,λe=>?_⟩
 ·subst e;simp[bE,h1]at h2
 ·subst e;simp[bE,h3]at h2
 ·subst e;rw[h1]at h3;cases h3
theorem aM.put{lt:Nat}{M':Md}(t:aM h lt lm lf M L):aM (h.set lm (.dD (M'.map yU))) lt lm lf M' L:=by
 obtain⟨d1,d2,d3⟩:=t.dm;obtain⟨o,ho,_,_⟩:=bS t.made;exact⟨aG t.ins (λz=>d1 z.symm),yA (bV ho),aG t.fail (λz=>d2 z.symm)⟩
variable{L':List Nm}
theorem aM.lose{lt:Nat}(t:aM h lt lm lf M L):aM (h.set lf (.lst (L'.map pv))) lt lm lf M L':=by
 obtain⟨d1,d2,d3⟩:=t.dm;obtain⟨o,ho,_,hh⟩:=bS t.made;exact⟨aG t.ins (λz=>d3 z.symm),hh _ (aG ho d2),bV t.fail⟩
def Kept(lm lf:Nat)(h h':PH):Prop:=∀(n:Nat) o,n≠lm->n≠lf->h[n]?=some o->h'[n]?=some o
theorem Kept.of(x:Ext h h'):Kept lm lf h h':=λn o _ _ e=>x n o e
variable{h2:PH}
theorem Kept.trans(a:Kept lm lf h h')(b:Kept lm lf h' h2):Kept lm lf h h2:=λn o p q e=>b n o p q (a n o p q e)
theorem Bx:Kept lm lf h (h.set lm o):=λn _ p _ e=>aG e (λz=>p z.symm)
theorem KI:Kept lm lf h (h.set lf o):=λn _ _ q e=>aG e (λz=>q z.symm)
def WR(M:Md)(g:Nm->Nat)(L:List Nm)(lt lm lf:Nat)(h:PH)(p q:Nm)(m:Nat)(δ:Ev)(h':PH):Prop:=∃u way,m=vr M g u/\Ext h h'/\aM h' lt lm lf M L/\h'[h.length]?=some (.lst (way.map pv))/\way.length+m<=M.length+1/\
 cG M p (m+1) u way=cG M p (vr M g (some q)+1) (some q) []/\δ=[some (.ref lt),some (pv p),some (pv q),some (.ref h.length),some (obN u)]
variable{g:Nm->Nat}
theorem Cj(hb:∀q,g q<=M.length)(u:Option Nm):vr M g u<=M.length+1:=by
 cases u with
 |none=>exact zz _
 |some q=>rw[yW];split <;> have:=hb q <;> omega
theorem Ck{lt:Nat}(t:aM h lt lm lf M L)(hg:Up M g)(hb:∀q,g q<=M.length)(hl:M.length<=1000)(p q:Nm)(Q:PV->PH->Prop)(k:∀l h',Ext h h'->h.length<=l->h'[l]?=some (.lst ((cG M p (vr M g (some q)+1) (some q) []).map pv))->Q (.ref l) h'):(fF [.ref lt,pv p,pv q] h).W Q:=by
 refine bR ?_;unfold jX;rw[aC];simp;have x0:Ext h (h++[MO.lst []]):=Ext.app _ _;have g0:(h++[MO.lst []])[h.length]?=some (.lst (([]:List Nm).map pv)):=aF;generalize h++[MO.lst []]=hA at x0 g0;refine now ?_;rw[aC];simp;refine now ?_;rw[aC];have hv:=Cj hb (some q);refine Ce (WR M g L lt lm lf h p q) ?_ 1000000 (vr M g (some q)) (by omega) _ _ ⟨some q,[],rfl,x0,t.ext x0,g0,by simp;omega,rfl,rfl⟩;rintro m δ h' ⟨u,way,rfl,x,t',gw,lw,er,rfl⟩;cases hu:u.bind (fnd M) with
 |none=>
  have hn:=t'.hasN u;rw[hu]at hn;simp[t'.fm,hn];refine now ?_;simp;have e0:cG M p (vr M g (some q)+1) (some q) []=[]:=by
   rw[<-er];cases u with
   |none=>rfl
   |some z=>
    have hz:fnd M z=none:=hu;unfold cG;rw[hz]
  have:=k h'.length (h'++[MO.lst []]) (x.trans (Ext.app _ _)) x.len (by rw[e0];exact aF);exact this
 |some r=>
  have hn:=t'.hasN u;rw[hu]at hn;simp[t'.fm,hn];cases u with
  |none=>cases hu
  |some z=>
   have hz:fnd M z=some r:=hu;have vz:=tX hg hz;unfold gW;rw[aC];have ap:=eO (p:=pv z) gw (by rw[za];omega);rw[show way.map pv++[pv z]=(way++[z]).map pv by simp]at ap;have ia:onL bM (.ref h.length) [obN (some z)] h'=.ok .non (h'.set h.length (.lst ((way++[z]).map pv))):=ap;obtain⟨d1,d2,d3⟩:=t'.dm;have hlen:lt<h.length/\lm<h.length/\lf<h.length:=by
    obtain⟨o,ho,_,_⟩:=bS t.made;exact⟨(yx.mp t.ins).1,(yx.mp ho).1,(yx.mp t.fail).1⟩
   have x1:Ext h (h'.set h.length (.lst ((way++[z]).map pv))):=kK x;have t1:aM (h'.set h.length (.lst ((way++[z]).map pv))) lt lm lf M L:=by
    obtain⟨o,ho,_,hh⟩:=bS t'.made;exact⟨aG t'.ins (by omega),hh _ (aG ho (by omega)),aG t'.fail (by omega)⟩
   have g1:=bV (o':=MO.lst ((way++[z]).map pv)) gw;generalize h'.set h.length (.lst ((way++[z]).map pv))=h2 at x1 t1 g1 ia;simp[iL gw,ia];have cb:(if z=p then way++[z] else cG M p (vr M g (some z)) r.hd (way++[z]))=cG M p (vr M g (some q)+1) (some q) []:=by
    rw[<-er]
    show _=(match fnd M z with|none=>[]|some r=>if z=p then way++[z] else cG M p (vr M g (some z)) r.hd (way++[z]))
    rw[hz]
   refine now ?_;rw[aC];have ev:vEq (obN (some z)) (pv p) h2=.ok (.bl (decide (z=p))) h2:=by
    show vEq (pv z) (pv p) h2=_
    rw[lO (Am (n:=39)) (Am (n:=39))]
    congr 2
    rw[decide_eq_decide];exact⟨mM,λe=>by rw[e]⟩
   simp[ev]
   by_cases ez:z=p
   ·rw[if_pos ez];rw[if_pos ez]at cb;exact k h.length h2 x1 (zb _) (by rw[<-cb];exact g1)
   ·rw[if_neg ez];rw[if_neg ez]at cb;refine now ?_;have ea:vAt (.ref lm) (obN (some z)) h2=.ok (tV r) h2:=t1.at' hz;simp[t1.fm,ea,rc1];refine⟨vr M g r.hd,vz,r.hd,way++[z],rfl,x1,t1,g1,by simp;omega,?_,rfl⟩;rw[<-cb];exact kL hg (by omega) vz
theorem FI{lt:Nat}(t:aM h lt lm lf M L)(hl:M.length<=1000)(e:fnd M p=some r)(u:Option Nm)(st:PV):
  cL [.ref lt,pv p,obN u,st] h=.ok .non (h.set lm (.dD ((cN M p ⟨r.kd,u,st⟩).map yU))):=by
 have w:(cL [.ref lt,pv p,obN u,st] h).W λq h'=>q=.non/\h'=h.set lm (.dD ((cN M p ⟨r.kd,u,st⟩).map yU)):=by
  refine bR ?_;unfold mE;have hp:eK (.ref lm) (pv p) (tV ⟨r.kd,u,st⟩) h=some (h.set lm (.dD (putP (M.map yU) (pv p) (tV ⟨r.kd,u,st⟩)))):=yF t.made rfl (by rw[za];omega);rw[FG]at hp;have cj:eK (.ref lm) (pv p) (.tup [.str r.kd,obN u,st]) h=_:=hp;simp[t.fm,t.at' e,rc0,cj]
 obtain⟨q,h',e,rfl,rfl⟩:=hW w;exact e
inductive Act where
 |make (kd:Str) (ho:Nm) (sp:Spot)
 |move (th ho:Nm) (sp:Spot)
 |drop (th:Nm)
def aI:Act->List PV
 |.make kd ho sp=>[.str "make",.str kd,pv ho,spP sp]
 |.move th ho sp=>[.str "move",pv th,pv ho,spP sp]
 |.drop th=>[.str "drop",pv th]
def IS:Act->Prop
 |.make _ _ sp=>Au sp
 |.move _ _ sp=>Au sp
 |.drop _=>True
open Classical in
noncomputable def heard(M:Md)(L:List Nm)(nm:Nm):Act->Md×List Nm×Str
 |.make kd ho sp=>if bN M ho sp=true then(cN M nm ⟨kd,some ho,cO sp nm⟩,L,"done") else(M,L,"idle")
 |.move th ho sp=>match fnd M th with
  |none=>(M,L,"idle")
  |some r=>if bN M ho sp=true then(if On M th (some ho) then(M,L++[nm],"lost") else(cN M th ⟨r.kd,some ho,cO sp nm⟩,L,"done")) else(M,L,"idle")
 |.drop th=>match fnd M th with
  |none=>(M,L,"idle")
  |some r=>(cN M th ⟨r.kd,none,.non⟩,L,"done")
variable{ho nm:Nm}{kd:Str}{sp:Spot}
theorem oI:heard M L nm (.make kd ho sp)=if bN M ho sp=true then(cN M nm ⟨kd,some ho,cO sp nm⟩,L,("done" : Str)) else(M,L,("idle" : Str)):=rfl
open Classical in
theorem kA{M:Md}{L:List Nm}{nm th ho:Nm}{sp:Spot}{r:Rc}(e:fnd M th=some r):heard M L nm (.move th ho sp)=if bN M ho sp=true then(if On M th (some ho) then(M,L++[nm],("lost" : Str)) else(cN M th ⟨r.kd,some ho,cO sp nm⟩,L,("done" : Str))) else(M,L,("idle" : Str)):=by
 simp only[heard,e]
variable{th:Nm}
theorem pV(e:fnd M th=none):heard M L nm (.move th ho sp)=(M,L,("idle" : Str)):=by
 simp only[heard,e]
theorem tY(e:fnd M th=some r):heard M L nm (.drop th)=(cN M th ⟨r.kd,none,.non⟩,L,("done" : Str)):=by
 simp only[heard,e]
theorem pW(e:fnd M th=none):heard M L nm (.drop th)=(M,L,("idle" : Str)):=by
 simp only[heard,e]
theorem HS{lt:Nat}(t:aM h lt lm lf M L)(hl:M.length<=1000)(nm:Nm)(kd:Str)(ho:Nm)(sp:Spot)(hs:Au sp)(Q:PV->PH->Prop)(k:∀h',aM h' lt lm lf (heard M L nm (.make kd ho sp)).1 (heard M L nm (.make kd ho sp)).2.1->Kept lm lf h h'->Q (.str (heard M L nm (.make kd ho sp)).2.2) h'):(cR [.ref lt,pv nm,.tup (aI (.make kd ho sp))] h).W Q:=by
 refine bR ?_;unfold eR;rw[oI]at k;rw[aC];simp only[aI];simp;refine now ?_;rw[aC];have m1:=bJ (mm:="takes") (n:=2) (tb:=iD) (ms:=aA (mV 5) (aA (mV 6) aD)) (δ:=[some (.ref lt),some (pv nm),some (.tup [.str "make",.str kd,pv ho,spP sp]),some (.str "make"),some (.str kd),some (pv ho),some (spP sp)]) (h:=h) (h1:=h) (mo:=mV 0) (k:=lt) (f:=cQ) (by simp) t.ins (by simp[iD]) rfl;cases ef:bN M ho sp with
 |false=>
  simp[m1,oH t,ef];rw[ef,if_neg zi]at k;exact k h t (Kept.of (Ext.refl _))
 |true=>
  simp[m1,oH t,ef];rw[ef,if_pos rfl]at k;refine now ?_;rw[aC];have hp:eK (.ref lm) (pv nm) (tV ⟨kd,some ho,cO sp nm⟩) h=some (h.set lm (.dD (putP (M.map yU) (pv nm) (tV ⟨kd,some ho,cO sp nm⟩)))):=yF t.made rfl (by rw[za];omega);rw[FG]at hp;have cj:eK (.ref lm) (pv nm) (.tup [.str kd,pv ho,cO sp nm]) h=_:=hp;simp[Av sp hs nm,t.fm,cj];refine now ?_;simp;exact k _ t.put Bx
theorem HU{lt:Nat}(t:aM h lt lm lf M L)(hM:gX M)(hl:M.length<=1000)(hL:L.length<=1000)(nm:Nm)(th ho:Nm)(sp:Spot)(hs:Au sp)(hr:fnd M th=some r)(Q:PV->PH->Prop)(k:∀h',aM h' lt lm lf (heard M L nm (.move th ho sp)).1 (heard M L nm (.move th ho sp)).2.1->Kept lm lf h h'->Q (.str (heard M L nm (.move th ho sp)).2.2) h'):(cS [.ref lt,pv nm,.tup (aI (.move th ho sp))] h).W Q:=by
 refine bR ?_;unfold eS;rw[kA hr]at k;rw[aC];simp only[aI];simp;refine now ?_;rw[aC];have dl:([some (.ref lt),some (pv nm),some (.tup [.str "move",pv th,pv ho,spP sp]),some (.str "move"),some (pv th),some (pv ho),some (spP sp)]:Ev)=[some (.ref lt),some (pv nm),some (.tup [.str "move",pv th,pv ho,spP sp]),some (.str "move"),some (pv th),some (pv ho),some (spP sp)]:=rfl;have m1:=bJ (mm:="takes") (n:=2) (tb:=iD) (ms:=aA (mV 5) (aA (mV 6) aD)) (δ:=[some (.ref lt),some (pv nm),some (.tup [.str "move",pv th,pv ho,spP sp]),some (.str "move"),some (pv th),some (pv ho),some (spP sp)]) (h:=h) (h1:=h) (mo:=mV 0) (k:=lt) (f:=cQ) (by simp) t.ins (by simp[iD]) rfl;cases ef:bN M ho sp with
 |false=>
  simp[m1,oH t,ef];rw[ef,if_neg zi]at k;exact k h t (Kept.of (Ext.refl _))
 |true=>
  simp[m1,oH t,ef];rw[ef,if_pos rfl]at k;obtain⟨g,hg,hb⟩:=small hM;refine now ?_;rw[aC];have m2:=bJ (mm:="ring") (n:=2) (tb:=iW) (ms:=aA (mV 4) (aA (mV 5) aD)) (δ:=[some (.ref lt),some (pv nm),some (.tup [.str "move",pv th,pv ho,spP sp]),some (.str "move"),some (pv th),some (pv ho),some (spP sp)]) (h:=h) (h1:=h) (mo:=mV 0) (k:=lt) (f:=fF) (by simp) t.ins (by simp[iW]) rfl;obtain⟨pr,h2,e2,l,rfl,x2,fr,g2⟩:=hW (Ck t hg hb hl th ho (λpr h2=>∃l,pr=.ref l/\Ext h h2/\h.length<=l/\h2[l]?=some (.lst ((cG M th (vr M g (some ho)+1) (some ho) []).map pv))) λl h2 a b c=>⟨l,rfl,a,b,c⟩);have t2:=t.ext x2;have nq:cG M th (vr M g (some ho)+1) (some ho) []=[] ↔ ¬ On M th (some ho):=by rw[tW,pU hg (n:=vr M g (some ho)+1) (by omega)]
  generalize cG M th (vr M g (some ho)+1) (some ho) []=R at g2 nq
  by_cases on:On M th (some ho)
  ·rw[if_pos on]at k;have hR:R≠[]:=λz=>(nq.mp z) on;have tr:tru (.ref l) h2=.ok true h2:=by simp[tru,aN,cA,g2,hR]
   have ap:=eO (p:=pv nm) t2.fail (by rw[za];omega);rw[show L.map pv++[pv nm]=(L++[nm]).map pv by simp]at ap;have t3:=t2.lose (L':=L++[nm]);have k3:Kept lm lf h2 (h2.set lf (.lst ((L++[nm]).map pv))):=KI;generalize h2.set lf (.lst ((L++[nm]).map pv))=h3 at ap t3 k3;simp[m2,e2,tr,aC,t2.ff,iL t2.fail,ap];refine now ?_;simp;exact k _ t3 ((Kept.of x2).trans k3)
  ·rw[if_neg on]at k;have hR:R=[]:=nq.mpr on;have tr:tru (.ref l) h2=.ok false h2:=by simp[tru,aN,cA,g2,hR]
   simp[m2,e2,tr];refine now ?_;rw[aC];have m3:=bJ (mm:="put") (n:=3) (tb:=pP) (ms:=aA (mV 4) (aA (mV 5) (aA (aS 2 eQ (aA (mV 6) (aA (mV 1) aD))) aD))) (δ:=[some (.ref lt),some (pv nm),some (.tup [.str "move",pv th,pv ho,spP sp]),some (.str "move"),some (pv th),some (pv ho),some (spP sp)]) (h:=h2) (h1:=h2) (mo:=mV 0) (k:=lt) (f:=cL) (by simp) t2.ins (by simp[pP]) rfl;have hp:=FI t2 hl hr (some ho) (cO sp nm);have cj:cL [.ref lt,pv th,pv ho,cO sp nm] h2=_:=hp;simp[m3,Av sp hs nm,cj];refine now ?_;simp;exact k _ t2.put ((Kept.of x2).trans Bx)
theorem HV{lt:Nat}(t:aM h lt lm lf M L)(hM:gX M)(hl:M.length<=1000)(hL:L.length<=1000)(nm:Nm)(sn:PV)(a:Act)(ha:IS a)(Q:PV->PH->Prop)(k:∀h',aM h' lt lm lf (heard M L nm a).1 (heard M L nm a).2.1->Kept lm lf h h'->Q (.str (heard M L nm a).2.2) h'):(dX [.ref lt,.tup [pv nm,sn,.tup (aI a)]] h).W Q:=by
 refine bR ?_;unfold jY;rw[aC];simp;refine now ?_;rw[aC];cases a with
 |make kd ho sp=>
  have m1:=bJ (mm:="hear_make") (n:=2) (tb:=iX) (ms:=aA (mV 2) (aA (mV 4) aD)) (δ:=[some (.ref lt),some (.tup [pv nm,sn,.tup (aI (.make kd ho sp))]),some (pv nm),some sn,some (.tup (aI (.make kd ho sp)))]) (h:=h) (h1:=h) (mo:=mV 0) (k:=lt) (f:=cR) (by simp) t.ins (by simp[iX]) rfl;have e0:∀h,vIx (.tup (aI (.make kd ho sp))) (.int 0) h=.ok (.str "make") h:=λh=>by simp[aI]
  generalize hA:aI (.make kd ho sp)=A at m1 e0;simp[e0,m1];rw[<-hA];exact HS t hl nm kd ho sp ha _ k
 |move th ho sp=>
  have e0:∀h,vIx (.tup (aI (.move th ho sp))) (.int 0) h=.ok (.str "move") h:=λh=>by simp[aI]
  have e1:∀h,vIx (.tup (aI (.move th ho sp))) (.int 1) h=.ok (pv th) h:=λh=>by simp[aI]
  have m1:=bJ (mm:="hear_move") (n:=2) (tb:=iY) (ms:=aA (mV 2) (aA (mV 4) aD)) (δ:=[some (.ref lt),some (.tup [pv nm,sn,.tup (aI (.move th ho sp))]),some (pv nm),some sn,some (.tup (aI (.move th ho sp)))]) (h:=h) (h1:=h) (mo:=mV 0) (k:=lt) (f:=cS) (by simp) t.ins (by simp[iY]) rfl;generalize hA:aI (.move th ho sp)=A at m1 e0 e1;simp[e0];refine now ?_;rw[aC];have hn:bK (pv th) (.ref lm) h=.ok (.bl (!(fnd M th).isSome)) h:=by unfold pv;rw[iT];exact t.hasNot th
  cases hr:fnd M th with
  |none=>
   rw[hr]at hn;simp[e1,t.fm,hn];rw[pV hr]at k;exact k h t (Kept.of (Ext.refl _))
  |some r=>
   rw[hr]at hn;simp[e1,t.fm,hn];refine now ?_;rw[aC];simp[e0];refine now ?_;simp[m1];rw[<-hA];exact HU t hM hl hL nm th ho sp ha hr _ k
 |drop th=>
  have e0:∀h,vIx (.tup (aI (.drop th))) (.int 0) h=.ok (.str "drop") h:=λh=>by simp[aI]
  have e1:∀h,vIx (.tup (aI (.drop th))) (.int 1) h=.ok (pv th) h:=λh=>by simp[aI]
  have m1:=bJ (mm:="put") (n:=3) (tb:=pP) (ms:=aA (aB vAt (mV 4) (mC (.int 1))) (aA (mC .non) (aA (mC .non) aD))) (δ:=[some (.ref lt),some (.tup [pv nm,sn,.tup (aI (.drop th))]),some (pv nm),some sn,some (.tup (aI (.drop th)))]) (h:=h) (h1:=h) (mo:=mV 0) (k:=lt) (f:=cL) (by simp) t.ins (by simp[pP]) rfl;generalize hA:aI (.drop th)=A at m1 e0 e1;simp[e0];refine now ?_;rw[aC];have hn:bK (pv th) (.ref lm) h=.ok (.bl (!(fnd M th).isSome)) h:=by unfold pv;rw[iT];exact t.hasNot th
  cases hr:fnd M th with
  |none=>
   rw[hr]at hn;simp[e1,t.fm,hn];rw[pW hr]at k;exact k h t (Kept.of (Ext.refl _))
  |some r=>
   rw[hr]at hn;simp[e1,t.fm,hn];refine now ?_;rw[aC];have hp:=FI t hl hr none .non;have cj:cL [.ref lt,pv th,.non,.non] h=_:=hp;simp[e0,aC,m1,e1,cj];refine now ?_;simp;rw[tY hr]at k;exact k _ t.put Bx
structure Dd where
 nm:Nm
 seen:Seen
 act:Act
def dP(d:Dd):PV:=.tup [pv d.nm,sv d.seen,.tup (aI d.act)]
def HW(kd:Str):Prop:=kd="map" \/ kd="row" \/ kd="choice"
def KdA:Act->Prop
 |.make kd _ sp=>HW kd/\Au sp
 |.move _ _ sp=>Au sp
 |.drop _=>True
structure Wf(d:Dd):Prop where
 len:d.seen.length<=100
 act:KdA d.act
 rt:d.nm≠root
def tot(S:Seen):Int:=(S.map (·.2)).sum
def kyL(d:Dd):List Key:=[.inl (1+tot d.seen),.inr d.nm.1,.inl d.nm.2]
theorem dP0{d:Dd}:vIx (dP d) (.int 0) h=.ok (pv d.nm) h:=by unfold dP;simp
theorem dP1{d:Dd}:vIx (dP d) (.int 1) h=.ok (sv d.seen) h:=by unfold dP;simp
theorem dP2{d:Dd}:vIx (dP d) (.int 2) h=.ok (.tup (aI d.act)) h:=by unfold dP;simp
theorem FJ(d:Dd)(hS:d.seen.length<=100)(h:PH)(Q:PV->PH->Prop)(k:∀h',Ext h h'->Q (.int (1+tot d.seen)) h'):(yQ [dP d] h).W Q:=by
 refine bR ?_;have hc:=vU (js:=[none]) (tg:=gN 0) (tst:=nP) (elt:=aB vAt (mV 0) (mC (.int 1))) (m:=aB vAt (mV 0) (mC (.int 1))) (δ:=[some (dP d)]) (h:=h) (h1:=h) (ys:=d.seen) (emb:=pv)
  (λq=>some (.int q.2)) (by simp[dP1,FD]) (by omega) (λq hq=>⟨_,rfl,λh3 _=>⟨rfl,by simp[gR,pv1]⟩⟩)
 have es:d.seen.filterMap (λq=>some (PV.int q.2))=(d.seen.map (·.2)).map PV.int:=by rw[filterMap_some,Pm];rfl
 rw[es]at hc;have gs:(h++[MO.lst ((d.seen.map (·.2)).map PV.int)])[h.length]?=some (.lst ((d.seen.map (·.2)).map PV.int)):=aF;change (rF [some (dP d)] h).W _;unfold rF;rw[MF,Hl,MG,Rs.bind_ok,Ke,EF,hc];simp only[Rs.bind_ok,xR,nT gs,D9,xQ];exact k _ (Ext.app _ _)
theorem HX(d:Dd)(hS:d.seen.length<=100)(h:PH)(Q:PV->PH->Prop)(k:∀h',Ext h h'->Q (tP (kyL d)) h'):(Bt [dP d] h).W Q:=by
 refine bR ?_;unfold Bs;rw[aC];simp[dP0];refine⟨[some (dP d),some (.str d.nm.1),some (.int d.nm.2)],by simp[pv],?_⟩;refine now ?_;simp;refine FJ d hS _ _ λh' hx=>?_
 try simp
 exact k h' hx
def ent(d:Dd):PV×PV:=(pv d.nm,dP d)
theorem Aw(p:Str×Int):∀es:List Dd,(aP (es.map ent) (pv p)).isSome=true↔p∈es.map (·.nm)
 |[]=>by simp[aP]
 |d::es=>by
  rw[zt,zt,zq]
  show(aP ((pv d.nm,dP d)::es.map ent) (pv p)).isSome=true↔_
  unfold aP
  by_cases e:d.nm=p
  ·rw[if_pos (by rw[e])];simp[e]
  ·rw[if_neg (λz=>e (mM z)),Aw p es];constructor
   ·exact .inr
   ·rintro(z|z)
    ·exact(e z.symm).elim
    ·exact z
variable{es:List Dd}
theorem HY{d:Dd}(hu:∀x∈es,x.nm=d.nm->x=d):putP (es.map ent) (pv d.nm) (dP d)=(if d.nm∈es.map (·.nm) then es else es++[d]).map ent:=by
 unfold putP;have hl:=Aw d.nm es
 by_cases e:d.nm∈es.map (·.nm)
 ·rw[if_pos e,if_pos (hl.mpr e),Pm];apply Ql;intro x hx
  show(if(ent x).1=pv d.nm then((ent x).1,dP d) else ent x)=ent x
  by_cases z:(ent x).1=pv d.nm
  ·rw[if_pos z];have:=hu x hx (mM z);subst this;rfl
  ·rw[if_neg z]
 ·rw[if_neg e,if_neg (λz=>e (hl.mp z)),Pq];rfl
theorem HZ(xs:List Dd):nY (xs.map kyL)=true:=by
 cases xs with
 |nil=>rfl
 |cons a r=>
  rw[zt];unfold nY;rw[z0];refine⟨rfl,zp.mpr λz hz=>?_⟩;obtain⟨q,_,rfl⟩:=z9.mp hz;rfl
theorem tZ{β:Type}(f:Dd->β)(hf:∀a b,f a=f b->a.nm=b.nm):∀{xs:List Dd},(xs.map (·.nm)).Nodup->(xs.map f).Nodup:=λ{xs} h=>by
 unfold List.Nodup at*;rw[Qm] at*;exact h.imp λqf e=>qf (hf _ _ e)
theorem FK(a b:Dd)(e:kyL a=kyL b):a.nm=b.nm:=by
 unfold kyL at e;simp at e;exact Prod.ext e.2.1 e.2.2
abbrev uA(os:List Dd):Prop:=os.Pairwise (λa b=>bD (kyL b) (kyL a)=false)
set_option tactic.hygienic true in
theorem oJ(U ds:List Dd)(hU:∀d∈ds,d∈U)(hlU:U.length<=63)(hw:∀d∈ds,Wf d)(hl:ds.length<=1000)(hu:∀d∈ds,∀e∈ds,d.nm=e.nm->d=e)(n:Nat)(h:PH)(g:h[n]?=some (.lst (ds.map dP)))(Q:PV->PH->Prop)
  (k:∀os l h',Ext h h'->h.length<=l->h'[l]?=some (.lst (os.map dP))->(os.map (·.nm)).Nodup->(∀d,d∈os↔d∈ds)->uA os->Q (.ref l) h'):(dU [.ref n] h).W Q:=by
 refine bR ?_;unfold mF;rw[aC];simp;have x0:Ext h (h++[MO.dK []]):=Ext.app _ _;have g0:bE (h++[MO.dK []]) h.length=some (([]:List Dd).map ent):=rC aF;generalize h++[MO.dK []]=hA at x0 g0;refine now ?_;rw[aC];refine iM (n:=n) (xs:=ds.map dP) (h1:=hA) (λq δ h'=>∃es:List Dd,Ext h h'/\bE h' h.length=some (es.map ent)/\(es.map (·.nm)).Nodup/\(∀d,d∈es↔d∈ds.take q)/\es.length<=q/\∃x2,δ=[some (.ref n),some (.ref h.length),x2]) (by simp) (x0 _ _ g) ⟨[],x0,g0,by simp,by simp,by simp,_,rfl⟩ ?_ ?_ ?_
 ·rintro q δ h' hq ⟨es,x,_⟩;exact x _ _ g
 ·rintro q y δ h' hy ⟨es,x,t,nd,mem,le,x2,rfl⟩;rw[zo]at hy;obtain⟨d,hd,rfl⟩:=z6.mp hy;have j8:q<ds.length:=(yx.mp hd).1;have htk:ds.take (q+1)=ds.take q++[d]:=by rw[Ry,hd];rfl
  have bj:d∈ds:=Pn hd;have dh:∀e∈es,e∈ds:=λe he=>List.mem_of_mem_take ((mem e).mp he);refine⟨_,rfl,?_⟩;have hp:sT (.ref h.length) (pv d.nm) (dP d) h'=some (h'.set h.length (.dD (putP (es.map ent) (pv d.nm) (dP d)))):=F5 t Nf (by rw[za];omega);rw[HY λe he z=>hu e (dh e he) d bj z]at hp;have hh:∃o,h'[h.length]?=some o:=let ⟨o,g,_⟩:=bS t;⟨o,g⟩;obtain⟨o,ho⟩:=hh;unfold jA;simp[dP0];refine⟨_,hp,kK x,_,yA (bV ho),?_,?_,?_⟩
  ·split
   ·exact nd
   ·rename_i z;rw[Pq,Qn];refine⟨nd,by simp,λa ha b hb e=>?_⟩;rw[List.map_singleton,OY]at hb;subst hb e;exact z (by simpa using ha)
  ·intro e;rw[htk];split
   ·rename_i z;rw[mem e,OZ,OY];constructor
    ·exact .inl
    ·rintro(z'|rfl)
     ·exact z'
     ·obtain⟨e',gj,en⟩:=z9.mp (show e.nm∈es.map (·.nm) by simpa using z)
      have:=hu e' (dh e' gj) e bj en;subst this;exact(mem e').mp gj
   ·rw[OZ,OZ,mem e]
  ·split
   ·omega
   ·simp;omega
 ·rintro δ h' ⟨es,x,t,nd,mem,le,x2,rfl⟩;have hle:es.length<=63:=by
   have h1:(es.map (·.nm)).length<=(U.map (·.nm)).length:=Q5 nd λp hp=>by
    obtain⟨d,hd,rfl⟩:=z9.mp hp;exact z9.mpr ⟨d,hU d (List.mem_of_mem_take ((mem d).mp hd)),rfl⟩
   simp at h1;omega
  obtain⟨o,ho,yj,_⟩:=bS t;refine now ?_;simp[yj,HA t];have x1:Ext h' (h'++[MO.vw 1 h.length]):=Ext.app _ _;have ei:iQ (.ref h'.length) (h'++[MO.vw 1 h.length])=some (es.map dP):=by
   rw[Af aF (Ae x1 t),Pm];rfl
  generalize h'++[MO.vw 1 h.length]=h2 at x1 ei;have lp:∀d,d∈es↔d∈ds:=λd=>by rw[mem d,za,Rb]
  refine yC (key:=kyL) (emb:=dP) (S:=shape [.inl 0,.inr "",.inl 0]) ei (by omega) (HZ es) (λ_ _=>rfl) (tZ kyL FK nd) (λd hd h Q kk=>HX d (hw d ((lp d).mp hd)).len h Q kk) λos h3 x3 hp ho=>?_;refine k os h3.length _ ((x.trans x1).trans (x3.trans (Ext.app _ _))) (Ph x.len (Ph x1.len x3.len)) aF ((hp.map _).nodup_iff.mpr nd) (λd=>(hp.mem_iff).trans (lp d)) ho
def Tb(h:PH)(n c:Nat)(f:Nm->Option PV):Prop:=∃E:List (Nm×PV),bE h n=some (E.map (pT id))/\E.length<=c/\(E.map (·.1)).Nodup/\∀x,fnd E x=f x
def upN(f:Nm->Option PV)(x:Nm)(v:PV):Nm->Option PV:=λy=>if y=x then some v else f y
theorem yY(t:bE h n=some kvs)(k:∀o,h[n]?=some o->h'[n]?=some o):bE h' n=some kvs:=by
 obtain⟨o,ho,_,hh⟩:=bS t;exact hh _ (k o ho)
theorem KJ{z:PV}(e:bE h n=some kvs)(hk:(PV.tup xs).ky 6=true):nV (.ref n) [.tup xs,z] h=.ok ((aP kvs (.tup xs)).getD z) h:=by
 have k1:(PV.tup xs).isKt=true:=hk;have:fI (.tup xs) (.ref n) h=some (aP kvs (.tup xs)):=by simp only[fI,k1,if_true,e,Ru]
 unfold nV dG;simp only[this]
theorem Tb.nil(e:h[n]?=some (.dK [])):Tb h n 0 λ_=>none:=⟨[],rC e,zb _,List.nodup_nil,λ_=>rfl⟩
variable{f:Nm->Option PV}
theorem Tb.keep(t:Tb h n c f)(k:∀o,h[n]?=some o->h'[n]?=some o):Tb h' n c f:=let ⟨E,a,b⟩:=t;⟨E,yY a k,b⟩
theorem Tb.ext(t:Tb h n c f)(x:Ext h h'):Tb h' n c f:=t.keep λo e=>x _ _ e
theorem Tb.lt(t:Tb h n c f):n<h.length:=by
 obtain⟨E,a,_⟩:=t;obtain⟨o,ho,_⟩:=bS a;exact(yx.mp ho).1
variable{c':Nat}
theorem Tb.more(t:Tb h n c f)(hc:c<=c'):Tb h n c' f:=let ⟨E,a,b,d⟩:=t;⟨E,a,Ph b hc,d⟩
theorem Tb.dict(t:Tb h n c f):cX (.ref n) h=true:=let ⟨_,a,_⟩:=t;let ⟨_,_,d,_⟩:=bS a;d
theorem Tb.has(t:Tb h n c f)(x:Nm):kO (pv x) (.ref n) h=.ok (.bl (f x).isSome) h:=by
 obtain⟨E,a,_,_,e⟩:=t;have:kO (pv x) (.ref n) h=.ok (.bl (aP (E.map (pT id)) (pv x)).isSome) h:=F6 a rfl;rw[this,jC,Qk,e]
theorem Tb.hasNot(t:Tb h n c f)(x:Nm):bK (pv x) (.ref n) h=.ok (.bl (!(f x).isSome)) h:=by
 obtain⟨E,a,_,_,e⟩:=t;have:eY (pv x) (.ref n) h=.ok (.bl (!(aP (E.map (pT id)) (pv x)).isSome)) h:=wC a rfl;unfold pv;rw[iT,<-e,<-Qk (f:=id),<-jC];exact this
theorem Tb.hasN(t:Tb h n c f)(x:Nm):cB (pv x) (.ref n) h=.ok (.bl (f x).isSome) h:=by
 unfold pv;rw[wF];exact t.has x
variable{v:PV}
theorem Tb.at'(t:Tb h n c f){x:Nm}(q:f x=some v):vAt (.ref n) (pv x) h=.ok v h:=by
 obtain⟨E,a,_,_,e⟩:=t;exact IR a rfl (by show aP _ (pv x)=_;rw[jC,e,q];rfl)
theorem Tb.get(t:Tb h n c f)(x:Nm)(z:PV):nV (.ref n) [pv x,z] h=.ok ((f x).getD z) h:=by
 obtain⟨E,a,_,_,e⟩:=t;have:nV (.ref n) [pv x,z] h=.ok ((aP (E.map (pT id)) (pv x)).getD z) h:=KJ a rfl;rw[this,jC,e,Option.map_id,id]
set_option tactic.hygienic true in
theorem I0{β:Type}{M:List (Nm×β)}{r:β}(h:(M.map (·.1)).Nodup):((cN M p r).map (·.1)).Nodup:=by
 rw[Dv];split
 ·exact h
 ·rename_i c;rw[Qn];exact⟨h,by simp,λa ha b hb e=>c (by rw[OY.mp hb]at e;exact e▸ha)⟩
theorem Tb.put(t:Tb h n c f)(hc:c<=1000)(x:Nm)(v:PV):∃o,eK (.ref n) (pv x) v h=some (h.set n o)/\Tb (h.set n o) n (c+1) (upN f x v):=by
 obtain⟨E,a,b,d,e⟩:=t;obtain⟨o,ho,_⟩:=bS a;have hp:eK (.ref n) (pv x) v h=some (h.set n (.dD (putP (E.map (pT id)) (pv x) (id v)))):=yF a rfl (by rw[za];omega);rw[FG]at hp;refine⟨_,hp,cN E x v,yA (bV ho),Ph (An _ _ _) (by omega),I0 d,λy=>?_⟩;rw[cZ,e];rfl
structure Dl(os ds:List Dd):Prop where
 mem:∀d,d∈ds↔d∈os
 nd:(os.map (·.nm)).Nodup
 rk:uA os
 wf:∀d∈os,Wf d
 ln:os.length<=50
 l2:ds.length<=200
theorem yZ{ds:List Dd}(nd:(ds.map (·.nm)).Nodup):∀d∈ds,∀e∈ds,d.nm=e.nm->d=e:=by
 induction ds with
 |nil=>intro d hd;cases hd
 |cons x r ih=>
  rw[zt,Qq]at nd;intro d hd e he z;rcases zq.mp hd with rfl|h2
  ·rcases zq.mp he with rfl|h3
   ·rfl
   ·exact(nd.1 (z9.mpr ⟨e,h3,z.symm⟩)).elim
  ·rcases zq.mp he with rfl|h3
   ·exact(nd.1 (z9.mpr ⟨d,h2,z⟩)).elim
   ·exact ih nd.2 d h2 e h3 z
theorem Ax{xs ys:List Dd}(hx:uA xs)(hy:uA ys)(nx:(xs.map (·.nm)).Nodup)(ny:(ys.map (·.nm)).Nodup)(h:∀d,d∈xs↔d∈ys):xs=ys:=by
 have n1:xs.Nodup:=(Qm.mp nx).imp λh e=>h (by rw[e]);have n2:ys.Nodup:=(Qm.mp ny).imp λh e=>h (by rw[e]);refine RR (le:=λa b:Dd=>bD (kyL b) (kyL a)=false) (λa b ha hb h1 h2=>?_) hx hy ((List.perm_ext_iff_of_nodup n1 n2).mpr h);exact yZ nx a ha b ((h b).mpr hb) (FK _ _ (nF rfl h2 h1))
variable{Q:PV->PH->Prop}{os:List Dd}
theorem By{ds:List Dd}(D:Dl os ds)(g:h[n]?=some (.lst (ds.map dP)))(k:∀l h',Ext h h'->h.length<=l->h'[l]?=some (.lst (os.map dP))->Q (.ref l) h'):(dU [.ref n] h).W Q:=
 oJ os ds (λd hd=>(D.mem d).mp hd) (by have:=D.ln;omega) (λd hd=>D.wf d ((D.mem d).mp hd)) (by have:=D.l2;omega) (λd hd e he=>yZ D.nd d ((D.mem d).mp hd) e ((D.mem e).mp he)) n h g Q λcp l h' x b g' nd m rk=>by
  have:cp=os:=Ax rk D.rk nd D.nd λd=>(m d).trans (D.mem d);subst this;exact k l h' x b g'
theorem Ia(d:Dd)(h:PH)(Q:PV->PH->Prop)(k:Q (pv d.nm) h):(kJ [dP d] h).W Q:=by
 refine bR ?_;simp[pS,dP0];exact k
variable{h1:PH}{tg:Mg}{δ:Ev}
theorem zA{m:Me}(e:m δ h=.ok (.ref n) h1)(g:h1[n]?=some (.lst []))(k:E.nx δ h1):(eC (bB m) tg body δ h).W E:=
 iM (λ_ δ' h'=>δ'=δ/\h'=h1) e g ⟨rfl,rfl⟩ (λ_ _ _ _ i=>i.2▸g) (λq x _ _ hx=>by simp at hx) λ_ _ i=>i.1▸i.2▸k
variable{m:Nat}
theorem FL(i:Int)(g:h[m]?=some (.lst [])):jB [.int i,.ref m] h=.ok .non h:=by
 have w:(jB [.int i,.ref m] h).W λq h'=>q=.non/\h'=h:=by
  refine bR ?_;unfold mG;rw[aC];refine zA (n:=m) (h1:=h) (by simp) g (now ?_);simp
 obtain⟨q,h',e,rfl,rfl⟩:=hW w;exact e
def nmL(d:Dd):List Key:=[.inr d.nm.1,.inl d.nm.2]
theorem Ib(xs:List Dd):nY (xs.map nmL)=true:=by
 cases xs with
 |nil=>rfl
 |cons a r=>
  rw[zt];unfold nY;rw[z0];refine⟨rfl,zp.mpr λz hz=>?_⟩;obtain⟨q,_,rfl⟩:=z9.mp hz;rfl
theorem KL(a b:Dd)(e:nmL a=nmL b):a.nm=b.nm:=by
 unfold nmL at e;simp at e;exact Prod.ext e.1 e.2
theorem OI(a:Act):∃w r,aI a=.str w::r/\w≠"settle" /\ w≠"back" := by
 cases a with
 |make kd ho sp=>exact⟨_,_,rfl,by decide +kernel,by decide +kernel⟩
 |move th ho sp=>exact⟨_,_,rfl,by decide +kernel,by decide +kernel⟩
 |drop th=>exact⟨_,_,rfl,by decide +kernel,by decide +kernel⟩
theorem wK(nd:(os.map (·.nm)).Nodup)(hl:os.length<=50)(g:h[n]?=some (.lst (os.map dP)))(k:∀l h',Ext h h'->h'[l]?=some (.dK [])->Q (.ref l) h'):(oC [.ref n] h).W Q:=by
 refine bR ?_;unfold tR;rw[aC];simp;refine now ?_;rw[aC];simp;have x0:Ext h (h++[MO.dK [],MO.dK []]):=Ext.app _ _;have gt:(h++[MO.dK [],MO.dK []])[h.length]?=some (.dK []):=by simp
 have gb:(h++[MO.dK [],MO.dK []])[h.length+1]?=some (.dK []):=by simp
 generalize h++[MO.dK [],MO.dK []]=hA at x0 gt gb;refine now ?_;rw[aC];obtain⟨p,h2,e2,L,h3,rfl,rfl,x3⟩:=hW (yC (f:=kJ) (b:=true) (x:=.ref n) (h:=hA) (Q:=λp h2=>∃L h3,p=.ref h3.length/\h2=h3++[.lst (L.map dP)]/\Ext hA h3) (key:=nmL) (emb:=dP) (S:=shape [.inr "",.inl 0]) (tB (x0 _ _ g)) (by omega) (Ib os) (λ_ _=>rfl) (tZ nmL KL nd) (λd hd h Q kk=>Ia d h Q (kk h (Ext.refl h))) λL h3 x3 hp ho=>⟨L,h3,rfl,rfl,x3⟩);have xB:Ext hA (h3++[.lst (L.map dP)]):=x3.trans (Ext.app _ _);have gs:(h3++[.lst (L.map dP)])[h3.length]?=some (.lst (L.map dP)):=aF;generalize h3.length=sl at e2 gs;generalize h3++[.lst (L.map dP)]=hB at e2 xB gs;refine iM (n:=sl) (xs:=L.map dP) (h1:=hB) (λq δ h'=>Ext hB h'/\∃x3 x4 x5 x6 x7,δ=[some (.ref n),some (.ref h.length),some (.ref (h.length+1)),x3,x4,x5,x6,x7]) (by simp[e2]) gs ⟨Ext.refl _,_,_,_,_,_,rfl⟩ (λq δ h' _ i=>i.1 _ _ gs) ?_ ?_
 ·rintro q y δ h' hy ⟨x,x3,x4,x5,x6,x7,rfl⟩;rw[zo]at hy;obtain⟨d,hdq,rfl⟩:=z6.mp hy;obtain⟨w,r,ea,n1,n2⟩:=OI d.act;refine⟨_,rfl,?_⟩;unfold mH;rw[aC];simp[dP0];refine⟨[some (.ref n),some (.ref h.length),some (.ref (h.length+1)),some (dP d),some (.str d.nm.1),some (.int d.nm.2),x6,x7],by simp[pv],?_⟩;refine now ?_;rw[aC];simp[dP2,ea];refine now ?_;rw[aC];simp[n1];refine now ?_;rw[aC];have vf:=(xB.trans x) _ _ gb;have y1:Ext h' (h'++[MO.lst []]):=Ext.app _ _;have y2:(h'++[MO.lst []])[h'.length]?=some (.lst []):=aF;have df:=Hx (x:=d.nm.1) (z:=.ref h'.length) (y1 _ _ vf);simp[EY vf];generalize h'++[MO.lst []]=h2 at y1 y2 df;have lq:nV (.ref (h.length+1)) [.str d.nm.1,.ref h'.length] h2=.ok (.ref h'.length) h2:=df;simp[lq,FL d.nm.2 y2];refine now ?_;have nn:fH .non .non h2=.ok (.bl false) h2:=rfl;simp[nn,n2];exact x.trans y1
 ·rintro δ h' ⟨x,x3,x4,x5,x6,x7,rfl⟩;refine now ?_;simp;exact k _ _ (x0.trans (xB.trans x)) ((xB.trans x) _ _ gt)
theorem FM{ds:List Dd}(D:Dl os ds)(g:h[n]?=some (.lst (ds.map dP)))(k:∀l h',Ext h h'->h'[l]?=some (.lst (os.map dP))->Q (.ref l) h'):(mJ [.ref n] h).W Q:=by
 refine bR ?_;unfold mI;rw[aC];simp;refine By D g λl h1 x1 b1 g1=>?_;refine now ?_;rw[aC];simp;refine wK D.nd D.ln g1 λt h2 x2 g2=>?_;refine now ?_;have hc:=hZ (js:=[none,some 2]) (tg:=gN 0) (tst:=aK (aB bK (aB vAt (mV 0) (mC (.int 0))) (mV 1))) (elt:=mV 0) (m:=mV 1) (δ:=[some (.ref n),some (.ref l),some (.ref t)]) (h:=h2) (h1:=h2) (n:=l) (ys:=os) (emb:=dP) (λd=>some (dP d)) (by simp) (x2 _ _ g1) (by have:=D.ln;omega)
  (λd hd=>⟨_,rfl,λh3 hx=>⟨by simp[gR,dP0,((Tb.nil g2).ext hx).hasNot],by simp[gR]⟩⟩)
 rw[filterMap_some]at hc;simp[hc];exact k _ _ (x1.trans (x2.trans (Ext.app _ _))) aF
theorem FN{ds:List Dd}(D:Dl os ds)(g:h[n]?=some (.lst (ds.map dP)))(k:∀l h',Ext h h'->h'[l]?=some (.lst [])->Q (.ref l) h'):(mL [.ref n] h).W Q:=by
 refine bR ?_;unfold mK;rw[aC];simp;refine By D g λl h1 x1 b1 g1=>?_;refine now ?_;rw[aC];simp;refine wK D.nd D.ln g1 λt h2 x2 g2=>?_;refine now ?_;have hc:=hZ (js:=[none,some 2]) (tg:=gN 0) (tst:=aK (aB cB (aB vAt (mV 0) (mC (.int 0))) (mV 1))) (elt:=aX (aA (aB vAt (mV 0) (mC (.int 0))) (aA (aB vAt (mV 1) (aB vAt (mV 0) (mC (.int 0)))) aD))) (m:=mV 1) (δ:=[some (.ref n),some (.ref l),some (.ref t)]) (h:=h2) (h1:=h2) (n:=l) (ys:=os) (emb:=dP) (λd=>none) (by simp) (x2 _ _ g1) (by have:=D.ln;omega)
  (λd hd=>⟨_,rfl,λh3 hx=>by simp[gR,dP0,((Tb.nil g2).ext hx).hasN]⟩)
 have e:os.filterMap (λ_=>(none:Option PV))=[]:=by simp
 rw[e]at hc;simp[hc];exact k _ _ (x1.trans (x2.trans (Ext.app _ _))) aF
inductive Ft where
 |idle
 |lost (way:List Nm)
 |outd (nm:Nm)
 |stands
def upF{β:Type}(f:Nm->β)(x:Nm)(v:β):Nm->β:=λy=>if y=x then v else f y
structure Gs where
 M:Md
 L:List Nm
 P:Nm->Option Nm
 R:Nm->Ft
def fX(M:Md)(p q:Nm):List Nm:=cG M p (M.length+2) (some q) []
def thg(nm:Nm):Act->Nm
 |.make _ _ _=>nm
 |.move th _ _=>th
 |.drop th=>th
def hol:Act->Nm
 |.make _ ho _=>ho
 |.move _ ho _=>ho
 |.drop th=>th
def outF(P:Nm->Option Nm)(R:Nm->Ft)(th nm:Nm):Nm->Ft:=match P th with
 |some p=>upF R p (.outd nm)
 |none=>R
def idB(M:Md):Act->Bool
 |.make _ ho sp=>!bN M ho sp
 |.move th ho sp=>!(fnd M th).isSome || !bN M ho sp
 |.drop th=>!(fnd M th).isSome
inductive Hd(M:Md)(L:List Nm)(nm:Nm):Act->Prop
 |idle {a:Act} (e:heard M L nm a=(M,L,("idle" : Str))) (q:idB M a=true):Hd M L nm a
 |lost {th ho:Nm} {sp:Spot} {r:Rc} (f:fnd M th=some r) (ft:bN M ho sp=true) (on:On M th (some ho)) (e:heard M L nm (.move th ho sp)=(M,L++[nm],("lost" : Str))):Hd M L nm (.move th ho sp)
 |make {kd:Str} {ho:Nm} {sp:Spot} (ft:bN M ho sp=true) (e:heard M L nm (.make kd ho sp)=(cN M nm ⟨kd,some ho,cO sp nm⟩,L,("done" : Str))):Hd M L nm (.make kd ho sp)
 |move {th ho:Nm} {sp:Spot} {r:Rc} (f:fnd M th=some r) (ft:bN M ho sp=true) (on:¬ On M th (some ho)) (e:heard M L nm (.move th ho sp)=(cN M th ⟨r.kd,some ho,cO sp nm⟩,L,("done" : Str))):Hd M L nm (.move th ho sp)
 |drop {th:Nm} {r:Rc} (f:fnd M th=some r) (e:heard M L nm (.drop th)=(cN M th ⟨r.kd,none,.non⟩,L,("done" : Str))):Hd M L nm (.drop th)
theorem iA(M:Md)(L:List Nm)(nm:Nm)(a:Act):Hd M L nm a:=by
 cases a with
 |make kd ho sp=>
  cases ef:bN M ho sp with
  |true=>exact .make ef (by rw[oI,if_pos ef])
  |false=>exact .idle (by rw[oI,ef];rfl) (by show(!bN M ho sp)=true;rw[ef];rfl)
 |move th ho sp=>
  cases e:fnd M th with
  |none=>exact .idle (pV e) (by show(!(fnd M th).isSome || !bN M ho sp)=true;rw[e];rfl)
  |some r=>
   cases ef:bN M ho sp with
   |false=>exact .idle (by rw[kA e,ef];rfl) (by show(!(fnd M th).isSome || !bN M ho sp)=true;rw[ef];simp)
   |true=>
    by_cases on:On M th (some ho)
    ·exact .lost e ef on (by rw[kA e,if_pos ef,if_pos on])
    ·exact .move e ef on (by rw[kA e,if_pos ef,if_neg on])
 |drop th=>
  cases e:fnd M th with
  |none=>exact .idle (pW e) (by show(!(fnd M th).isSome)=true;rw[e];rfl)
  |some r=>exact .drop e (tY e)
theorem nIL:¬ (zg "idle")=zg "lost" := by decide +kernel
theorem nDL:¬ (zg "done")=zg "lost" := by decide +kernel
theorem nDI:¬ (zg "done")=zg "idle" := by decide +kernel
theorem nLI:¬ (zg "lost")=zg "idle" := by decide +kernel
noncomputable def gst(s:Gs)(nm:Nm)(a:Act):Gs:=
 if(heard s.M s.L nm a).2.2="idle" then⟨s.M,s.L,s.P,upF s.R nm .idle⟩
 else if(heard s.M s.L nm a).2.2="lost" then⟨s.M,s.L++[nm],s.P,upF s.R nm (.lost (fX s.M (thg nm a) (hol a)))⟩
 else⟨(heard s.M s.L nm a).1,s.L,upF s.P (thg nm a) (some nm),outF s.P s.R (thg nm a) nm⟩
variable{a:Act}{s:Gs}
theorem uB(e:heard s.M s.L nm a=(s.M,s.L,("idle" : Str))):gst s nm a=⟨s.M,s.L,s.P,upF s.R nm .idle⟩:=by
 unfold gst;rw[e,if_pos rfl]
theorem uC{M L}(e:heard s.M s.L nm a=(M,L,("lost" : Str))):gst s nm a=⟨s.M,s.L++[nm],s.P,upF s.R nm (.lost (fX s.M (thg nm a) (hol a)))⟩:=by
 unfold gst;rw[e]
 show(if zg "lost" = zg "idle" then _ else if zg "lost" = zg "lost" then _ else _)=_
 rw[if_neg nLI,if_pos rfl]
theorem fY{M L}(e:heard s.M s.L nm a=(M,L,("done" : Str))):gst s nm a=⟨M,s.L,upF s.P (thg nm a) (some nm),outF s.P s.R (thg nm a) nm⟩:=by
 unfold gst;rw[e]
 show(if zg "done" = zg "idle" then _ else if zg "done" = zg "lost" then _ else _)=_
 rw[if_neg nDI,if_neg nDL]
noncomputable def g0:Gs:=⟨[],[],λ_=>none,λ_=>.stands⟩
noncomputable def jJ(os:List Dd):Gs:=os.foldl (λs d=>gst s d.nm d.act) g0
theorem pX{d:Dd}:jJ (os++[d])=gst (jJ os) d.nm d.act:=by
 unfold jJ;rw[List.foldl_append];rfl
structure mN(M:Md):Prop where
 nr:gX M
 ho:∀p r q,fnd M p=some r->r.hd=some q->q=root\/(fnd M q).isSome=true
 rt:fnd M root=none
theorem Cm(h:bN M ho sp=true):ho=root\/(fnd M ho).isSome=true:=by
 unfold bN at h;have h:=of_decide_eq_true h;unfold gQ at h
 by_cases e:ho=root
 ·exact .inl e
 ·rw[if_neg e]at h;cases e2:fnd M ho with
  |some r=>exact .inr rfl
  |none=>rw[e2]at h;dsimp only at h;split at h <;> cases h
theorem Ay{q:Nm}(h:(fnd M q).isSome=true):(fnd (cN M p r) q).isSome=true:=by
 rw[cZ];split
 ·rfl
 ·exact h
theorem mN.put(t:mN M)(hn:gX (cN M p r))(hp:p≠root)(hr:∀q,r.hd=some q->q=root\/(fnd M q).isSome=true):mN (cN M p r):=by
 refine⟨hn,λx rx q h1 h2=>?_,by rw[cZ,if_neg (λz=>hp z.symm)];exact t.rt⟩;rw[cZ]at h1;have:q=root\/(fnd M q).isSome=true:=by
  split at h1
  ·cases h1;exact hr q h2
  ·exact t.ho x rx q h1 h2
 exact this.imp id Ay
set_option tactic.hygienic true in
theorem mN.heard(t:mN M)(hm:∀kd ho sp,a=.make kd ho sp->fnd M nm=none/\nm≠root):mN (heard M L nm a).1:=by
 obtain⟨f,hf⟩:=t.nr;have t8:∀{p:Nm}{r:Rc},fnd M p=some r->p≠root:=λe z=>by rw[z,t.rt]at e;cases e
 cases a with
 |make kd ho sp=>
  rw[oI];split
  ·rename_i jm;obtain⟨h1,h2⟩:=hm kd ho sp rfl;have bj:=Cm jm;refine t.put (Ar hf h1 (λz=>?_) λx rx hx z=>?_) h2 λq hq=>?_
   ·have e:ho=nm:=zy z;rcases bj with e2|e2
    ·exact h2 (e▸e2)
    ·rw[e,h1]at e2;cases e2
   ·rcases t.ho x rx nm hx z with e2|e2
    ·exact h2 e2
    ·rw[h1]at e2;cases e2
   ·cases hq;exact bj
  ·exact t
 |move th ho sp=>
  cases e:fnd M th with
  |none=>rw[pV e];exact t
  |some r=>
   rw[kA e];split
   ·rename_i jm;split
    ·exact t
    ·rename_i nq;exact t.put (Ap hf e rfl nq) (t8 e) λq hq=>by cases hq;exact Cm jm
   ·exact t
 |drop th=>
  cases e:fnd M th with
  |none=>rw[pW e];exact t
  |some r=>
   rw[tY e];exact t.put ⟨f,Aq hf e rfl⟩ (t8 e) λq hq=>by cases hq
theorem mN.nil:mN []:=⟨⟨λ_=>0,λp r q h=>by cases h⟩,(λp r q h=>by cases h),rfl⟩
structure GI(s:Gs)(P:List Nm):Prop where
 T:mN s.M
 lM:s.M.length<=P.length
 lL:s.L.length<=P.length
 nm:∀p,(fnd s.M p).isSome=true->p∈P
 pl:∀p,(s.P p).isSome=(fnd s.M p).isSome
 pv:∀p x,s.P p=some x->x∈P
 st:∀x,x∉P->s.R x=.stands
theorem GI.nil:GI g0 []:=⟨mN.nil,zb _,zb _,(λp h=>nomatch h),λp=>rfl,(λp x h=>nomatch h),λx _=>rfl⟩
variable{P:List Nm}
theorem GI.new(i:GI s P)(h:nm∉P):fnd s.M nm=none:=by
 cases e:fnd s.M nm with
 |none=>rfl
 |some r=>exact(h (i.nm nm (by rw[e];rfl))).elim
theorem GI.same(i:GI s P){v:Ft}(hL:L.length<=s.L.length+1):GI ⟨s.M,L,s.P,upF s.R nm v⟩ (P++[nm]):=by
 refine⟨i.T,?_,?_,λp h=>OX _ (i.nm p h),i.pl,λp x h=>OX _ (i.pv p x h),λx h=>?_⟩
 ·have:=i.lM;simp;omega
 ·have:=i.lL;simp;omega
 ·rw[OZ,OY,not_or]at h
  show(if x=nm then v else s.R x)=_
  rw[if_neg h.2];exact i.st x h.1
theorem GI.done(i:GI s P)(T:mN (cN s.M th r))(ht:th=nm\/(fnd s.M th).isSome=true):GI ⟨cN s.M th r,s.L,upF s.P th (some nm),outF s.P s.R th nm⟩ (P++[nm]):=by
 refine⟨T,?_,?_,λp h=>?_,λp=>?_,λp x h=>?_,λx h=>?_⟩
 ·have:=i.lM;have:=An s.M th r;simp;omega
 ·have:=i.lL;simp;omega
 ·have h:(fnd (cN s.M th r) p).isSome=true:=h;rw[cZ]at h
  by_cases z:p=th
  ·rcases ht with e|e
   ·rw[z,e];simp
   ·rw[z];exact OX _ (i.nm th e)
  ·rw[if_neg z]at h;exact OX _ (i.nm p h)
 ·show(if p=th then some nm else s.P p).isSome=(fnd (cN s.M th r) p).isSome
  rw[cZ];split
  ·rfl
  ·exact i.pl p
 ·have h:(if p=th then some nm else s.P p)=some x:=h;split at h
  ·cases h;simp
  ·exact OX _ (i.pv p x h)
 ·rw[OZ,OY,not_or]at h
  show outF s.P s.R th nm x=_
  unfold outF;cases e:s.P th with
  |some p=>
   show(if x=p then _ else s.R x)=_
   rw[if_neg λz:x=p=>h.1 (z▸i.pv th p e)];exact i.st x h.1
  |none=>exact i.st x h.1
theorem GI.step(i:GI s P)(a:Act)(hn:nm∉P)(hr:nm≠root):GI (gst s nm a) (P++[nm]):=by
 have hf:=i.new hn;have TT:=i.T.heard (L:=s.L) (nm:=nm) (a:=a) λkd ho sp _=>⟨hf,hr⟩;cases iA s.M s.L nm a with
 |idle e q=>rw[uB e];exact i.same (Qv _)
 |lost f ft on e=>rw[uC e];exact i.same (by simp)
 |make ft e=>rw[e]at TT;rw[fY e];exact i.done TT (.inl rfl)
 |move f ft on e=>rw[e]at TT;rw[fY e];exact i.done TT (.inr (by show(fnd s.M _).isSome=true;rw[f];rfl))
 |drop f e=>rw[e]at TT;rw[fY e];exact i.done TT (.inr (by show(fnd s.M _).isSome=true;rw[f];rfl))
theorem uD(nd:(os.map (·.nm)).Nodup){q:Nat}{d:Dd}(e:os[q]?=some d):os.take (q+1)=os.take q++[d]/\d.nm∉(os.take q).map (·.nm):=by
 have e1:os.take (q+1)=os.take q++[d]:=by rw[Ry,e];rfl
 rw[<-List.take_append_drop (q+1) os,e1,Pq,Pq,Qn,Qn]at nd;exact⟨e1,λz=>nd.1.2.2 d.nm z d.nm (by simp) rfl⟩
theorem FO(nd:(os.map (·.nm)).Nodup)(wf:∀d∈os,Wf d)(q:Nat):GI (jJ (os.take q)) ((os.take q).map (·.nm)):=by
 induction q with
 |zero=>exact GI.nil
 |succ q ih=>
  by_cases c:q<os.length
  ·obtain⟨e,hn⟩:=uD nd (Pe c);rw[e,pX,Pq];exact ih.step _ hn (wf _ (RL c)).rt
  ·rw[Rh (by omega)]at ih⊢;exact ih
theorem Az(hM:gX M)(hg:Up M g)(hb:∀q,g q<=M.length)(p q:Nm):cG M p (vr M g (some q)+1) (some q) []=fX M p q:=kL hg (RJ _) (by have:=Cj hb (some q);omega)
theorem wL(hM:gX M)(p q:Nm):fX M p q=[] ↔ ¬ On M p (some q):=by
 obtain⟨g,hg,hb⟩:=small hM;unfold fX;rw[tW,pU hg (n:=M.length+2) (by have:=Cj hb (some q);omega)]
theorem Ic(δ:Ev)(h:PH):∃h',jE "Tree" 0 dI aD δ h=.ok (.ref h.length) h'/\aM h' h.length (h.length+1) (h.length+2) [] []/\Ext h h':=by
 have w:(dI [.ref h.length] (h++[.ins "Tree" []])).W λq h'=>q=.non/\aM h' h.length (h.length+1) (h.length+2) [] []/\Ext h h':=by
  refine bR ?_;change (dH [some (.ref h.length)] _).W _;unfold dH;rw[aC];have g0:(h++[MO.ins "Tree" []]++[MO.dK []])[h.length]?=some (.ins "Tree" []):=by simp
  have gd:(h++[MO.ins "Tree" []]++[MO.dK []])[h.length+1]?=some (.dK []):=by simp
  have x0:Ext h (h++[MO.ins "Tree" []]++[MO.dK []]):=(Ext.app _ _).trans (Ext.app _ _);have ln:(h++[MO.ins "Tree" []]++[MO.dK []]).length=h.length+2:=by simp
  simp only[Bm,vP,xQ,EE,pB];rw[show(h++[MO.ins "Tree" []]).length=h.length+1 by simp];generalize h++[MO.ins "Tree" []]++[MO.dK []]=hA at g0 gd x0 ln;have e1:=iB (f:="made") (p:=.ref (h.length+1)) g0 (by simp);refine⟨_,e1,now ?_⟩;have g1:=bV (o':=MO.ins "Tree" (jI "made" (.ref (h.length+1)) [])) g0;have vg:=aG (o':=MO.ins "Tree" (jI "made" (.ref (h.length+1)) [])) gd (n:=h.length) (by omega);have x1:Ext h (hA.set h.length (MO.ins "Tree" (jI "made" (.ref (h.length+1)) []))):=kK x0;have qv:(hA.set h.length (MO.ins "Tree" (jI "made" (.ref (h.length+1)) []))).length=h.length+2:=by rw[QC];exact ln
  generalize hA.set h.length (MO.ins "Tree" (jI "made" (.ref (h.length+1)) []))=hB at g1 vg x1 qv;simp only[Bm,Hm,xR,Rs.bind_ok,MD,Rl,xQ,EE,pB];rw[if_pos (by decide)];have g2:(hB++[MO.lst []])[h.length]?=some (MO.ins "Tree" (jI "made" (.ref (h.length+1)) [])):=Ext.app _ _ _ _ g1;have pb:(hB++[MO.lst []])[h.length+1]?=some (.dK []):=Ext.app _ _ _ _ vg;have u3:(hB++[MO.lst []])[h.length+2]?=some (.lst []):=by rw[<-qv];exact aF
  have x2:Ext h (hB++[MO.lst []]):=x1.trans (Ext.app _ _);rw[qv];generalize hB++[MO.lst []]=hC at g2 pb u3 x2;have e2:=iB (f:="failed") (p:=.ref (h.length+2)) g2 (show 1<1000 by omega);refine⟨_,e2,trivial,⟨?_,?_,?_⟩,kK x2⟩
  ·have:=bV (o':=MO.ins "Tree" (jI "failed" (.ref (h.length+2)) (jI "made" (.ref (h.length+1)) []))) g2;rw[this];rfl
  ·exact rC (aG pb (by omega))
  ·exact aG u3 (by omega)
 obtain⟨q,h',e,rfl,a,b⟩:=hW w;refine⟨h',?_,a,b⟩;rw[jU,xR];simp only[Rs.bind_ok,Rl,if_true];rw[e];rfl
structure FS(h:PH)(l lt lm lf ll n:Nat)(M:Md)(L:List Nm):Prop where
 fo:h[l]?=some (.ins "Folding" [("tree",.ref lt),("leaves",.ref ll)])
 tr:aM h lt lm lf M L
 ne:ll≠lm
 lv:∃f,Tb h ll n f
def Kx(lm lf ll:Nat)(h h':PH):Prop:=∀(n:Nat) o,n≠lm->n≠lf->n≠ll->h[n]?=some o->h'[n]?=some o
theorem eqs(x y:Str)(h:PH):vEq (.str x) (.str y) h=.ok (.bl (decide (x=y))) h:=Hq
variable{cn:Str}{ms:Ma}{ps:List PV}
theorem Bz{f:Fn}(e:ms δ h=.ok ps h1)(l:ps.length=n)(w:(f (.ref h1.length::ps) (h1++[.ins cn []])).W λv h2=>v=.non/\Q (.ref h1.length) h2):(jE cn n f ms δ h).W Q:=by
 obtain⟨v,h2,e2,rfl,q⟩:=hW w;rw[jU,e,Rs.bind_ok,if_pos l,e2,Rs.bind_ok];dsimp only;rw[xQ];exact q
theorem Ie(hk:HW kd)(k:∀v h',Ext h h'->(v=.non\/∃c,v=.ref c)->Q v h'):(pR [.str kd] h).W Q:=by
 refine bR ?_;unfold pQ;have c1:¬ kd="count" := by rintro rfl;rcases hk with z|z|z <;> revert z <;> decide +kernel
 have c3:¬ kd="bag" := by rintro rfl;rcases hk with z|z|z <;> revert z <;> decide +kernel
 have c4:¬ kd="text" := by rintro rfl;rcases hk with z|z|z <;> revert z <;> decide +kernel
 rw[aC,aY];simp[eqs,c1];refine now ?_;rw[aC,aY]
 by_cases c2:kd="choice"
 ·simp[-jU,eqs,c2];refine Bz (ps:=[]) (h1:=h) rfl rfl ?_;refine bR ?_;unfold eG;have g1:(h++[MO.ins "Choice" []])[h.length]?=some (.ins "Choice" []):=aF;have x1:Ext h (h++[MO.ins "Choice" []]):=Ext.app _ _;generalize h++[MO.ins "Choice" []]=hA at g1 x1;simp;refine⟨_,iB (Ext.app _ _ _ _ g1) (by simp),?_⟩;exact k _ _ (FF (x1.trans (Ext.app _ _)) (zb _)) (.inr ⟨_,rfl⟩)
 ·simp[-jU,eqs,c2];refine now ?_;rw[aC,aY];simp[eqs,c3];refine now ?_;rw[aC,aY];simp[eqs,c4];refine now ?_;simp;exact k _ _ (Ext.refl _) (.inl rfl)
variable{l ll:Nat}
theorem KM{lt:Nat}(fo:h[l]?=some (.ins "Folding" [("tree",.ref lt),("leaves",.ref ll)]))(tl:Tb h ll n f)(hn:n<=200)(hk:HW kd)(k:∀h' f',(∀(i:Nat) o,i≠ll->h[i]?=some o->h'[i]?=some o)->Tb h' ll (n+1) f'->Q .non h'):(bW [.ref l,pv p,.str kd] h).W Q:=by
 refine bR ?_;unfold dQ;rw[aC];simp;refine Ie hk λv h1 x1 hv=>?_;refine now ?_;rcases hv with rfl|⟨c,rfl⟩
 ·have nn:fH .non .non h1=.ok (.bl false) h1:=rfl;simp[nn];exact k h1 f (λi o _ e=>x1 _ _ e) ((tl.ext x1).more (Qv _))
 ·have fl:cH "leaves" (.ref l) h1=.ok (.ref ll) h1:=iS (x1 _ _ fo) rfl;have nn:fH (.ref c) .non h1=.ok (.bl true) h1:=rfl;obtain⟨o,hp,t2⟩:=(tl.ext x1).put (by omega) p (.ref c);simp[nn,fl];exact⟨_,hp,k _ _ (λi o hi e=>aG (x1 _ _ e) (PY hi)) t2⟩
theorem Tb.ne_ins{fs:List (Str×PV)}(t:Tb h n c f)(g:h[l]?=some (.ins cn fs)):l≠n:=λz=>by
 subst z;obtain⟨E,a,_⟩:=t;simp[bE,g]at a
theorem Tb.ne_lst(t:Tb h n c f)(g:h[l]?=some (.lst xs)):l≠n:=λz=>by
 subst z;obtain⟨E,a,_⟩:=t;simp[bE,g]at a
theorem nTU:¬ (zg "Undoing")=zg "Tree" := by decide +kernel
theorem nFT:¬ (zg "Folding")=zg "Tree" := by decide +kernel
theorem nUF:¬ (zg "Undoing")=zg "Folding" := by decide +kernel
theorem tbT:rE "Tree" = some dX:=by simp[rE]
theorem tbF:bX "Folding" = some cM:=by simp[bX,nFT]
theorem tbU:bX "Undoing" = some bL:=by simp[bX,nTU,nUF]
theorem FS.ft{lt:Nat}(f:FS h l lt lm lf ll n M L):cH "tree" (.ref l) h=.ok (.ref lt) h:=iS f.fo rfl
theorem FS.dist{lt:Nat}(f:FS h l lt lm lf ll n M L):l≠lm/\l≠lf/\l≠ll/\lt≠ll/\lf≠ll/\lt≠lm/\lf≠lm/\lt≠lf:=by
 obtain⟨g,t⟩:=f.lv;obtain⟨a,b,c⟩:=f.tr.dm;exact⟨(λz=>by subst z;have:=f.tr.made;simp[bE,f.fo]at this),(λz=>by subst z;have:=f.tr.fail;rw[f.fo]at this;cases this),t.ne_ins f.fo,t.ne_ins f.tr.ins,t.ne_lst f.tr.fail,a,b,c⟩
theorem FS.ext{lt:Nat}(f:FS h l lt lm lf ll n M L)(x:Ext h h'):FS h' l lt lm lf ll n M L:=⟨x _ _ f.fo,f.tr.ext x,f.ne,let ⟨g,t⟩:=f.lv;⟨g,t.ext x⟩⟩
theorem IT(a:Act):∃w r,aI a=.str w::r/\(w="make" \/ w="move" \/ w="drop")/\(w="make" ↔ ∃kd ho sp,a=.make kd ho sp):=by
 cases a with
 |make kd ho sp=>exact⟨_,_,rfl,.inl rfl,λ_=>⟨_,_,_,rfl⟩,λ_=>rfl⟩
 |move th ho sp=>exact⟨_,_,rfl,.inr (.inl rfl),λz=>absurd z (by decide +kernel),λ⟨_,_,_,z⟩=>nomatch z⟩
 |drop th=>exact⟨_,_,rfl,.inr (.inr rfl),λz=>absurd z (by decide +kernel),λ⟨_,_,_,z⟩=>nomatch z⟩
theorem FP{lt:Nat}(f:FS h l lt lm lf ll n M L)(T:mN M)(hl:M.length<=100)(hL:L.length<=100)(hn:n<=100){d:Dd}(D:Wf d)(k:∀h',Kx lm lf ll h h'->FS h' l lt lm lf ll (n+1) (heard M L d.nm d.act).1 (heard M L d.nm d.act).2.1->Q (.str (heard M L d.nm d.act).2.2) h'):(bO [.ref l,dP d] h).W Q:=by
 obtain⟨d1,d2,d3,d4,d5,d6,d7,d8⟩:=f.dist;have ok:IS d.act:=by
  have:=D.act;cases e:d.act with
  |make kd ho sp=>rw[e]at this;exact this.2
  |move th ho sp=>rw[e]at this;exact this
  |drop th=>trivial
 refine bR ?_;unfold cW;rw[aC];have mh:=bJ (mm:="hear") (n:=1) (tb:=rE) (ms:=aA (mV 1) aD) (δ:=[some (.ref l),some (dP d),none,none]) (h:=h) (h1:=h) (mo:=mUn (cH "tree") (mV 0)) (k:=lt) (f:=dX) (by simp[f.ft]) f.tr.ins tbT rfl;simp[mh];refine HV f.tr T.nr (by omega) (by omega) d.nm (sv d.seen) d.act ok _ λh1 t1 k1=>?_;obtain⟨g,tl⟩:=f.lv;have oq:=k1 _ _ d1 d2 f.fo;have iw:Tb h1 ll n g:=tl.keep λo e=>k1 _ _ f.ne (PY d5) e;refine now ?_;rw[aC];simp[dP2];refine now ?_;obtain⟨w,r,e0,_,hw⟩:=IT d.act;have i0:vIx (.tup (aI d.act)) (.int 0) h1=.ok (.str w) h1:=by rw[e0];simp
 have fin:Q (.str (heard M L d.nm d.act).2.2) h1:=k _ (λi o a b c e=>k1 i o a b e) ⟨oq,t1,f.ne,g,iw.more (Qv _)⟩;rw[aC,aY]
 by_cases c:w="make"
 ·obtain⟨kd,ho,sp,ea⟩:=hw.mp c;have kk:=D.act;rw[ea]at kk;have i1:vIx (.tup (aI d.act)) (.int 1) h1=.ok (.str kd) h1:=by rw[ea];simp[aI]
  by_cases c2:(heard M L d.nm d.act).2.2="done"
  ·have ma:=bJ (mm:="add_leaf") (n:=2) (tb:=jZ) (ms:=aA (aB vAt (mV 1) (mC (.int 0))) (aA (aB vAt (mV 3) (mC (.int 1))) aD)) (δ:=[some (.ref l),some (dP d),some (.str (heard M L d.nm d.act).2.2),some (.tup (aI d.act))]) (h:=h1) (h1:=h1) (mo:=mV 0) (k:=l) (f:=bW) (by simp) oq (by simp[jZ]) rfl;generalize (heard M L d.nm d.act).2.2=v at ma c2 k;generalize aI d.act=A at i0 i1 ma;simp only[qZ]at i0 i1;simp[i0,eqs,c,c2];rw[c2]at ma;simp[ma,dP0,i1];refine KM oq iw (by omega) kk.1 λh2 f' fr t2=>?_;refine now ?_;simp;rw[c2]at k;exact k _ (λi o a b c e=>fr i o c (k1 i o a b e)) ⟨fr _ _ d3 oq,⟨fr _ _ d4 t1.ins,yY t1.made λo e=>fr _ _ (PY f.ne) e,fr _ _ d5 t1.fail⟩,f.ne,f',t2⟩
  ·generalize (heard M L d.nm d.act).2.2=v at c2 fin;generalize aI d.act=A at i0;simp only[qZ]at i0;simp[i0,eqs,c,c2];refine now ?_;simp;exact fin
 ·generalize (heard M L d.nm d.act).2.2=v at fin;generalize aI d.act=A at i0;simp only[qZ]at i0;simp[i0,eqs,c];refine now ?_;simp;exact fin
theorem inT{x:Str}(hx:x="make" \/ x="move" \/ x="drop")(h:PH):vIn (.str x) (.tup [.str "make",.str "move",.str "drop"]) h=.ok (.bl true) h:=by
 rw[BZ rfl rfl];simp[hx]
theorem FQ{lt:Nat}(f:FS h l lt lm lf ll n M L)(T:mN M)(hl:M.length<=100)(hL:L.length<=100)(hn:n<=100){d:Dd}(D:Wf d)(k:∀h',Kx lm lf ll h h'->FS h' l lt lm lf ll (n+1) (heard M L d.nm d.act).1 (heard M L d.nm d.act).2.1->Q (.str (heard M L d.nm d.act).2.2) h'):(cM [.ref l,dP d] h).W Q:=by
 refine bR ?_;unfold fW;obtain⟨w,r,e0,hw,_⟩:=IT d.act;have i0:atI (aI d.act) 0=some (.str w):=by rw[e0];exact aR (i:=0) rfl
 have mt:=bJ (mm:="hear_tree") (n:=1) (tb:=iZ) (ms:=aA (mV 1) aD) (δ:=[some (.ref l),some (dP d),some (.tup (aI d.act))]) (h:=h) (h1:=h) (mo:=mV 0) (k:=l) (f:=bO) (by simp) f.fo (by simp[iZ]) rfl;rw[aC];simp[dP2];refine now ?_;rw[aC,aY];generalize hA:aI d.act=A at i0 mt;simp[i0,inT hw,mt];exact FP f T hl hL hn D k
theorem Dw(e:h[n]?=some (.lst xs)):vM [.ref n] h=.ok (.ref h.length) (h++[.lst xs]):=by
 have:aN h n=some xs:=by unfold aN;rw[e]
 unfold vM;simp[this]
theorem mO{f:Str}{fs:List (Str×PV)}{a:Nat}{r:Ev}(g:h[a]?=some (.ins cn fs))(l:fs.length<1000)(k:∀h',(∀(i:Nat) o,i≠a->h[i]?=some o->h'[i]?=some o)->h'[a]?=some (.ins cn (jI f (.ref h.length) fs))->h'[h.length]?=some (.dK [])->h'.length=h.length+1->E.nx (some (.ref a)::r) h'):(fD f (mV 0) bP (some (.ref a)::r) h).W E:=by
 have ha:=(yx.mp g).1;simp only[Bm,vP,xQ,EE,pB];refine⟨_,iB (Ext.app _ _ _ _ g) l,k _ (λi o hi e=>aG (Ext.app _ _ _ _ e) (PY hi)) (bV (Ext.app _ _ _ _ g)) (aG aF (by omega)) (by simp)⟩
variable{x:PV}
theorem FT{la lb:Nat}{y:PV}(g:h[l]?=some (.ins "Tree" [("made",x),("failed",y)]))(ga:h[la]?=some (.lst []))(gb:h[lb]?=some (.lst []))(k:∀lm lf h',(∀(i:Nat) o,i≠l->h[i]?=some o->h'[i]?=some o)->h.length<=lm->h.length<=lf->aM h' l lm lf [] []->Q .non h'):(gO [.ref l,.ref la,.ref lb] h).W Q:=by
 have na:la≠l:=λz=>by subst z;rw[g]at ga;cases ga
 have nb:lb≠l:=λz=>by subst z;rw[g]at gb;cases gb
 have hl:=(yx.mp g).1;refine bR ?_;unfold jW;rw[aC];refine mO g (by simp) λhA pw g2 wb lA=>?_;have g2:hA[l]?=some (.ins "Tree" [("made",.ref h.length),("failed",y)]):=g2;refine now ?_;rw[aC];refine zA (n:=la) (h1:=hA) (by simp) (pw _ _ na ga) ?_;refine now ?_;simp[Dw (pw _ _ nb gb)];have x3:Ext hA (hA++[MO.lst []]):=Ext.app _ _;refine⟨_,iB (x3 _ _ g2) (by simp),?_⟩;exact k h.length hA.length _ (λi o hi e=>aG (x3 _ _ (pw i o hi e)) (PY hi)) (zb _) (by omega) ⟨bV (x3 _ _ g2),rC (aG (x3 _ _ wb) (by omega)),aG aF (by omega)⟩
theorem FU{h0:PH}(x0:Ext h0 h){lr lx:Nat}(g:h[h0.length]?=some (.ins "Folding" []))(gr:h[lr]?=some (.lst []))(gx:h[lx]?=some (.lst []))(k:∀lt lm lf ll h',Ext h0 h'->h0.length<=lm->h0.length<=lf->h0.length<=ll->FS h' h0.length lt lm lf ll 0 [] []->Q .non h'):(dM [.ref h0.length,.tup [.ref lr,.ref lx]] h).W Q:=by
 have nr:lr≠h0.length:=λz=>by subst z;rw[g]at gr;cases gr
 have nx:lx≠h0.length:=λz=>by subst z;rw[g]at gx;cases gx
 have hl:=(yx.mp g).1;refine bR ?_;unfold dJ;rw[aC];simp;refine now ?_;obtain⟨h1,e1,t1,x1⟩:=Ic [some (.ref h0.length),some (.tup [.ref lr,.ref lx]),some (.ref lr),some (.ref lx),none,none,none,none,none] h;rw[aC];simp[-jU,e1];refine⟨_,iB (x1 _ _ g) (by simp),?_⟩;have xA:Ext h0 (h1.set h0.length (MO.ins "Folding" (jI "tree" (.ref h.length) []))):=(x0.trans x1).setN (zb _);have fr:∀(i:Nat) o,i≠h0.length->h1[i]?=some o->(h1.set h0.length (MO.ins "Folding" (jI "tree" (.ref h.length) [])))[i]?=some o:=λi o hi e=>aG e (PY hi);have f2:(h1.set h0.length (MO.ins "Folding" (jI "tree" (.ref h.length) [])))[h0.length]?=some (.ins "Folding" [("tree",.ref h.length)]):=bV (x1 _ _ g);have t2:=fr _ _ (by omega) t1.ins;have r2:=fr _ _ nr (x1 _ _ gr);have y2:=fr _ _ nx (x1 _ _ gx);have l1:=x1.len;generalize ub:h1.set h0.length (MO.ins "Folding" (jI "tree" (.ref h.length) []))=h2 at xA f2 t2 r2 y2;have l2:h2.length=h1.length:=by rw[<-ub,QC]
 clear ub fr;have l3:=(yx.mp t2).1;refine now ?_;rw[aC];have hc:=hZ (m:=mV 2) (js:=[none]) (tg:=gN 0) (tst:=nP) (elt:=mSl (mV 0) nL (mP (mC (.int 4)))) (δ:=[some (.ref h0.length),some (.tup [.ref lr,.ref lx]),some (.ref lr),some (.ref lx),none,none,none,none,none]) (h:=h2) (h1:=h2) (n:=lr) (ys:=([]:List PV)) (emb:=id) (λt=>none) (by simp) r2 (by simp) (λt ht=>nomatch ht);have x3:Ext h2 (h2++[MO.lst []]):=Ext.app _ _;have r3:(h2++[MO.lst []])[h2.length]?=some (.lst []):=aF;have hc:cV [none] (bB (mV 2)) (gN 0) nP (mSl (mV 0) nL (mP (mC (.int 4)))) [some (.ref h0.length),some (.tup [.ref lr,.ref lx]),some (.ref lr),some (.ref lx),none,none,none,none,none] h2=.ok (.ref h2.length) (h2++[MO.lst []]):=hc;generalize h2.length=l4 at hc r3 l2 l3;generalize h2++[MO.lst []]=h3 at hc r3 x3;have l5:=(yx.mp r3).1;have mf:=bJ (mm:="fill") (n:=2) (tb:=yO) (ms:=aA (cV [none] (bB (mV 2)) (gN 0) nP (mSl (mV 0) nL (mP (mC (.int 4))))) (aA (mV 3) aD)) (δ:=[some (.ref h0.length),some (.tup [.ref lr,.ref lx]),some (.ref lr),some (.ref lx),none,none,none,none,none]) (h:=h2) (h1:=h2) (mo:=mUn (cH "tree") (mV 0)) (k:=h.length) (f:=gO) (by have:cH "tree" (.ref h0.length) h2=.ok (.ref h.length) h2:=iS f2 rfl;simp[this]) t2 (by simp[yO]) rfl;rw[ME,mf];simp[hc];refine FT (x3 _ _ t2) r3 (x3 _ _ y2) λlm lf h4 k4 lm4 lf4 t4=>?_;have xo:=k4 _ _ (by omega) (x3 _ _ f2);have x4:Ext h0 h4:=λi o e=>k4 i o (by have:=(yx.mp e).1;omega) ((xA.trans x3) _ _ e);have r4:=k4 _ _ (by intro z;subst z;rw[t2]at r2;cases r2) (x3 _ _ r2);have b4:=(yx.mp t4.fail).1;obtain⟨o,ho,_,wx⟩:=bS t4.made;have c4:=(yx.mp ho).1;have d4:=(yx.mp t4.ins).1;have x34:=x3.len;refine now ?_;rw[aC];refine mO xo (by simp) λh6 f7 f6 g6 l6=>?_;have f6:h6[h0.length]?=some (.ins "Folding" [("tree",.ref h.length),("leaves",.ref h4.length)]):=f6;refine now ?_;refine zA (n:=lr) (h1:=h6) (by simp) (f7 _ _ nr r4) ?_;exact k _ _ _ _ _ (λi o e=>f7 i o (by have:=(yx.mp e).1;omega) (x4 _ _ e)) (by omega) (by omega) (by omega) ⟨f6,⟨f7 _ _ (by omega) t4.ins,wx _ (f7 _ _ (by omega) ho),f7 _ _ (by omega) t4.fail⟩,by omega,_,Tb.nil g6⟩
theorem FV(h:PH):rD [] h=.ok (.tup [.ref h.length,.ref (h.length+1)]) (h++[.lst []]++[.lst []]):=by
 have w:(rD [] h).W λq h'=>q=.tup [.ref h.length,.ref (h.length+1)]/\h'=h++[.lst []]++[.lst []]:=by
  refine bR ?_;unfold yP;simp
 obtain⟨q,h',e,rfl,rfl⟩:=hW w;exact e
structure UAt(h:PH)(lu u1 u2 n:Nat)(U P:Nm->Option PV):Prop where
 ins:∃fs,h[lu]?=some (.ins "Undoing" fs)/\fs.lookup ("undone" : Str)=some (.ref u1)/\fs.lookup ("placers" : Str)=some (.ref u2)/\fs.lookup ("hear" : Str)=none
 un:Tb h u1 n U
 pl:Tb h u2 n P
 ne:u1≠u2
variable{U:Nm->Option PV}{lu u1 u2:Nat}
theorem UAt.keep{P:Nm->Option PV}(u:UAt h lu u1 u2 n U P)(k:∀(i:Nat) o,i=lu\/i=u1\/i=u2->h[i]?=some o->h'[i]?=some o):UAt h' lu u1 u2 n U P:=
 ⟨let ⟨fs,a,b⟩:=u.ins;⟨fs,k _ _ (.inl rfl) a,b⟩,u.un.keep λo e=>k _ _ (.inr (.inl rfl)) e,u.pl.keep λo e=>k _ _ (.inr (.inr rfl)) e,u.ne⟩
theorem FW(k:∀h',Ext h h'->UAt h' h.length (h.length+1) (h.length+2) 0 (λ_=>none) (λ_=>none)->Q (.ref h.length) h'):(jE "Undoing" 0 dO aD δ h).W Q:=by
 refine Bz (ps:=[]) (h1:=h) rfl rfl ?_;refine bR ?_;unfold dN;have g1:(h++[MO.ins "Undoing" []])[h.length]?=some (.ins "Undoing" []):=aF;have x1:Ext h (h++[MO.ins "Undoing" []]):=Ext.app _ _;have l1:(h++[MO.ins "Undoing" []]).length=h.length+1:=by simp
 generalize h++[MO.ins "Undoing" []]=hA at g1 x1 l1;rw[aC];refine mO g1 (by simp) λhB xn gB dB lB=>now ?_;rw[aC];refine mO gB (show 1<1000 by omega) λhC u0 gC dC lC=>now ?_;rw[aC];refine mO gC (show 2<1000 by omega) λhD xj gD dD lD=>now ?_;rw[aC];refine mO gD (show 3<1000 by omega) λhE wo gE dE lE=>now ?_;refine mO gE (show 4<1000 by omega) λhF xl gF dF lF=>⟨rfl,?_⟩;have fr:∀(i:Nat) o,i≠h.length->hC[i]?=some o->hF[i]?=some o:=λi o hi e=>xl _ _ hi (wo _ _ hi (xj _ _ hi e));have u1:=fr _ _ (by omega) (u0 _ _ (by omega) dB);have u2:=fr _ _ (by omega) dC;rw[l1]at u1 gF;rw[lB,l1]at u2 gF;refine k hF (λi o e=>have hi:=(yx.mp e).1;fr _ _ (by omega) (u0 _ _ (by omega) (xn _ _ (by omega) (x1 _ _ e)))) ⟨⟨_,gF,rfl,rfl,rfl⟩,Tb.nil u1,Tb.nil u2,by omega⟩
def Ky(u1 u2:Nat)(h h':PH):Prop:=∀(i:Nat) o,i≠u1->i≠u2->h[i]?=some o->h'[i]?=some o
theorem UAt.fu{P:Nm->Option PV}(u:UAt h lu u1 u2 n U P):cH "undone" (.ref lu) h=.ok (.ref u1) h:=let ⟨_,a,b,_⟩:=u.ins;iS a b
theorem UAt.fp{P:Nm->Option PV}(u:UAt h lu u1 u2 n U P):cH "placers" (.ref lu) h=.ok (.ref u2) h:=let ⟨_,a,_,b,_⟩:=u.ins;iS a b
variable{U':Nm->Option PV}
theorem UAt.putU{P:Nm->Option PV}(u:UAt h lu u1 u2 n U P)(t:Tb (h.set u1 o) u1 (n+1) U'):UAt (h.set u1 o) lu u1 u2 (n+1) U' P:=
 ⟨let ⟨fs,a,b⟩:=u.ins;⟨fs,aG a (PY (u.un.ne_ins a)),b⟩,t,(u.pl.keep λo e=>aG e u.ne).more (Qv _),u.ne⟩
variable{P':Nm->Option PV}
theorem UAt.putP{P:Nm->Option PV}(u:UAt h lu u1 u2 n U P)(hm:n<=m)(t:Tb (h.set u2 o) u2 m P'):UAt (h.set u2 o) lu u1 u2 m U P':=
 ⟨let ⟨fs,a,b⟩:=u.ins;⟨fs,aG a (PY (u.pl.ne_ins a)),b⟩,(u.un.keep λo e=>aG e (PY u.ne)).more hm,t,u.ne⟩
theorem UAt.more{P:Nm->Option PV}(u:UAt h lu u1 u2 n U P)(hm:n<=m):UAt h lu u1 u2 m U P:=⟨u.ins,u.un.more hm,u.pl.more hm,u.ne⟩
theorem FX{P:Nm->Option PV}(u:UAt h lu u1 u2 n U P)(hn:n<=200){d:Dd}(ea:d.act=.make kd ho sp)(k:∀h',Ky u1 u2 h h'->UAt h' lu u1 u2 (n+1) U (upN P d.nm (pv d.nm))->Q .non h'):(bL [.ref lu,dP d] h).W Q:=by
 refine bR ?_;unfold eD;rw[aC];have i0:atI (aI d.act) 0=some (.str "make"):=by rw[ea];exact aR (i:=0) rfl
 simp[dP];refine now ?_;obtain⟨o,hp,t⟩:=u.pl.put (by omega) d.nm (pv d.nm);generalize aI d.act=A at i0;simp[i0,u.fp];exact⟨_,hp,k _ (λi o a b e=>aG e (PY b)) (u.putP (Qv _) t)⟩
theorem inM{x:Str}(hx:x="move" \/ x="drop")(h:PH):vIn (.str x) (.tup [.str "move",.str "drop"]) h=.ok (.bl true) h:=by
 rw[BZ rfl rfl];simp[hx]
theorem FY{P:Nm->Option PV}(u:UAt h lu u1 u2 n U P)(hn:n<=200){d:Dd}(hm:∀kd ho sp,d.act≠.make kd ho sp)(ht:thg d.nm d.act=th)(hp:P th=some (pv p))(k:∀h',Ky u1 u2 h h'->UAt h' lu u1 u2 (n+2) (upN U p (pv d.nm)) (upN P th (pv d.nm))->Q .non h'):(bL [.ref lu,dP d] h).W Q:=by
 refine bR ?_;unfold eD;rw[aC];have ii:∃w:Str,atI (aI d.act) 0=some (.str w)/\w≠"make" /\ (w="move" \/ w="drop")/\atI (aI d.act) 1=some (pv th):=by
  cases e:d.act with
  |make kd ho sp=>exact(hm _ _ _ e).elim
  |move t ho sp=>rw[e]at ht;subst ht;exact⟨"move",aR (i:=0) rfl,by decide +kernel,.inl rfl,aR (i:=1) rfl⟩
  |drop t=>rw[e]at ht;subst ht;exact⟨"drop",aR (i:=0) rfl,by decide +kernel,.inr rfl,aR (i:=1) rfl⟩
 obtain⟨w,i0,n0,hw,i1⟩:=ii;simp[dP];refine now ?_;generalize aI d.act=A at i0 i1;obtain⟨o,q1,t1⟩:=u.un.put (by omega) p (pv d.nm);have u':=u.putU t1;obtain⟨o2,q2,t2⟩:=u'.pl.put (by omega) th (pv d.nm);simp[i0,n0,inM hw,aC,u.fu,u.fp,i1,u.pl.at' hp];refine⟨_,q1,now ?_⟩;simp[i1,u'.fp];exact⟨_,q2,k _ (λi o a b e=>aG (aG e (PY a)) (PY b)) (u'.putP (Qv _) t2)⟩
def FtP(h:PH)(A:Nat->Prop):Ft->PV->Prop
 |.idle,v=>v=.tup [.str "idle"]
 |.lost w,v=>∃l,v=.tup [.str "lost",.ref l]/\A l/\h[l]?=some (.lst (w.map pv))
 |.outd y,v=>v=.tup [.str "outdone",pv y]
 |.stands,v=>v=.tup [.str "stands"]
variable{A B:Nat->Prop}
theorem FtP.keep{r:Ft}(f:FtP h A r v)(k:∀(i:Nat) o,A i->h[i]?=some o->h'[i]?=some o)(ab:∀i,A i->B i):FtP h' B r v:=by
 cases r with
 |idle=>exact f
 |lost w=>obtain⟨l,a,b,c⟩:=f;exact⟨l,a,ab _ b,k _ _ b c⟩
 |outd y=>exact f
 |stands=>exact f
def FtX(h:PH)(A:Nat->Prop)(r:Ft):Option PV->Prop
 |some v=>FtP h A r v
 |none=>r=.stands
theorem FtX.keep{r:Ft}{v:Option PV}(f:FtX h A r v)(k:∀(i:Nat) o,A i->h[i]?=some o->h'[i]?=some o)(ab:∀i,A i->B i):FtX h' B r v:=by
 cases v with
 |none=>exact f
 |some v=>exact FtP.keep f k ab
def FtI(h:PH)(A:Nat->Prop)(r:Ft):Option PV->Option PV->Prop
 |some v,_=>∃y,v=pv y/\r=.outd y
 |none,f=>FtX h A r f
theorem FtI.keep{r:Ft}{u v:Option PV}(f:FtI h A r u v)(k:∀(i:Nat) o,A i->h[i]?=some o->h'[i]?=some o):FtI h' A r u v:=by
 cases u with
 |none=>exact FtX.keep f k λ_ z=>z
 |some u=>exact f
structure Bd(a0 l lt lm lf ll lu lF:Nat):Prop where
 lo:a0<=lm/\a0<=lf/\a0<=ll/\a0<=lu
 hi:l<lu/\lt<lu/\lm<lu/\lf<lu/\ll<lu
 lF:lu+2<lF
structure PL(h:PH)(l lt lm lf ll lu lF:Nat)(s:Gs)(P:List Nm)(q:Nat)(h':PH):Prop where
 x:Ext h h'
 fs:FS h' l lt lm lf ll q s.M s.L
 ft:∃U Pl F,UAt h' lu (lu+1) (lu+2) (2*q) U Pl/\Tb h' lF q F/\(∀x,Pl x=(s.P x).map pv)/\(∀x,(U x).isSome=true->x∈P)/\∀x,FtI h' (λi=>lF<i) (s.R x) (U x) (F x)
variable{b:Nat}
theorem FS.keepB{lt:Nat}(f:FS h l lt lm lf ll n M L)(hi:l<b/\lt<b/\lm<b/\lf<b/\ll<b)(k:∀(i:Nat) o,i<b->h[i]?=some o->h'[i]?=some o):FS h' l lt lm lf ll n M L:=
 ⟨k _ _ hi.1 f.fo,⟨k _ _ hi.2.1 f.tr.ins,yY f.tr.made λo e=>k _ _ hi.2.2.1 e,k _ _ hi.2.2.2.1 f.tr.fail⟩,f.ne,let ⟨g,t⟩:=f.lv;⟨g,t.keep λo e=>k _ _ hi.2.2.2.2 e⟩⟩
variable{F Pl:Nm->Option PV}{lF:Nat}
theorem PL.found{lt:Nat}{q:Nat}(B:Bd h.length l lt lm lf ll lu lF){M:Md}{r:Ft}(x:Ext h h1)(fs:FS h1 l lt lm lf ll (q+1) s.M L)(u:UAt h1 lu (lu+1) (lu+2) (2*q) U Pl)(eP:∀x,Pl x=(s.P x).map pv)(kU:∀x,(U x).isSome=true->x∈P)(ft:∀x,FtI h1 (λi=>lF<i) (s.R x) (U x) (F x))(hn:nm∉P)(t:Tb (h1.set lF o) lF (q+1) (upN F nm v))(hv:FtP h1 (λi=>lF<i) r v):PL h l lt lm lf ll lu lF ⟨s.M,L,s.P,upF s.R nm r⟩ (P++[nm]) (q+1) (h1.set lF o):=by
 obtain⟨lo,hi,hF⟩:=B;have kp:∀(i:Nat) ob,i≠lF->h1[i]?=some ob->(h1.set lF o)[i]?=some ob:=λi ob a e=>aG e (PY a);refine⟨x.setN (by omega),fs.keepB hi λi o a e=>kp _ _ (by omega) e,U,Pl,_,(u.keep λi o a e=>kp _ _ (by omega) e).more (by omega),t,eP,λx h=>OX _ (kU x h),λx=>?_⟩;have fx:=(ft x).keep (h':=h1.set lF o) λi ob a e=>kp _ _ (by omega) e
 show FtI _ _ (if x=nm then r else s.R x) (U x) (if x=nm then some v else F x)
 by_cases e:x=nm
 ·rw[if_pos e,if_pos e];have:U x=none:=by
   cases e2:U x with
   |none=>rfl
   |some z=>exact(hn (e▸kU x (by rw[e2];rfl))).elim
  rw[this];exact FtP.keep hv (λi ob a e=>kp _ _ (by omega) e) λ_ z=>z
 ·rw[if_neg e,if_neg e];exact fx
variable{x5 x6 x7 x8 x9:Option PV}
theorem Ig{lt:Nat}(B:Bd h.length l lt lm lf ll lu lF){q:Nat}(p:PL h l lt lm lf ll lu lF s P q h')(G:GI s P)(hq:q<=50)(hP:P.length=q){d:Dd}(D:Wf d)(hn:d.nm∉P)(k:∀x8 h2,PL h l lt lm lf ll lu lF (gst s d.nm d.act) (P++[d.nm]) (q+1) h2->E.nx [some (.ref n),some (.ref l),some (.ref lu),some (.ref lF),some (dP d),some (pv d.nm),some (sv d.seen),some (.tup (aI d.act)),some x8,x9] h2):(bY [some (.ref n),some (.ref l),some (.ref lu),some (.ref lF),some (dP d),x5,x6,x7,x8,x9] h').W E:=by
 obtain⟨x,fs,U,Pl,F,u,tF,eP,kU,ft⟩:=p;have lM:=G.lM;have lL:=G.lL;unfold bY;rw[aC];simp;refine⟨[some (.ref n),some (.ref l),some (.ref lu),some (.ref lF),some (dP d),some (pv d.nm),some (sv d.seen),some (.tup (aI d.act)),x8,x9],by simp[dP],?_⟩;refine now ?_;rw[aC];have mh:=bJ (mm:="hear") (n:=1) (tb:=bX) (ms:=aA (mV 4) aD) (δ:=[some (.ref n),some (.ref l),some (.ref lu),some (.ref lF),some (dP d),some (pv d.nm),some (sv d.seen),some (.tup (aI d.act)),x8,x9]) (h:=h') (h1:=h') (mo:=mV 1) (k:=l) (f:=cM) (by simp) fs.fo tbF rfl;simp[mh];refine FQ fs G.T (by omega) (by omega) (by omega) D λh1 k1 f1=>?_;refine now ?_;obtain⟨lo,hi,hF⟩:=B;have B:Bd h.length l lt lm lf ll lu lF:=⟨lo,hi,hF⟩;have x1:Ext h h1:=λi o e=>have hh:=(yx.mp e).1;k1 i o (by omega) (by omega) (by omega) (x i o e);have u1:UAt h1 lu (lu+1) (lu+2) (2*q) U Pl:=u.keep λi o a e=>k1 i o (by omega) (by omega) (by omega) e;have t1:Tb h1 lF q F:=tF.keep λo e=>k1 _ o (by omega) (by omega) (by omega) e;have jh:=λx=>(ft x).keep (h':=h1) λi o a e=>k1 i o (by omega) (by omega) (by omega) e;rw[aY];have H:=iA s.M s.L d.nm d.act;generalize ha:d.act=a at H f1 k⊢;have done:∀(M:Md)(th:Nm),heard s.M s.L d.nm a=(M,s.L,("done" : Str))->thg d.nm a=th->((∃kd ho sp,a=.make kd ho sp)\/((∀kd ho sp,a≠.make kd ho sp)/\(fnd s.M th).isSome=true))->(aV (aK (aB vEq (mV 8) (mC (.str "idle")))) (aZ (aX (aA (mC (.str "idle")) aD)) (mV 3) (mV 5)) (jH (cY "hear" 1 bX (mV 2) (aA (mV 4) aD))) [some (.ref n),some (.ref l),some (.ref lu),some (.ref lF),some (dP d),some (pv d.nm),some (sv d.seen),some (.tup (aI a)),some (.str "done"),x9] h1).W E:=by
  intro M th e et c;rw[e]at f1;rw[fY e,et]at k;obtain⟨fsl,i1,i2,i3,i4⟩:=u1.ins;have mu:=bJ (mm:="hear") (n:=1) (tb:=bX) (ms:=aA (mV 4) aD) (δ:=[some (.ref n),some (.ref l),some (.ref lu),some (.ref lF),some (dP d),some (pv d.nm),some (sv d.seen),some (.tup (aI a)),some (.str "done"),x9]) (h:=h1) (h1:=h1) (mo:=mV 2) (k:=lu) (f:=bL) (by simp) i1 tbU i4;simp[nDI,mu];rcases c with⟨kd,ho,sp,rfl⟩|⟨c1,c2⟩
  ·have et:d.nm=th:=et;subst et;refine FX u1 (by omega) ha λh2 k2 u2=>k _ _ ⟨λi o e=>have hh:=(yx.mp e).1;k2 i o (by omega) (by omega) (x1 i o e),f1.keepB hi λi o a e=>k2 i o (by omega) (by omega) e,U,_,F,u2.more (by omega),(t1.keep λo e=>k2 _ o (by omega) (by omega) e).more (Qv _),λy=>?_,λy h=>OX _ (kU y h),λy=>?_⟩
   ·show(if y=d.nm then some (pv d.nm) else Pl y)=(if y=d.nm then some d.nm else s.P y).map pv
    split
    ·rfl
    ·exact eP y
   ·have e0:s.P d.nm=none:=by
     have:=G.pl d.nm;rw[G.new hn]at this;cases e2:s.P d.nm with
     |none=>rfl
     |some z=>rw[e2]at this;cases this
    have er:outF s.P s.R d.nm d.nm=s.R:=by unfold outF;rw[e0]
    show FtI h2 _ (outF s.P s.R d.nm d.nm y) (U y) (F y)
    rw[er];exact(jh y).keep λi o a e=>k2 i o (by omega) (by omega) e
  ·obtain⟨pr,ep⟩:=QV.mp (show(s.P th).isSome=true by rw[G.pl];exact c2);refine FY (th:=th) u1 (by omega) (λkd ho sp z=>c1 kd ho sp (ha▸z)) (by rw[ha];exact et) (p:=pr) (by rw[eP,ep];rfl) λh2 k2 u2=>k _ _ ⟨λi o e=>have hh:=(yx.mp e).1;k2 i o (by omega) (by omega) (x1 i o e),f1.keepB hi λi o a e=>k2 i o (by omega) (by omega) e,_,_,F,u2,(t1.keep λo e=>k2 _ o (by omega) (by omega) e).more (Qv _),λy=>?_,λy h=>?_,λy=>?_⟩
   ·show(if y=th then some (pv d.nm) else Pl y)=(if y=th then some d.nm else s.P y).map pv
    split
    ·rfl
    ·exact eP y
   ·have h:(if y=pr then some (pv d.nm) else U y).isSome=true:=h
    by_cases z:y=pr
    ·rw[z];exact OX _ (G.pv th pr ep)
    ·rw[if_neg z]at h;exact OX _ (kU y h)
   ·have er:outF s.P s.R th d.nm=upF s.R pr (.outd d.nm):=by unfold outF;rw[ep]
    show FtI h2 _ (outF s.P s.R th d.nm y) (if y=pr then some (pv d.nm) else U y) (F y)
    rw[er]
    show FtI h2 _ (if y=pr then .outd d.nm else s.R y) _ _
    split
    ·exact⟨_,rfl,rfl⟩
    ·exact(jh y).keep λi o a e=>k2 i o (by omega) (by omega) e
 cases H with
 |idle e q=>
  rw[e]at f1;rw[uB e]at k;rw[e];obtain⟨o,hp,t2⟩:=t1.put (by omega) d.nm (.tup [.str "idle"]);simp[nIL];exact⟨_,hp,k _ _ (PL.found B (M:=s.M) x1 f1 u1 eP kU jh hn t2 rfl)⟩
 | @lost th ho sp r f ft' on e=>
  rw[e]at f1;rw[uC e]at k;rw[e];obtain⟨g,hg,hb⟩:=small G.T.nr;have oj:FS h1 l lt lm lf ll (q+1) s.M (s.L++[d.nm]):=f1;have i1:vIx (.tup (aI (.move th ho sp))) (.int 1) h1=.ok (pv th) h1:=by simp[aI]
  have i2:vIx (.tup (aI (.move th ho sp))) (.int 2) h1=.ok (pv ho) h1:=by simp[aI]
  have mr:=bJ (mm:="ring") (n:=2) (tb:=iW) (ms:=aA (aB vAt (mV 7) (mC (.int 1))) (aA (aB vAt (mV 7) (mC (.int 2))) aD)) (δ:=[some (.ref n),some (.ref l),some (.ref lu),some (.ref lF),some (dP d),some (pv d.nm),some (sv d.seen),some (.tup (aI (.move th ho sp))),some (.str "lost"),x9]) (h:=h1) (h1:=h1) (mo:=mUn (cH "tree") (mV 1)) (k:=lt) (f:=fF) (by simp[oj.ft]) oj.tr.ins (by simp[iW]) rfl;obtain⟨pr,h2,e2,lr,rfl,x2,b2,g2⟩:=hW (Ck oj.tr hg hb (by omega) th ho (λpr h2=>∃lr,pr=.ref lr/\Ext h1 h2/\h1.length<=lr/\h2[lr]?=some (.lst ((fX s.M th ho).map pv))) λlr h2 a b c=>⟨lr,rfl,a,b,by rw[<-Az G.T.nr hg hb];exact c⟩);have tf:cY "ring" 2 iW (mUn (cH "tree") (mV 1)) (aA (aB vAt (mV 7) (mC (.int 1))) (aA (aB vAt (mV 7) (mC (.int 2))) aD)) [some (.ref n),some (.ref l),some (.ref lu),some (.ref lF),some (dP d),some (pv d.nm),some (sv d.seen),some (.tup (aI (.move th ho sp))),some (.str "lost"),x9] h1=.ok (.ref lr) h2:=by
   rw[mr];generalize aI (.move th ho sp)=A at i1 i2;simp only[qZ]at i1 i2;simp[i1,i2,e2]
  have lt1:=t1.lt;obtain⟨o,hp,t2⟩:=(t1.ext x2).put (by omega) d.nm (.tup [.str "lost",.ref lr]);generalize aI (.move th ho sp)=A at tf k;simp[tf];exact⟨_,hp,k _ _ (PL.found B (M:=s.M) (x1.trans x2) (oj.ext x2) (u1.keep λi o _ e=>x2 _ _ e) eP kU (λy=>(jh y).keep λi o _ e=>x2 _ _ e) hn t2 ⟨lr,rfl,by omega,g2⟩)⟩
 |make ft' e=>
  have:=done _ _ e rfl (.inl ⟨_,_,_,rfl⟩);rw[e];simp[nDL]at this⊢;exact this
 | @move th ho sp r f ft' on e=>
  have:=done _ th e rfl (.inr ⟨(λ_ _ _ z=>nomatch z),by rw[f];rfl⟩);rw[e];simp[nDL]at this⊢;exact this
 | @drop th r f e=>
  have:=done _ th e rfl (.inr ⟨(λ_ _ _ z=>nomatch z),by rw[f];rfl⟩);rw[e];simp[nDL]at this⊢;exact this
unseal Fl.W in
theorem KN{b:Bool}{m:Me}{d:Nat}(I:Nat->Ev->PH->Prop)(e:m δ h=.ok x h1)(ew:wkI b x h1=some (d,o,xs))(hd:tN h[d]?=true)(h0:I 0 δ (h1.set d (.fz o)))(keep:∀q δ h,I q δ h->h[d]?=some (.fz o))(step:∀(q:Nat) y δ h,xs[q]?=some y->I q δ h->∃δ1,tg y δ=some δ1/\(body δ1 h).W { nx:=I (q+1),ct:=I (q+1),rt:=λ_ _=>False,bk:=λ_ _=>False })(fin:∀δ h,I xs.length δ h->E.nx δ (h.set d o)):(pI b m (eC (tO b m) tg body) δ h).W E:=by
 have go:(fB (λ_=>true) tg body xs δ (h1.set d (.fz o))).W { nx:=λδ h=>I xs.length δ h,rt:=λ_ _=>False,bk:=λ_ _=>False,ct:=λ_ _=>False }:=sS I _ 0 δ _ h0 (λq y δ h _ hx hi=>⟨rfl,by
  obtain⟨δ1,t1,w1⟩:=step q y δ h (by simpa using hx) hi
  refine⟨δ1,t1,?_⟩;cases eb:body δ1 h with
  |nx δ2 h2=>rw[eb]at w1;exact w1
  |ct δ2 h2=>rw[eb]at w1;exact w1
  |bk δ2 h2=>rw[eb]at w1;exact w1.elim
  |rt p h2=>rw[eb]at w1;exact w1
  |exc=>rw[eb]at w1;exact w1
  |bad=>rw[eb]at w1;exact w1⟩) (λδ h hi=>⟨rfl,by simpa using hi⟩)
 unfold pI;rw[KC e ew hd];dsimp only;unfold eC;rw[Fj e ew,Rs.fl_ok];cases el:fB (λ_=>true) tg body xs δ (h1.set d (.fz o)) with
 |nx δ2 h2=>
  rw[el]at go;have g:I xs.length δ2 h2:=go;have g2:=keep _ _ _ g;simp only[kT,jV,g2];exact fin δ2 h2 g
 |ct δ2 h2=>rw[el]at go;exact go.elim
 |bk δ2 h2=>rw[el]at go;exact go.elim
 |rt p h2=>rw[el]at go;exact go.elim
 |exc=>rw[el]at go;exact go.elim
 |bad=>rw[el]at go;exact go.elim
def AA(v:PV):PV:=.tup [.str "outdone",v]
def laid(E:List (Nm×PV))(F:Nm->Option PV)(x:Nm):Option PV:=match fnd E x with
 |some v=>some (AA v)
 |none=>F x
variable{e:Nm×PV}
theorem Dx{E:List (Nm×PV)}(h:e.1∉E.map (·.1)):laid (E++[e]) F=upN (laid E F) e.1 (AA e.2):=by
 funext x
 show(match fnd (E++[e]) x with|some v=>some (AA v)|none=>F x)=if x=e.1 then some (AA e.2) else match fnd E x with|some v=>some (AA v)|none=>F x
 rw[Cf]
 by_cases z:x=e.1
 ·have:fnd E x=none:=by
   cases e2:fnd E x with
   |none=>rfl
   |some v=>exact(h (z▸rK.mp (by rw[e2];rfl))).elim
  rw[if_pos z,this,oF,if_pos z.symm];rfl
 ·rw[if_neg z,oF,if_neg (λw=>z w.symm)];cases fnd E x <;> rfl
set_option tactic.hygienic true in
theorem BA(e:bE h n=some kvs):∃o,h[n]?=some o/\tN (some o)=true/\lW o=some (kvs.map λkv=>.tup [kv.1,kv.2]):=by
 unfold bE at e;split at e
 ·rename_i k hk;cases e;exact⟨_,hk,rfl,rfl⟩
 ·rename_i hk;cases e;exact⟨_,hk,rfl,rfl⟩
 ·cases e
theorem Ng(nd:(os.map (·.nm)).Nodup)(wf:∀d∈os,Wf d)(ln:os.length<=50)(g:h[n]?=some (.lst (os.map dP)))(k:∀lF c F h',Ext h h'->h.length<=lF->Tb h' lF c F->(∀x,FtX h' (λi=>lF<i) ((jJ os).R x) (F x))->Q (.ref lF) h'):(eU [.ref n] h).W Q:=by
 refine bR ?_;unfold eT;rw[aC];have e0:=FV h;have xE:Ext h (h++[MO.lst []]++[MO.lst []]):=(Ext.app _ _).trans (Ext.app _ _);have ga:(h++[MO.lst []]++[MO.lst []])[h.length]?=some (.lst []):=Ext.app _ _ _ _ aF;have gb:(h++[MO.lst []]++[MO.lst []])[h.length+1]?=some (.lst []):=by
  have:h.length+1=(h++[MO.lst []]).length:=by simp
  rw[this];exact aF
 generalize h++[MO.lst []]++[MO.lst []]=hE at e0 xE ga gb;rw[IL];refine Bz (ps:=[.tup [.ref h.length,.ref (h.length+1)]]) (h1:=hE) (by simp[e0]) rfl ?_;refine FU (h0:=hE) (Ext.app _ _) aF (Ext.app _ _ _ _ ga) (Ext.app _ _ _ _ gb) λlt lm lf ll h1 x1 b1 b2 b3 f1=>⟨rfl,now ?_⟩;rw[aC,IL];have lE:=xE.len;have m1:=(yx.mp f1.fo).1;have m2:=(yx.mp f1.tr.ins).1;have m3:lm<h1.length:=by obtain⟨o,ho,_⟩:=bS f1.tr.made;exact(yx.mp ho).1
 have m4:=(yx.mp f1.tr.fail).1;have m5:ll<h1.length:=by obtain⟨_,t⟩:=f1.lv;exact t.lt
 have l1:=x1.len;refine FW λh2 x2 u2=>now ?_;have nv:h1.length+2<h2.length:=u2.pl.lt;rw[aC];simp;have x3:Ext h2 (h2++[MO.dK []]):=Ext.app _ _;have t3:Tb (h2++[MO.dK []]) h2.length 0 (λ_=>none):=Tb.nil aF;have B:Bd h.length hE.length lt lm lf ll h1.length h2.length:=⟨by omega,⟨m1,m2,m3,m4,m5⟩,nv⟩;have p0:PL h hE.length lt lm lf ll h1.length h2.length g0 [] 0 (h2++[MO.dK []]):=⟨xE.trans (x1.trans (x2.trans x3)),f1.ext (x2.trans x3),_,_,_,u2.keep λi o _ e=>x3 _ _ e,t3,λ_=>rfl,(λ_ z=>nomatch z),λ_=>rfl⟩;generalize h2.length=lF at t3 B p0;generalize h2++[MO.dK []]=h3 at t3 p0 x3;generalize h1.length=lu at B p0;generalize hE.length=l at B p0;clear u2 nv x3 t3 x2 m1 m2 m3 m4 m5 f1 x1;refine now ?_;rw[aC];refine iM (n:=n) (xs:=os.map dP) (h1:=h3) (λq δ h'=>PL h l lt lm lf ll lu lF (jJ (os.take q)) ((os.take q).map (·.nm)) q h'/\∃x4 x5 x6 x7 x8 x9,δ=[some (.ref n),some (.ref l),some (.ref lu),some (.ref lF),x4,x5,x6,x7,x8,x9]) (by simp) (p0.x _ _ g) ⟨p0,_,_,_,_,_,_,rfl⟩ (λq δ h' _ i=>i.1.x _ _ g) ?_ ?_
 ·rintro q y δ h' hy ⟨p,x4,x5,x6,x7,x8,x9,rfl⟩;rw[zo]at hy;obtain⟨d,hd,rfl⟩:=z6.mp hy;have hq:q<os.length:=(yx.mp hd).1;obtain⟨e1,hn⟩:=uD nd hd;refine⟨_,rfl,Ig B p (FO nd wf q) (by omega) (by simp;omega) (wf d (Pn hd)) hn λx8 h2 p2=>⟨?_,_,_,_,_,_,_,rfl⟩⟩;rw[e1,pX,Pq];exact p2
 ·rintro δ h' ⟨p,x4,x5,x6,x7,x8,x9,rfl⟩;rw[za,Rb]at p;obtain⟨x,fs,U,Pl,F,u,tF,eP,kU,ft⟩:=p;generalize (jJ os).R=R at ft k;obtain⟨lo,hi,hF⟩:=B;refine now ?_;rw[aC];obtain⟨E,tE,lE,u6,eE⟩:=u.un;obtain⟨o,ho,hd,hit⟩:=BA tE;have e0:sQ cX gM (mUn (cH "undone") (mV 2)) [some (.ref n),some (.ref l),some (.ref lu),some (.ref lF),x4,x5,x6,x7,x8,x9] h'=.ok (.ref h'.length) (h'++[.vw 0 (lu+1)]):=by
   simp[u.fu,u.un.dict,Bp ho hd]
  have y1:Ext h' (h'++[MO.vw 0 (lu+1)]):=Ext.app _ _;have c9:=y1 _ _ ho;have wk:=Fi aF c9 hit;have t1:=tF.ext y1;have jh:=λx=>(ft x).keep (h':=h'++[MO.vw 0 (lu+1)]) λi o _ e=>y1 _ _ e;have xx:=x.trans y1;rw[Pm]at wk;generalize h'.length=lv at e0 wk;generalize h'++[MO.vw 0 (lu+1)]=h1 at e0 wk y1 c9 t1 jh xx;refine KN (d:=lu+1) (o:=o) (xs:=E.map λe=>.tup [pv e.1,e.2]) (h1:=h1) (λq δ h2=>(∀(i:Nat) o,i≠lF->i≠lu+1->h1[i]?=some o->h2[i]?=some o)/\h2[lu+1]?=some (.fz o)/\Tb h2 lF (os.length+q) (laid (E.take q) F)/\∃x5 x9,δ=[some (.ref n),some (.ref l),some (.ref lu),some (.ref lF),x4,x5,x6,x7,x8,x9]) e0 wk (by rw[ho];exact hd) ⟨λi o _ a e=>aG e (PY a),bV c9,t1.keep λo e=>aG e (by omega),_,_,rfl⟩ (λq δ h i=>i.2.1) ?_ ?_
  ·rintro q y δ h2 hy ⟨fr,gz,tq,x5,x9,rfl⟩;rw[zo]at hy;obtain⟨e,he,rfl⟩:=z6.mp hy;have hq:q<E.length:=(yx.mp he).1;have e1:E.take (q+1)=E.take q++[e]:=by rw[Ry,he];rfl
   have nE:e.1∉(E.take q).map (·.1):=λz=>by
    rw[<-List.take_append_drop (q+1) E,e1,Pq,Pq,Qn,Qn]at u6;exact u6.1.2.2 e.1 z e.1 (by simp) rfl
   refine⟨_,by simp;rfl,?_⟩;unfold dR;obtain⟨ob,hp,t2⟩:=tq.put (by omega) e.1 (AA e.2);rw[<-Dx nE,<-e1]at t2;have cj:eK (.ref lF) (pv e.1) (.tup [.str "outdone",e.2]) h2=some (h2.set lF ob):=hp;simp[cj];exact⟨λi o a b e=>aG (fr i o a b e) (PY a),aG gz (by omega),t2⟩
  ·rintro δ h2 ⟨fr,gz,tq,x5,x9,rfl⟩;rw[za,Rb]at tq;refine now ?_;simp;have kk:∀(i:Nat) ob,i≠lF->h1[i]?=some ob->(h2.set (lu+1) o)[i]?=some ob:=λi ob a e=>by
    by_cases z:i=lu+1
    ·subst z;rw[c9]at e;cases e
     exact bV gz
    ·exact aG (fr i ob a z e) (PY z)
   refine k lF _ _ _ (λi o e=>have hh:=(yx.mp e).1;kk _ _ (by omega) (xx _ _ e)) (by omega) (tq.keep λo e=>aG e (by omega)) λy=>?_;have fy:=(jh y).keep (h':=h2.set (lu+1) o) λi o a e=>kk _ _ (by omega) e;unfold laid;rw[eE];cases eu:U y with
   |none=>rw[eu]at fy;exact fy
   |some v=>rw[eu]at fy;obtain⟨z,rfl,er⟩:=fy;rw[er];rfl
theorem AB{ds:List Dd}(D:Dl os ds)(g:h[n]?=some (.lst (ds.map dP)))(k:∀l vs h',Ext h h'->h.length<=l->h'[l]?=some (.lst vs)->vs.length=os.length->(∀(i:Nat) d,os[i]?=some d->∃v,vs[i]?=some (.tup [pv d.nm,v])/\FtP h' (λi=>h.length<=i/\i<l) ((jJ os).R d.nm) v)->Q (.ref l) h'):(rG [.ref n] h).W Q:=by
 refine bR ?_;unfold yR;rw[aC];simp;refine FM D g λl1 h1 x1 g1=>?_;refine Ng D.nd D.wf D.ln g1 λlF c F h2 x2 b2 t2 ft=>?_;refine now ?_;rw[aC];have gn:=(x1.trans x2) _ _ g;obtain⟨v,h3,e3,l3,rfl,x3,g3⟩:=hW (FN D gn (Q:=λv h3=>∃l3,v=.ref l3/\Ext h2 h3/\h3[l3]?=some (.lst [])) λl3 h3 a b=>⟨l3,rfl,a,b⟩);refine zA (n:=l3) (h1:=h3) (by simp[e3]) g3 (now ?_);obtain⟨v,h4,e4,l4,rfl,x4,b4,g4⟩:=hW (By D (x3 _ _ gn) (Q:=λv h4=>∃l4,v=.ref l4/\Ext h3 h4/\h3.length<=l4/\h4[l4]?=some (.lst (os.map dP))) λl3 h3 a b c=>⟨l3,rfl,a,b,c⟩);have t4:=t2.ext (x3.trans x4);have hc:=hZ (js:=[none,some 1]) (tg:=gN 0) (tst:=nP) (elt:=aX (aA (aB vAt (mV 0) (mC (.int 0))) (aA (mMt cX nV (mV 1) (aA (aB vAt (mV 0) (mC (.int 0))) (aA (aX (aA (mC (.str "stands")) aD)) aD))) aD))) (m:=aS 1 dU (aA (mV 0) aD)) (δ:=[some (.ref n),some (.ref lF),none,none]) (h:=h3) (h1:=h4) (n:=l4) (ys:=os) (emb:=dP) (λd=>some (.tup [pv d.nm,(F d.nm).getD (.tup [.str "stands"])])) (by simp[e4]) g4 (by have:=D.ln;omega)
  (λd hd=>⟨_,rfl,λh5 hx=>⟨rfl,by simp[gR,dP0,(t4.ext hx).dict,(t4.ext hx).get]⟩⟩)
 rw[filterMap_some]at hc;simp[hc];have lx:=(x1.trans (x2.trans (x3.trans x4))).len;refine k _ _ _ (x1.trans (x2.trans (x3.trans (x4.trans (Ext.app _ _))))) lx aF (by simp) λi d hi=>⟨_,by rw[zo,hi];rfl,?_⟩;have fx:=(ft d.nm).keep (h':=h4++[MO.lst (os.map λd=>PV.tup [pv d.nm,(F d.nm).getD (PV.tup [PV.str "stands"])])]) (B:=λi=>lF<i) (λi o _ e=>Ext.app _ _ _ _ ((x3.trans x4) _ _ e)) λ_ z=>z;have lx1:=x1.len;cases eF:F d.nm with
 |none=>
  have f2:=ft d.nm;rw[eF]at f2;have f2:(jJ os).R d.nm=.stands:=f2;rw[f2];rfl
 |some v=>
  have f2:=ft d.nm;rw[eF]at f2;have f2:FtP h2 (λi=>lF<i) ((jJ os).R d.nm) v:=f2
  show FtP _ _ _ v
  cases er:(jJ os).R d.nm with
  |lost w=>
   rw[er]at f2;obtain⟨l,a,b,c⟩:=f2;have hl:=(yx.mp ((x3.trans x4) _ _ c)).1;exact⟨l,a,⟨by omega,hl⟩,Ext.app _ _ _ _ ((x3.trans x4) _ _ c)⟩
  |idle=>rw[er]at f2;exact f2
  |outd y=>rw[er]at f2;exact f2
  |stands=>rw[er]at f2;exact f2
def fJ(M:Md)(x:Nm):Option PV:=(fnd M x).map λr=>.tup [.str r.kd,obN r.hd]
theorem Nh{q:Nm}:vEq (pv p) (pv q) h=.ok (.bl (decide (p=q))) h:=by
 rw[lO (Am (n:=39)) (Am (n:=39))]
 congr 2
 rw[decide_eq_decide];exact⟨mM,λe=>by rw[e]⟩
theorem nNM:¬ (zg "none")=zg "map" := by decide +kernel
theorem nNR:¬ (zg "none")=zg "row" := by decide +kernel
theorem Cn(T:mN M)(t:Tb h lm c (fJ M)){A:List PV}(i2:atI A 2=some (pv ho))(i3:atI A 3=some (spP sp)):yS [.ref lm,.tup A] h=.ok (.bl (bN M ho sp)) h:=by
 have w:(yS [.ref lm,.tup A] h).W λq h'=>q=.bl (bN M ho sp)/\h'=h:=by
  refine bR ?_;unfold Bu;rw[aC];simp;refine now ?_;rw[aC,aY];have hh:cB (pv ho) (.ref lm) h=.ok (.bl (fJ M ho).isSome) h:=t.hasN ho;have fin:∀(E:FE)(kd:Str),E.rt (.bl (bN M ho sp)) h->(gQ M ho=.str kd\/(gQ M ho=.non/\kd="none"))->Lt (aE (aV (aK (mCB pE (aA (aB vAt (mV 1) (mC (.int 3))) (aA (mC (.ty "str")) aD)))) (aU (aB vEq (mV 2) (mC (.str "map")))) bA) (aU (aB vEq (mV 2) (mC (.str "row"))))) E [some (.ref lm),some (.tup A),some (.str kd)] h:=λE kd hE hk=>by
   refine now ?_;rw[aC,aY];unfold bN at hE;cases sp with
   |key z=>
    simp[i3,spP,known,gH];have:decide (gQ M ho=.str "map")=decide (kd="map"):=by
     rcases hk with e|⟨e,rfl⟩
     ·rw[e];simp
     ·rw[e];simp[nNM]
    rw[<-this];exact hE
   |place u s=>
    simp[i3,spP,known,gH];refine now ?_;simp;have:decide (gQ M ho=.str "row")=decide (kd="row"):=by
     rcases hk with e|⟨e,rfl⟩
     ·rw[e];simp
     ·rw[e];simp[nNR]
    rw[<-this];exact hE
  by_cases e:ho=root
  ·subst e;have e0:(fJ M root).isSome=false:=by unfold fJ;rw[T.rt];rfl
   rw[e0]at hh;simp[i2,yX];refine now ?_;rw[aC,aY];simp[i2,hh];exact fin _ "map" ⟨rfl,rfl⟩ (.inl (by unfold gQ;rw[if_pos rfl]))
  ·simp[i2,yX,e];refine now ?_;rw[aC,aY];cases e2:fnd M ho with
   |none=>
    have e0:(fJ M ho).isSome=false:=by unfold fJ;rw[e2];rfl
    rw[e0]at hh;simp[i2,hh];exact fin _ "none" ⟨rfl,rfl⟩ (.inr ⟨by unfold gQ;rw[if_neg e,e2],rfl⟩)
   |some r=>
    have e1:fJ M ho=some (.tup [.str r.kd,obN r.hd]):=by unfold fJ;rw[e2];rfl
    have e3:=t.at' e1;rw[e1]at hh;simp[i2,hh,e3];exact fin _ r.kd ⟨rfl,rfl⟩ (.inl (by unfold gQ;rw[if_neg e,e2]))
 obtain⟨q,h',e,rfl,rfl⟩:=hW w;exact e
theorem nDM:¬ (zg "drop")=zg "make" := by decide +kernel
theorem nMM:¬ (zg "move")=zg "make" := by decide +kernel
theorem nMD:¬ (zg "make")=zg "drop" := by decide +kernel
theorem nVD:¬ (zg "move")=zg "drop" := by decide +kernel
theorem nMV:¬ (zg "make")=zg "move" := by decide +kernel
theorem nDV:¬ (zg "drop")=zg "move" := by decide +kernel
theorem neP(x y:Str)(h:PH):sR (.str x) (.str y) h=.ok (.bl (!decide (x=y))) h:=by
 show Rs.ok (PV.bl (!decide (V.str x=V.str y))) h=_
 simp
theorem Ih(T:mN M)(t:Tb h lm c (fJ M))(a:Act):tT [.ref lm,.tup (aI a)] h=.ok (.bl (idB M a)) h:=by
 have hn:∀th,bK (pv th) (.ref lm) h=.ok (.bl (!(fnd M th).isSome)) h:=λth=>by
  have:=t.hasNot th;unfold fJ at this;rw[Qk]at this;exact this
 have w:(tT [.ref lm,.tup (aI a)] h).W λq h'=>q=.bl (idB M a)/\h'=h:=by
  refine bR ?_;unfold Bv idB;rw[aC,aY];cases a with
  |make kd ho sp=>
   have i0:atI (aI (.make kd ho sp)) 0=some (.str "make"):=aR (i:=0) rfl;have ef:=Cn T t (A:=aI (.make kd ho sp)) (ho:=ho) (sp:=sp) (aR (i:=2) rfl) (aR (i:=3) rfl);generalize aI (.make kd ho sp)=A at i0 ef;simp[i0,neP];refine now ?_;simp[i0,neP,nMD,ef]
  |move th ho sp=>
   have i0:atI (aI (.move th ho sp)) 0=some (.str "move"):=aR (i:=0) rfl;have i1:atI (aI (.move th ho sp)) 1=some (pv th):=aR (i:=1) rfl;have ef:=Cn T t (A:=aI (.move th ho sp)) (ho:=ho) (sp:=sp) (aR (i:=2) rfl) (aR (i:=3) rfl);generalize aI (.move th ho sp)=A at i0 i1 ef;cases e:(fnd M th).isSome with
   |false=>simp[i0,i1,neP,nMM,hn,e]
   |true=>
    simp[i0,i1,neP,nMM,hn,e];refine now ?_;simp[i0,neP,nVD,ef]
  |drop th=>
   have i0:atI (aI (.drop th)) 0=some (.str "drop"):=aR (i:=0) rfl;have i1:atI (aI (.drop th)) 1=some (pv th):=aR (i:=1) rfl;generalize aI (.drop th)=A at i0 i1;cases e:(fnd M th).isSome with
   |false=>simp[i0,i1,neP,nDM,hn,e]
   |true=>
    simp[i0,i1,neP,nDM,hn,e];refine now ?_;simp[i0,neP]
 obtain⟨q,h',e,rfl,rfl⟩:=hW w;exact e
def WY(M:Md)(g:Nm->Nat)(lm:Nat)(h:PH)(p q:Nm)(m:Nat)(δ:Ev)(h':PH):Prop:=∃u way,m=vr M g u/\Ext h h'/\h'[h.length]?=some (.lst (way.map pv))/\way.length+m<=M.length+1/\
 cG M p (m+1) u way=fX M p q/\δ=[some (.ref lm),some (pv p),some (obN u),some (.ref h.length)]
theorem FZ(hM:gX M)(hl:M.length<=1000)(t:Tb h lm c (fJ M))(hp:(fnd M p).isSome=true)(q:Nm)(k:∀l h',Ext h h'->h.length<=l->h'[l]?=some (.lst ((fX M p q).map pv))->Q (.ref l) h'):(Cb [.ref lm,pv p,pv q] h).W Q:=by
 obtain⟨g,hg,hb⟩:=small hM;refine bR ?_;unfold Fu;rw[aC];simp;have x0:Ext h (h++[MO.lst []]):=Ext.app _ _;have g0:(h++[MO.lst []])[h.length]?=some (.lst (([]:List Nm).map pv)):=aF;generalize h++[MO.lst []]=hA at x0 g0;refine now ?_;rw[aC];have hv:=Cj hb (some q);refine Ce (WY M g lm h p q) ?_ 1000000 (vr M g (some q)) (by omega) _ _ ⟨some q,[],rfl,x0,g0,by simp;omega,Az hM hg hb p q,rfl⟩;rintro m δ h' ⟨u,way,rfl,x,gw,lw,er,rfl⟩;cases u with
 |none=>
  have nn:fH (obN none) .non h'=.ok (.bl false) h':=rfl;simp[nn];refine now ?_;simp;have e0:fX M p q=[]:=er.symm;have:=k h'.length (h'++[MO.lst []]) (x.trans (Ext.app _ _)) x.len (by rw[e0];exact aF);exact this
 |some z=>
  have nn:fH (obN (some z)) .non h'=.ok (.bl true) h':=rfl;simp[nn];unfold yT;rw[aC];have ap:=eO (p:=pv z) gw (by rw[za];omega);rw[show way.map pv++[pv z]=(way++[z]).map pv by simp]at ap;have ia:onL bM (.ref h.length) [obN (some z)] h'=.ok .non (h'.set h.length (.lst ((way++[z]).map pv))):=ap;have x1:Ext h (h'.set h.length (.lst ((way++[z]).map pv))):=kK x;have g1:=bV (o':=MO.lst ((way++[z]).map pv)) gw;generalize h'.set h.length (.lst ((way++[z]).map pv))=h2 at x1 g1 ia;have t2:=t.ext x1;simp[iL gw,ia];refine now ?_;rw[aC,aY];have ev:vEq (obN (some z)) (pv p) h2=.ok (.bl (decide (z=p))) h2:=Nh;have hn:bK (obN (some z)) (.ref lm) h2=.ok (.bl (!(fJ M z).isSome)) h2:=t2.hasNot z;have cb:(match fnd M z with|none=>[]|some r=>if z=p then way++[z] else cG M p (vr M g (some z)) r.hd (way++[z]))=fX M p q:=er
  simp[ev]
  by_cases ez:z=p
  ·rw[if_pos ez];obtain⟨r,hr⟩:=QV.mp hp;rw[ez,hr]at cb;simp only[if_true]at cb;exact k h.length h2 x1 (zb _) (by rw[<-cb,<-ez];exact g1)
  ·rw[if_neg ez];refine now ?_;rw[aC,aY];cases e2:fnd M z with
   |none=>
    have e0:(fJ M z).isSome=false:=by unfold fJ;rw[e2];rfl
    rw[e0]at hn;rw[e2]at cb;have cb:[]=fX M p q:=cb;simp[hn];have:=k h2.length (h2++[MO.lst []]) (x1.trans (Ext.app _ _)) x1.len (by rw[<-cb];exact aF);exact this
   |some r=>
    have e1:fJ M z=some (.tup [.str r.kd,obN r.hd]):=by unfold fJ;rw[e2];rfl
    rw[e1]at hn;rw[e2]at cb;have cb:(if z=p then way++[z] else cG M p (vr M g (some z)) r.hd (way++[z]))=fX M p q:=cb;rw[if_neg ez]at cb;have ea:vAt (.ref lm) (obN (some z)) h2=.ok (.tup [.str r.kd,obN r.hd]) h2:=t2.at' e1;have vz:=tX hg e2;simp[hn];refine now ?_;simp[ea];refine⟨vr M g r.hd,vz,r.hd,way++[z],rfl,x1,g1,by simp;omega,?_,rfl⟩;rw[<-cb];exact kL hg (by omega) vz
noncomputable def dT:Ms:=
 (aE (aV (aK (aB cB (mV 7) (mV 3)))
   (aZ (aX (aA (mC (.str "outdone")) (aA (mV 4) aD))) (mV 2) (aB vAt (mV 3) (mV 7)))
   bA)
  (aE (aZ (mV 4) (mV 3) (mV 7))
  (aE (aZ (aX (aA (mV 8) (aA (mC .non) aD))) (mV 1) (mV 7))
  (aV (aK (aB sR (aB vAt (mV 6) (mC (.int 0))) (mC (.str "drop"))))
   (aZ (aX (aA (mV 8) (aA (aB vAt (mV 6) (mC (.int 2))) aD))) (mV 1) (mV 7))
   bA))))
noncomputable def dS:Ms:=
  (aE (aO 9 (eI aD))
  (aE (aV (aK (aB vEq (aB vAt (mV 6) (mC (.int 0))) (mC (.str "move"))))
   (aO 9 (aS 3 Cb (aA (mV 1) (aA (mV 7) (aA (aB vAt (mV 6) (mC (.int 2))) aD)))))
   bA)
  (aE (aZ (aX (aA (mC (.str "stands")) aD)) (mV 2) (mV 4))
  (aE (aV (aK (aB pK (mV 9) (eI aD)))
   (aE (aZ (aX (aA (mC (.str "lost")) (aA (mV 9) aD))) (mV 2) (mV 4))
   xO)
   bA)
  dT))))
def owP(P:Nm->Option Nm)(D:Nm->Option PV)(th nm:Nm):Nm->Option PV:=match P th with
 |some p=>upN D p (AA (pv nm))
 |none=>D
theorem rN(f:Nm->Option PV)(x:Nm)(v w:PV):upN (upN f x v) x w=upN f x w:=by
 funext y
 show(if y=x then some w else if y=x then some v else f y)=if y=x then some w else f y
 split <;> rfl
variable{fM:Nm->Option PV}{u:Option Nm}{w:Str}{x0:Option PV}
theorem Ni(x:Ext h h'){P:Nm->Option Nm}{D:Nm->Option PV}(tm:Tb h' h.length c fM)(td:Tb h' (h.length+1) c D)(tl:Tb h' (h.length+2) c λx=>(P x).map pv)(hc:c<=900){A:List PV}(i0:atI A 0=some (.str w))(hu:(w="drop" /\ u=none)\/(w≠"drop" /\ ∃ho,u=some ho/\atI A 2=some (pv ho)))(k:∀h2,Ext h h2->(∀(i:Nat) o,h.length+2<i->h'[i]?=some o->h2[i]?=some o)->Tb h2 h.length (c+2) (upN fM th (.tup [.str kd,obN u]))->Tb h2 (h.length+1) (c+2) (owP P D th nm)->Tb h2 (h.length+2) (c+2) (λx=>(upF P th (some nm) x).map pv)->E.nx [x0,some (.ref h.length),some (.ref (h.length+1)),some (.ref (h.length+2)),some (pv nm),x5,some (.tup A),some (pv th),some (.str kd),x9] h2):
  (dT [x0,some (.ref h.length),some (.ref (h.length+1)),some (.ref (h.length+2)),some (pv nm),x5,some (.tup A),some (pv th),some (.str kd),x9] h').W E:=by
 unfold dT;rw[aC];have rest:∀(h1:PH)(D1:Nm->Option PV),Ext h h1->(∀(i:Nat) o,h.length+2<i->h'[i]?=some o->h1[i]?=some o)->Tb h1 h.length c fM->Tb h1 (h.length+1) (c+1) D1->Tb h1 (h.length+2) c (λx=>(P x).map pv)->D1=owP P D th nm->Lt (aE (aZ (mV 4) (mV 3) (mV 7)) (aE (aZ (aX (aA (mV 8) (aA (mC .non) aD))) (mV 1) (mV 7)) (aV (aK (aB sR (aB vAt (mV 6) (mC (.int 0))) (mC (.str "drop")))) (aZ (aX (aA (mV 8) (aA (aB vAt (mV 6) (mC (.int 2))) aD))) (mV 1) (mV 7)) bA))) E [x0,some (.ref h.length),some (.ref (h.length+1)),some (.ref (h.length+2)),some (pv nm),x5,some (.tup A),some (pv th),some (.str kd),x9] h1:=by
  rintro h1 D1 x1 f1 tm td tl rfl;refine now ?_;rw[aC];obtain⟨o,hp,ql⟩:=tl.put (by omega) th (pv nm);simp;refine⟨_,hp,now ?_⟩;have eP:upN (λx=>(P x).map pv) th (pv nm)=λx=>(upF P th (some nm) x).map pv:=by
   funext y
   show(if y=th then some (pv nm) else(P y).map pv)=(if y=th then some nm else P y).map pv
   split <;> rfl
  rw[eP]at ql;have x2:Ext h (h1.set (h.length+2) o):=x1.setN (by omega);have f2:∀(i:Nat) ob,h.length+2<i->h'[i]?=some ob->(h1.set (h.length+2) o)[i]?=some ob:=λi ob hi e=>aG (f1 i ob hi e) (by omega);have tu:Tb (h1.set (h.length+2) o) h.length c fM:=tm.keep λob e=>aG e (by omega);have kh:Tb (h1.set (h.length+2) o) (h.length+1) (c+1) (owP P D th nm):=td.keep λob e=>aG e (by omega);generalize h1.set (h.length+2) o=h2 at ql x2 f2 tu kh;rw[aC];obtain⟨o,hp,m8⟩:=tu.put (by omega) th (.tup [.str kd,.non]);simp;refine⟨_,hp,now ?_⟩;have x3:Ext h (h2.set h.length o):=x2.setN (by omega);have f3:∀(i:Nat) ob,h.length+2<i->h'[i]?=some ob->(h2.set h.length o)[i]?=some ob:=λi ob hi e=>aG (f2 i ob hi e) (by omega);have mn:Tb (h2.set h.length o) (h.length+2) (c+1) _:=ql.keep λob e=>aG e (by omega);have lg:Tb (h2.set h.length o) (h.length+1) (c+1) (owP P D th nm):=kh.keep λob e=>aG e (by omega);generalize h2.set h.length o=h3 at m8 x3 f3 mn lg;rw[aY];rcases hu with⟨rfl,rfl⟩|⟨nw,ho,rfl,i2⟩
  ·simp[i0,neP];exact k _ x3 f3 (m8.more (by omega)) (lg.more (by omega)) (mn.more (by omega))
  ·obtain⟨o,hp,vb⟩:=m8.put (by omega) th (.tup [.str kd,pv ho]);rw[rN]at vb;simp[i0,neP,nw,i2];exact⟨_,hp,k _ (x3.setN (by omega)) (λi ob hi e=>aG (f3 i ob hi e) (by omega)) vb ((lg.keep λob e=>aG e (by omega)).more (by omega)) ((mn.keep λob e=>aG e (by omega)).more (by omega))⟩
 rw[aY];have hh:cB (pv th) (.ref (h.length+2)) h'=.ok (.bl ((P th).map pv).isSome) h':=tl.hasN th;cases e:P th with
 |none=>
  rw[e]at hh;simp[hh];exact rest h' D x (λ_ _ _ e=>e) tm (td.more (Qv _)) tl (by unfold owP;rw[e])
 |some p=>
  rw[e]at hh;have ha:vAt (.ref (h.length+2)) (pv th) h'=.ok (pv p) h':=tl.at' (by rw[e];rfl);obtain⟨o,hp,j5⟩:=td.put (by omega) p (AA (pv nm));have cj:eK (.ref (h.length+1)) (pv p) (.tup [.str "outdone",pv nm]) h'=some (h'.set (h.length+1) o):=hp;simp[hh,ha];exact⟨_,cj,rest _ _ (x.setN (by omega)) (λi ob hi e=>aG e (by omega)) (tm.keep λob e=>aG e (by omega)) j5 (tl.keep λob e=>aG e (by omega)) (by unfold owP;rw[e])⟩
structure DI(h:PH)(s:Gs)(P:List Nm)(q:Nat)(h':PH):Prop where
 x:Ext h h'
 m:Tb h' h.length (5*q) (fJ s.M)
 d:∃D,Tb h' (h.length+1) (5*q) D/\∀x∈P,∃v,D x=some v/\FtP h' (λi=>h.length+2<i) (s.R x) v
 l:Tb h' (h.length+2) (5*q) λx=>(s.P x).map pv
theorem G0(M:Md)(th:Nm)(r:Rc):fJ (cN M th r)=upN (fJ M) th (.tup [.str r.kd,obN r.hd]):=by
 funext y
 show(fnd (cN M th r) y).map _=if y=th then _ else(fnd M y).map _
 rw[cZ];split <;> rfl
variable{ys:List PV}
theorem uE{a:Nat}(g1:h[a]?=some (.lst xs))(g2:h[b]?=some (.lst ys))(hx:xs.all (PV.pl 39)=true)(hy:ys.all (PV.pl 39)=true):pK (.ref a) (.ref b) h=.ok (.bl (!decide (xs=ys))) h:=by
 unfold pK eqF;rw[nR g1 g2 hx hy];rfl
theorem BB(L:List Nm):(L.map pv).all (PV.pl 39)=true:=by
 rw[zp];intro y hy;obtain⟨t,_,rfl⟩:=z9.mp hy;rfl
variable{x1 x3:Option PV}
theorem Ii{D:Nm->Option PV}{lw:Nat}(x:Ext h h1)(td:Tb h1 (h.length+1) c D)(hc:c<=900)(gw:h1[lw]?=some (.lst []))(hw:h.length+2<lw)(k:∀h2 o,h2=h1.set (h.length+1) o++[.lst []]->Tb h2 (h.length+1) (c+1) (upN D nm (.tup [.str "stands"]))->(dT [x0,x1,some (.ref (h.length+1)),x3,some (pv nm),x5,x6,x7,x8,some (.ref lw)] h2).W E):
  (aE (aZ (aX (aA (mC (.str "stands")) aD)) (mV 2) (mV 4)) (aE (aV (aK (aB pK (mV 9) (eI aD))) (aE (aZ (aX (aA (mC (.str "lost")) (aA (mV 9) aD))) (mV 2) (mV 4)) xO) bA) dT) [x0,x1,some (.ref (h.length+1)),x3,some (pv nm),x5,x6,x7,x8,some (.ref lw)] h1).W E:=by
 rw[aC];obtain⟨o,hp,t2⟩:=td.put (by omega) nm (.tup [.str "stands"]);simp;refine⟨_,hp,now ?_⟩;rw[aC,aY];have g2:(h1.set (h.length+1) o)[lw]?=some (.lst []):=aG gw (by omega);have kk:=k _ o rfl (t2.ext (Ext.app _ _));have e1:=uE (Ext.app _ [MO.lst []] _ _ g2) aF rfl rfl;generalize h1.set (h.length+1) o=h2 at g2 kk e1;have o6:pK (.ref lw) (.ref h2.length) (h2++[MO.lst []])=.ok (.bl false) (h2++[MO.lst []]):=e1;simp[o6];exact now kk
theorem Ij:rH=aE (aZ (aX (aA (mC (.str "idle")) aD)) (mV 2) (mV 4))
  (aE (aV (aK (aS 2 tT (aA (mV 1) (aA (mV 6) aD)))) xO bA)
  (aE (aO 7 (aB vAt (mV 6) (mC (.int 1))))
  (aE (aO 8 (aB vAt (mV 6) (mC (.int 1))))
  (aE (aV (aK (aB vEq (aB vAt (mV 6) (mC (.int 0))) (mC (.str "make"))))
   (aO 7 (mV 4))
   (aO 8 (aB vAt (aB vAt (mV 1) (mV 7)) (mC (.int 0))))) dS)))):=rfl
theorem DI.done{q:Nat}(G:GI s P)(hn:nm∉P){D:Nm->Option PV}(x:Ext h h2)(tm:Tb h2 h.length (5*q+4) (upN (fJ s.M) th (.tup [.str r.kd,obN r.hd])))(td:Tb h2 (h.length+1) (5*q+4) (owP s.P (upN D nm (.tup [.str "stands"])) th nm))(tl:Tb h2 (h.length+2) (5*q+4) (λx=>(upF s.P th (some nm) x).map pv))(hD:∀x∈P,∃v,D x=some v/\FtP h2 (λi=>h.length+2<i) (s.R x) v):DI h ⟨cN s.M th r,s.L,upF s.P th (some nm),outF s.P s.R th nm⟩ (P++[nm]) (q+1) h2:=by
 refine⟨x,(by rw[G0];exact tm.more (by omega)),⟨_,td.more (by omega),λy hy=>?_⟩,tl.more (by omega)⟩;have ne:∀p,s.P th=some p->nm≠p:=λp e z=>hn (z▸G.pv th p e)
 show ∃v,owP s.P (upN D nm (.tup [.str "stands"])) th nm y=some v/\FtP h2 _ (outF s.P s.R th nm y) v
 have base:∃v,upN D nm (.tup [.str "stands"]) y=some v/\FtP h2 (λi=>h.length+2<i) (s.R y) v:=by
  show ∃v,(if y=nm then some _ else D y)=some v/\_
  rcases OZ.mp hy with h|h
  ·rw[if_neg (λz:y=nm=>hn (z▸h))];exact hD y h
  ·have h:=OY.mp h;rw[if_pos h,h,G.st nm hn];exact⟨_,rfl,rfl⟩
 unfold owP outF;cases e:s.P th with
 |none=>exact base
 |some p=>
  show ∃v,(if y=p then some _ else upN D nm _ y)=some v/\FtP h2 _ (if y=p then _ else s.R y) v
  by_cases z:y=p
  ·rw[if_pos z,if_pos z];exact⟨_,rfl,rfl⟩
  ·rw[if_neg z,if_neg z];exact base
theorem DI.said{q:Nat}(hn:nm∉P){D:Nm->Option PV}{r:Ft}(x:Ext h h2)(tm:Tb h2 h.length (5*q) (fJ s.M))(td:Tb h2 (h.length+1) (5*q+4) (upN D nm v))(tl:Tb h2 (h.length+2) (5*q) (λx=>(s.P x).map pv))(hD:∀x∈P,∃v,D x=some v/\FtP h2 (λi=>h.length+2<i) (s.R x) v)(hv:FtP h2 (λi=>h.length+2<i) r v):DI h ⟨s.M,L,s.P,upF s.R nm r⟩ (P++[nm]) (q+1) h2:=by
 refine⟨x,tm.more (by omega),⟨_,td.more (by omega),λy hy=>?_⟩,tl.more (by omega)⟩
 show ∃v',(if y=nm then some v else D y)=some v'/\FtP h2 _ (if y=nm then r else s.R y) v'
 rcases OZ.mp hy with h|h
 ·have z:¬ y=nm:=λz=>hn (z▸h);rw[if_neg z,if_neg z];exact hD y h
 ·have h:=OY.mp h;rw[if_pos h,if_pos h];exact⟨_,rfl,hv⟩
theorem G1{q:Nat}(p:DI h s P q h')(G:GI s P)(hq:q<=50)(hP:P.length=q)(a:Act)(hn:nm∉P)(kn:∀x7 x8 x9 h2,DI h (gst s nm a) (P++[nm]) (q+1) h2->E.nx [x0,some (.ref h.length),some (.ref (h.length+1)),some (.ref (h.length+2)),some (pv nm),x5,some (.tup (aI a)),x7,x8,x9] h2)(kc:∀x7 x8 x9 h2,DI h (gst s nm a) (P++[nm]) (q+1) h2->E.ct [x0,some (.ref h.length),some (.ref (h.length+1)),some (.ref (h.length+2)),some (pv nm),x5,some (.tup (aI a)),x7,x8,x9] h2):
  (rH [x0,some (.ref h.length),some (.ref (h.length+1)),some (.ref (h.length+2)),some (pv nm),x5,some (.tup (aI a)),x7,x8,x9] h').W E:=by
 obtain⟨x,tm,⟨D,td,hD⟩,tl⟩:=p;have lM:=G.lM;rw[Ij,aC];obtain⟨o,hp,j5⟩:=td.put (by omega) nm (.tup [.str "idle"]);simp;refine⟨_,hp,now ?_⟩;have x1:Ext h (h'.set (h.length+1) o):=x.setN (by omega);have fj:Tb (h'.set (h.length+1) o) h.length (5*q) (fJ s.M):=tm.keep λob e=>aG e (by omega);have iw:Tb (h'.set (h.length+1) o) (h.length+2) (5*q) (λx=>(s.P x).map pv):=tl.keep λob e=>aG e (by omega);have oo:∀x∈P,∃v,D x=some v/\FtP (h'.set (h.length+1) o) (λi=>h.length+2<i) (s.R x) v:=λx hx=>let ⟨v,a,b⟩:=hD x hx;⟨v,a,b.keep (λi ob hi e=>aG e (by omega)) λ_ z=>z⟩;generalize h'.set (h.length+1) o=h1 at j5 x1 fj iw oo;have ltl:=iw.lt;rw[aC,aY];have ei:=Ih G.T fj a;have H:=iA s.M s.L nm a
 -- nothing is lost
 have go:∀(th:Nm)(r:Rc)(w:Str)(hh:PH)(lw:Nat)(x9:Option PV),atI (aI a) 0=some (.str w)->((w="drop" /\ r.hd=none)\/(w≠"drop" /\ ∃ho,r.hd=some ho/\atI (aI a) 2=some (pv ho)))->gst s nm a=⟨cN s.M th r,s.L,upF s.P th (some nm),outF s.P s.R th nm⟩->Ext h1 hh->hh[lw]?=some (.lst [])->h.length+2<lw->
   Lt (aE (aZ (aX (aA (mC (.str "stands")) aD)) (mV 2) (mV 4)) (aE (aV (aK (aB pK (mV 9) (eI aD))) (aE (aZ (aX (aA (mC (.str "lost")) (aA (mV 9) aD))) (mV 2) (mV 4)) xO) bA) dT)) E [x0,some (.ref h.length),some (.ref (h.length+1)),some (.ref (h.length+2)),some (pv nm),x5,some (.tup (aI a)),some (pv th),some (.str r.kd),some (.ref lw)] hh:=by
  intro th r w hh lw x9 i0 hu eg xh gw hlw;refine now ?_;rw[eg]at kn;refine Ii (x1.trans xh) (j5.ext xh) (by omega) gw hlw λh2 o e2 t2=>?_;rw[rN]at t2;have fr:∀(i:Nat) ob,i≠h.length+1->hh[i]?=some ob->h2[i]?=some ob:=λi ob hi e=>by rw[e2];exact Ext.app _ _ _ _ (aG e (PY hi))
  have x2:Ext h h2:=λi ob e=>fr i ob (by have:=(yx.mp e).1;omega) ((x1.trans xh) _ _ e);refine Ni x2 ((fj.keep (h':=h2) λob e=>fr _ _ (by omega) (xh _ _ e)).more (by omega:5*q<=5*q+2)) t2 ((iw.keep (h':=h2) λob e=>fr _ _ (by omega) (xh _ _ e)).more (by omega)) (by omega) i0 hu λh3 x3 f3 m8 lg mn=>kn _ _ _ _ (DI.done G hn x3 m8 lg mn λy hy=>let ⟨v,a,b⟩:=oo y hy;⟨v,a,b.keep (λi ob hi e=>f3 _ _ hi (fr _ _ (by omega) (xh _ _ e))) λ_ z=>z⟩)
 cases H with
 |idle e qq=>
  rw[qq]at ei;rw[uB e]at kc;generalize aI a=A at ei kc;simp[ei];exact kc _ _ _ _ (DI.said hn x1 fj (j5.more (by omega)) iw oo rfl)
 | @make kd ho sp ft e=>
  have eb:idB s.M (.make kd ho sp)=false:=by show(!bN s.M ho sp)=false;rw[ft];rfl
  have i0:atI (aI (.make kd ho sp)) 0=some (.str "make"):=aR (i:=0) rfl;have i1:atI (aI (.make kd ho sp)) 1=some (.str kd):=aR (i:=1) rfl;have gg:=λhh lw x9=>go nm ⟨kd,some ho,cO sp nm⟩ "make" hh lw x9 i0 (.inr ⟨nMD,ho,rfl,aR (i:=2) rfl⟩) (fY e);rw[eb]at ei;generalize aI (.make kd ho sp)=A at ei i0 i1 gg;simp[ei];refine now ?_;rw[aC];simp[i1];refine now ?_;rw[aC];simp[i1];refine now ?_;rw[aC,aY];simp[i0];refine now ?_;unfold dS;rw[aC];simp;refine now ?_;rw[aC,aY];simp[i0,nMV];exact gg _ _ none (Ext.app _ _) aF (by omega)
 | @drop th r f e=>
  have eb:idB s.M (.drop th)=false:=by show(!(fnd s.M th).isSome)=false;rw[f];rfl
  have i0:atI (aI (.drop th)) 0=some (.str "drop"):=aR (i:=0) rfl;have i1:atI (aI (.drop th)) 1=some (pv th):=aR (i:=1) rfl;have gg:=λhh lw x9=>go th ⟨r.kd,none,.non⟩ "drop" hh lw x9 i0 (.inl ⟨rfl,rfl⟩) (fY e);have ea:vAt (.ref h.length) (pv th) h1=.ok (.tup [.str r.kd,obN r.hd]) h1:=fj.at' (by unfold fJ;rw[f];rfl);rw[eb]at ei;generalize aI (.drop th)=A at ei i0 i1 gg;simp[ei];refine now ?_;rw[aC];simp[i1];refine now ?_;rw[aC];simp[i1];refine now ?_;rw[aC,aY];simp[i0,nDM,ea];refine now ?_;unfold dS;rw[aC];simp;refine now ?_;rw[aC,aY];simp[i0,nDV];exact gg _ _ none (Ext.app _ _) aF (by omega)
 | @move th ho sp r f ft on e=>
  have eb:idB s.M (.move th ho sp)=false:=by show(!(fnd s.M th).isSome || !bN s.M ho sp)=false;rw[f,ft];rfl
  have i0:atI (aI (.move th ho sp)) 0=some (.str "move"):=aR (i:=0) rfl;have i1:atI (aI (.move th ho sp)) 1=some (pv th):=aR (i:=1) rfl;have i2:atI (aI (.move th ho sp)) 2=some (pv ho):=aR (i:=2) rfl;have gg:=λhh lw x9=>go th ⟨r.kd,some ho,cO sp nm⟩ "move" hh lw x9 i0 (.inr ⟨nVD,ho,rfl,i2⟩) (fY e);have ea:vAt (.ref h.length) (pv th) h1=.ok (.tup [.str r.kd,obN r.hd]) h1:=fj.at' (by unfold fJ;rw[f];rfl);rw[eb]at ei;generalize aI (.move th ho sp)=A at ei i0 i1 i2 gg;simp[ei];refine now ?_;rw[aC];simp[i1];refine now ?_;rw[aC];simp[i1];refine now ?_;rw[aC,aY];simp[i0,nMM,ea];refine now ?_;unfold dS;rw[aC];simp;refine now ?_;rw[aC,aY];simp[i0,i2];have y1:Ext h1 (h1++[MO.lst []]):=Ext.app _ _;refine FZ G.T.nr (by omega) (fj.ext y1) (by rw[f];rfl) ho λlw h2 x2 b2 g2=>?_;rw[(wL G.T.nr th ho).mpr on]at g2;simp at b2;exact gg _ _ none (y1.trans x2) g2 (by omega)
 | @lost th ho sp r f ft on e=>
  have eb:idB s.M (.move th ho sp)=false:=by show(!(fnd s.M th).isSome || !bN s.M ho sp)=false;rw[f,ft];rfl
  have i0:atI (aI (.move th ho sp)) 0=some (.str "move"):=aR (i:=0) rfl;have i1:atI (aI (.move th ho sp)) 1=some (pv th):=aR (i:=1) rfl;have i2:atI (aI (.move th ho sp)) 2=some (pv ho):=aR (i:=2) rfl;have ea:vAt (.ref h.length) (pv th) h1=.ok (.tup [.str r.kd,obN r.hd]) h1:=fj.at' (by unfold fJ;rw[f];rfl);rw[eb]at ei;rw[uC e]at kc;have kc:∀x7 x8 x9 h2,DI h ⟨s.M,s.L++[nm],s.P,upF s.R nm (.lost (fX s.M th ho))⟩ (P++[nm]) (q+1) h2->E.ct [x0,some (.ref h.length),some (.ref (h.length+1)),some (.ref (h.length+2)),some (pv nm),x5,some (.tup (aI (.move th ho sp))),x7,x8,x9] h2:=kc;generalize aI (.move th ho sp)=A at ei i0 i1 i2 kc;simp[ei];refine now ?_;rw[aC];simp[i1];refine now ?_;rw[aC];simp[i1];refine now ?_;rw[aC,aY];simp[i0,nMM,ea];refine now ?_;unfold dS;rw[aC];simp;refine now ?_;rw[aC,aY];simp[i0,i2];have y1:Ext h1 (h1++[MO.lst []]):=Ext.app _ _;refine FZ G.T.nr (by omega) (fj.ext y1) (by rw[f];rfl) ho λlw h2 x2 b2 g2=>?_;have hR:fX s.M th ho≠[]:=λz=>(wL G.T.nr th ho).mp z on;generalize fX s.M th ho=W at g2 hR kc;simp at b2;have o1:=y1.trans x2;obtain⟨o2,rm,kh⟩:=(j5.ext o1).put (by omega) nm (.tup [.str "stands"]);refine now ?_;rw[aC];simp;refine⟨_,rm,now ?_⟩;have g3:(h2.set (h.length+1) o2)[lw]?=some (.lst (W.map pv)):=aG g2 (by omega);have ki:∀(i:Nat) ob,i≠h.length+1->h1[i]?=some ob->(h2.set (h.length+1) o2)[i]?=some ob:=λi ob hi e=>aG (o1 _ _ e) (PY hi);generalize h2.set (h.length+1) o2=h3 at g3 ki kh;rw[aC,aY];have e1:=uE (Ext.app _ [MO.lst []] _ _ g3) aF (BB W) rfl;have nW:decide (W.map pv=[])=false:=decide_eq_false λz=>hR (RP.mp z);rw[nW]at e1;have y3:Ext h3 (h3++[MO.lst []]):=Ext.app _ _;obtain⟨o4,uf,qg⟩:=(kh.ext y3).put (by omega) nm (.tup [.str "lost",.ref lw]);rw[rN,rN]at qg;have g4:=y3 _ _ g3;simp[e1,aC];refine⟨_,uf,now ?_⟩;simp;generalize h3++[MO.lst []]=h4 at y3 e1 uf qg g4;have fr:∀(i:Nat) ob,i≠h.length+1->h1[i]?=some ob->(h4.set (h.length+1) o4)[i]?=some ob:=λi ob hi e=>aG (y3 _ _ (ki i ob hi e)) (PY hi);exact kc _ _ _ _ (DI.said hn (λi ob e=>fr i ob (by have:=(yx.mp e).1;omega) (x1 _ _ e)) (fj.keep λob e=>fr _ _ (by omega) e) (qg.more (by omega)) (iw.keep λob e=>fr _ _ (by omega) e) (λy hy=>let ⟨v,a,b⟩:=oo y hy;⟨v,a,b.keep (λi ob hi e=>fr _ _ (by omega) e) λ_ z=>z⟩) ⟨lw,rfl,by omega,aG g4 (by omega)⟩)
theorem KO(nd:(os.map (·.nm)).Nodup)(wf:∀d∈os,Wf d)(ln:os.length<=50)(g:h[n]?=some (.lst (os.map dP)))(k:∀ld c D h',Ext h h'->Tb h' ld c D->(∀d∈os,∃v,D d.nm=some v/\FtP h' (λi=>h.length<=i) ((jJ os).R d.nm) v)->Q (.ref ld) h'):(Fw [.ref n] h).W Q:=by
 refine bR ?_;unfold Fv;rw[aC];simp;refine now ?_;rw[aC];simp;refine now ?_;rw[aC];simp;have x0:Ext h (h++[MO.dK [],MO.dK [],MO.dK []]):=Ext.app _ _;have p0:DI h g0 [] 0 (h++[MO.dK [],MO.dK [],MO.dK []]):=⟨x0,Tb.nil (by simp),⟨_,Tb.nil (by simp),λx hx=>nomatch hx⟩,Tb.nil (by simp)⟩;generalize h++[MO.dK [],MO.dK [],MO.dK []]=hA at x0 p0;refine now ?_;rw[aC];refine iM (n:=n) (xs:=os.map dP) (h1:=hA) (λq δ h'=>DI h (jJ (os.take q)) ((os.take q).map (·.nm)) q h'/\∃x4 x5 x6 x7 x8 x9,δ=[some (.ref n),some (.ref h.length),some (.ref (h.length+1)),some (.ref (h.length+2)),x4,x5,x6,x7,x8,x9]) (by simp) (x0 _ _ g) ⟨p0,_,_,_,_,_,_,rfl⟩ (λq δ h' _ i=>i.1.x _ _ g) ?_ ?_
 ·rintro q y δ h' hy ⟨p,x4,x5,x6,x7,x8,x9,rfl⟩;rw[zo]at hy;obtain⟨d,hd,rfl⟩:=z6.mp hy;have hq:q<os.length:=(yx.mp hd).1;obtain⟨e1,hn⟩:=uD nd hd;have kk:∀x7 x8 x9 h2,DI h (gst (jJ (os.take q)) d.nm d.act) ((os.take q).map (·.nm)++[d.nm]) (q+1) h2->DI h (jJ (os.take (q+1))) ((os.take (q+1)).map (·.nm)) (q+1) h2/\∃y4 y5 y6 y7 y8 y9,([some (.ref n),some (.ref h.length),some (.ref (h.length+1)),some (.ref (h.length+2)),some (pv d.nm),some (sv d.seen),some (.tup (aI d.act)),x7,x8,x9]:Ev)=[some (.ref n),some (.ref h.length),some (.ref (h.length+1)),some (.ref (h.length+2)),y4,y5,y6,y7,y8,y9]:=λx7 x8 x9 h2 p2=>⟨by rw[e1,pX,Pq];exact p2,_,_,_,_,_,_,rfl⟩;refine⟨[some (.ref n),some (.ref h.length),some (.ref (h.length+1)),some (.ref (h.length+2)),some (pv d.nm),some (sv d.seen),some (.tup (aI d.act)),x7,x8,x9],by simp[dP],G1 p (FO nd wf q) (by omega) (by simp;omega) d.act hn kk kk⟩
 ·rintro δ h' ⟨p,x4,x5,x6,x7,x8,x9,rfl⟩;rw[za,Rb]at p;obtain⟨x,tm,⟨D,td,hD⟩,tl⟩:=p;refine now ?_;simp;exact k _ _ D _ x td λd hd=>let ⟨v,a,b⟩:=hD d.nm (z9.mpr ⟨d,hd,rfl⟩);⟨v,a,b.keep (λ_ _ _ e=>e) λi hi=>by omega⟩
def drawn(c k:Int):Int:=
 let n:=(c+7919*k+1)*48271%2147483647
 n*(n/1009+69621)%2147483647
theorem fZ(c k:Int):0<=drawn c k/\drawn c k<2147483647:=⟨Int.emod_nonneg _ (by decide),Int.emod_lt_of_pos _ (by decide)⟩
@[simp]theorem Nj(c k:Int)(h:PH):cF [.int c,.int k] h=.ok (.int (drawn c k)) h:=by
 simp(disch:=omega) [cF,mFn,yI,aE,aO,aU,drawn]
theorem Dy(z:Str):(Txt.slice z (some 1) none).length<=z.length:=by
 by_cases c:z.length=0
 ·have:z.cps.toList=[]:=List.eq_nil_of_length_eq_zero (by rw[len_list];exact c);obtain⟨⟨l⟩⟩:=z;have:l=[]:=this;subst this
  decide +kernel
 ·rw[<-len_list,Bw (by omega) (by omega),Q9,len_list];omega
def HI(c:Int)(h:PH)(q:Nat)(δ:Ev)(h':PH):Prop:=∃hs:List Str,Ext h h'/\h'[h.length]?=some (.lst (hs.map PV.str))/\hs.length=q/\∃x2 x3 x4 x5,δ=[some (.int c),some (.ref h.length),x2,x3,x4,x5]
theorem G2(c:Int)(h:PH)(Q:PV->PH->Prop)(k:∀(hs:List Str) l h',Ext h h'->h'[l]?=some (.lst (hs.map PV.str))->2<=hs.length->hs.length<=4->Q (.ref l) h'):(yK [.int c] h).W Q:=by
 refine bR ?_;unfold yJ;rw[aC];simp;have x0:Ext h (h++[MO.lst []]):=Ext.app _ _;have g0:(h++[MO.lst []])[h.length]?=some (.lst (([]:List Str).map PV.str)):=aF;generalize h++[MO.lst []]=hA at x0 g0;refine now ?_;rw[aC];refine EJ (j:=2+c%3) (HI c h) (by simp(disch:=omega)) (by omega) ⟨[],x0,g0,rfl,_,_,_,_,rfl⟩ ?_ ?_
 ·rintro q δ h' hq ⟨hs,x,g,lh,x2,x3,x4,x5,rfl⟩;unfold pN;rw[aC];simp;refine now ?_;rw[aC];have hd:=fZ c (50+q);refine EJ (j:=1+drawn c (50+q)%8) (λi δ h2=>h2=h'/\∃(w:Str)(x4:Option PV),w.length=i/\δ=[some (.int c),some (.ref h.length),some (.int q),some (.str w),x4,x5]) (by simp(disch:=omega)) (by omega) ⟨rfl,_,_,rfl,rfl⟩ ?_ ?_
  ·rintro i δ h2 hi ⟨rfl,w,x4,lw,rfl⟩;unfold pL;have hd2:=fZ c (60+9*q+i);have hc:=HM (i:=drawn c (60+9*q+i)%26) (by omega) (by omega);have hl:=wJ;have h1:(⟨#[97+(drawn c (60+9*q+i)%26).toNat]⟩:Str).length=1:=rfl;have hv:vIx (.str "abcdefghijklmnopqrstuvwxyz") (.int (drawn c (60+9*q+i)%26)) h2=.ok (.str ⟨#[97+(drawn c (60+9*q+i)%26).toNat]⟩) h2:=by
    show vIx (.str Fz) _ _=_
    rw[rA (by rw[wJ];omega),hc];rfl
   simp(disch:=omega) [-rA,hv];rw[FC];omega
  ·rintro δ h2 ⟨rfl,w,x4,lw,rfl⟩;refine now ?_;rw[aC];refine KD (x:="hijkl") (λi δ h3=>h3=h2/\∃(w:Str)(x5:Option PV),w.length<=8+i/\δ=[some (.int c),some (.ref h.length),some (.int q),some (.str w),x4,x5]) (by simp) (by decide +kernel) ⟨rfl,w,_,by omega,rfl⟩ ?_ ?_
   ·rintro i cc δ h3 hc ⟨rfl,w,x5,lw,rfl⟩;refine⟨_,rfl,?_⟩;have hi:i<5:=by
     have:=(yx.mp hc).1;have e5:(zg "hijkl").cps.toList.length=5:=by decide +kernel
     omega
    unfold pM;rw[aY];have al:(hs.map PV.str).all (PV.pl 39)=true:=by
     rw[zp];intro y hy;obtain⟨t,_,rfl⟩:=z9.mp hy;rfl
    have bj:=Hr (x:=.str w) g rfl al;have sl:=Dy w;have h1:(⟨#[cc]⟩:Str).length=1:=rfl;simp[EX g,bj];split
    ·simp(disch:=omega);rw[Str.length_append];omega
    ·omega
   ·rintro δ h3 ⟨rfl,w,x5,lw,rfl⟩;refine now ?_;have ap:=eO (p:=.str w) g (by rw[za];omega);rw[show hs.map PV.str++[.str w]=(hs++[w]).map PV.str by simp]at ap;simp[iL g];rw[ap,xQ];exact⟨hs++[w],kK x,bV g,by simp[lh],_,_,_,_,rfl⟩
 ·rintro δ h' ⟨hs,x,g,lh,x2,x3,x4,x5,rfl⟩;refine now ?_;obtain⟨zs,pz,ez⟩:=yD g (by omega);simp[ez];have:=pz.length_eq;exact k zs _ _ (x.trans (Ext.app _ _)) aF (by omega) (by omega)
theorem G3{α:Type}{xs:List α}{f:α->PV}(h:xs≠[]):∃x∈xs,atI (xs.map f) (i%(xs.length:Int))=some (f x):=by
 obtain⟨p,e,m⟩:=C0 (xs:=xs.map f) (i:=i) (by intro z;exact h (RP.mp z));obtain⟨x,hx,rfl⟩:=z9.mp m;rw[za]at e;exact⟨x,hx,e⟩
theorem Nk(S:Seen):(sv S).pl 38=true:=by
 show(S.map _).all (PV.pl 37)=true
 rw[zp];intro y hy;obtain⟨t,_,rfl⟩:=z9.mp hy;rfl
theorem KQ{ds:List Dd}(h:∀d∈ds,(aI d.act).all (PV.pl 37)=true):(ds.map dP).all (PV.pl 39)=true:=by
 rw[zp];intro y hy;obtain⟨d,hd,rfl⟩:=z9.mp hy;have h1:(PV.tup (aI d.act)).pl 38=true:=h d hd;have h2:(pv d.nm).pl 38=true:=rfl
 show[pv d.nm,sv d.seen,.tup (aI d.act)].all (PV.pl 38)=true
 simp[h1,h2,Nk]
def oK(d:Dd):Option Nm:=match d.act with
 |.make kd _ _=>if kd="choice" then none else some d.nm
 |_=>none
variable{ld:Nat}
theorem IU{ds:List Dd}(pl:∀d∈ds,(aI d.act).all (PV.pl 37)=true)(ln:ds.length<=100)(i:Int)(g:h[ld]?=some (.lst (ds.map dP)))(k:∀p h',Ext h h'->Q (pv p) h'):(yL [.ref ld,.int i] h).W Q:=by
 refine bR ?_;unfold Br;rw[aC];have hc:=hZ (js:=[none]) (tg:=gN 0) (tst:=nK (aK (aB vEq (aB vAt (aB vAt (mV 0) (mC (.int 2))) (mC (.int 0))) (mC (.str "make")))) (aK (aB sR (aB vAt (aB vAt (mV 0) (mC (.int 2))) (mC (.int 1))) (mC (.str "choice"))))) (elt:=aB vAt (mV 0) (mC (.int 0))) (m:=mV 0) (δ:=[some (.ref ld),some (.int i),none]) (h:=h) (h1:=h) (n:=ld) (ys:=ds) (emb:=dP) (λd=>(oK d).map pv) (by simp) g (by omega) (λd hd=>⟨[some (dP d)],by simp[gR],λh3 hx=>by
   unfold oK;cases e:d.act with
   |make kd ho sp=>
    have a0:atI (aI (.make kd ho sp)) 0=some (.str "make"):=aR (i:=0) rfl;have a1:atI (aI (.make kd ho sp)) 1=some (.str kd):=aR (i:=1) rfl;have e2:∀h,vIx (dP d) (.int 2) h=.ok (.tup (aI (.make kd ho sp))) h:=λh=>by rw[dP2,e]
    generalize aI (.make kd ho sp)=A at a0 a1 e2
    by_cases c:kd="choice"
    ·simp[e2,a0,a1,neP,c]
    ·simp[e2,a0,a1,neP,c,dP0]
   |move th ho sp=>
    have a0:atI (aI (.move th ho sp)) 0=some (.str "move"):=aR (i:=0) rfl;have e2:∀h,vIx (dP d) (.int 2) h=.ok (.tup (aI (.move th ho sp))) h:=λh=>by rw[dP2,e]
    generalize aI (.move th ho sp)=A at a0 e2;simp[e2,a0,nMM]
   |drop th=>
    have a0:atI (aI (.drop th)) 0=some (.str "drop"):=aR (i:=0) rfl;have e2:∀h,vIx (dP d) (.int 2) h=.ok (.tup (aI (.drop th))) h:=λh=>by rw[dP2,e]
    generalize aI (.drop th)=A at a0 e2;simp[e2,a0,nDM]⟩)
 have es:ds.filterMap (λd=>(oK d).map pv)=(ds.filterMap oK).map pv:=by rw[List.map_filterMap]
 rw[es]at hc;have lS:(ds.filterMap oK).length<=ds.length:=List.length_filterMap_le _ _;have xA:Ext h (h++[MO.lst ((ds.filterMap oK).map pv)]):=Ext.app _ _;have gS:(h++[MO.lst ((ds.filterMap oK).map pv)])[h.length]?=some (.lst ((ds.filterMap oK).map pv)):=aF;generalize ds.filterMap oK=S at hc lS xA gS;generalize h.length=lS' at hc gS;generalize h++[MO.lst (S.map pv)]=hA at hc xA gS;simp[hc];refine now ?_;rw[aC,aY];have gA:=xA _ _ g
 -- the rest
 have rest:∀h2,Ext hA h2->∀E:FE,(∀p h',Ext h2 h'->E.rt (pv p) h')->Lt (aE (aV (Bc (aK (aB vEq (aB fN (mV 1) (mC (.int 7))) (mC (.int 0)))) (aK (aB vEq (mV 0) (eI aD)))) (aU (aX (aA (mC (.str "")) (aA (mC (.int 0)) aD)))) bA)
   (aE (aV (aK (aB vEq (aB fN (mV 1) (mC (.int 7))) (mC (.int 1)))) (aU (aX (aA (aB vAt (aB vAt (aB vAt (mV 0) (mUn xM (mC (.int 1)))) (mC (.int 0))) (mC (.int 0))) (aA (aB bQ (aB vAt (aB vAt (aB vAt (mV 0) (mUn xM (mC (.int 1)))) (mC (.int 0))) (mC (.int 1))) (mC (.int 500))) aD)))) bA)
   (aU (aB vAt (aB vAt (mV 0) (aB fN (aB sJ (mV 1) (mC (.int 7))) (mCB sO (aA (mV 0) aD)))) (mC (.int 0)))))) E [some (.ref ld),some (.int i),some (.ref lS')] h2:=λh2 x2 E kk=>by
  have g2:=x2 _ _ gA;refine now ?_;rw[aC,aY]
  by_cases c0:i%7=0
  ·simp(disch:=omega) [c0];exact kk ("",0) _ (Ext.refl _)
  ·have eq:=Hs (Ext.app _ [MO.lst []] _ _ g2) aF (KQ pl) rfl
   by_cases c1:ds=[]
   ·rw[decide_eq_true (by rw[c1];rfl)]at eq;simp(disch:=omega) [c0,eq];exact kk ("",0) _ (Ext.app _ _)
   ·rw[decide_eq_false (λz=>c1 (RP.mp z))]at eq;simp(disch:=omega) [c0,eq];have x3:Ext h2 (h2++[MO.lst []]):=Ext.app _ _;have g3:=x3 _ _ g2;generalize h2++[MO.lst []]=h3 at x3 g3;refine now ?_;rw[aC,aY]
    by_cases c2:i%7=1
    ·obtain⟨r,d,e⟩:∃r d,ds=r++[d]:=⟨ds.dropLast,ds.getLast c1,(List.dropLast_concat_getLast c1).symm⟩;have ea:atI (ds.map dP) (-1)=some (dP d):=by rw[e,Pq];exact EI
     simp(disch:=omega) [c2,kG g3,ea,dP0,pv0,pv1];exact kk (d.nm.1,d.nm.2+500) _ x3
    ·simp(disch:=omega) [c2];refine now ?_;have ll:=jP g3;rw[za]at ll;have hp:(0:Int)<ds.length:=by have:=List.length_pos_iff.mpr c1;omega
     obtain⟨d,_,ed⟩:=G3 (xs:=ds) (f:=dP) (i:=i/7) c1;simp(disch:=omega) [ll,kG g3,ed,dP0];exact kk d.nm _ x3
 by_cases c:2<i%7
 ·have eq:=uE (Ext.app _ [MO.lst []] _ _ gS) aF (BB S) rfl;have x3:Ext hA (hA++[MO.lst []]):=Ext.app _ _
  by_cases c1:S=[]
  ·rw[decide_eq_true (by rw[c1];rfl)]at eq;simp(disch:=omega) [c,eq];exact rest _ x3 _ λp h' x=>k p h' (xA.trans (x3.trans x))
  ·rw[decide_eq_false (λz=>c1 (RP.mp z))]at eq;have mz:=x3 _ _ gS;have ll:=jP mz;rw[za]at ll;have hp:(0:Int)<S.length:=by have:=List.length_pos_iff.mpr c1;omega
   obtain⟨p,_,ed⟩:=G3 (xs:=S) (f:=pv) (i:=i/7) c1;simp(disch:=omega) [c,eq,ll,kG mz,ed];exact k p _ (xA.trans x3)
 ·simp(disch:=omega) [c];exact rest _ (Ext.refl _) _ λp h' x=>k p h' (xA.trans x)
theorem G4:(zg "dkmrtvz").cps.toList.length=7:=by decide +kernel
theorem Ik:(zg "dkmrtvz").length=7:=by decide +kernel
theorem Nl(i j:Int)(h:PH):Aj (.int i) (.int j) h=.ok (.bl (decide (i=j))) h:=by
 unfold Aj eqF;rw[rB rfl rfl]
 show Rs.ok (PV.bl (decide (PV.int i=PV.int j))) h=_
 simp
def KR(a:Act):Prop:=KdA a/\(aI a).all (PV.pl 37)=true
theorem KS{ds:List Dd}(pl:∀d∈ds,(aI d.act).all (PV.pl 37)=true)(ln:ds.length<=100)(c:Int)(g:h[ld]?=some (.lst (ds.map dP)))(k:∀a h',Ext h h'->KR a->Q (.tup (aI a)) h'):(Fs [.int c,.ref ld] h).W Q:=by
 refine bR ?_;unfold Fq;rw[aC];have d2:=fZ c 2;simp(disch:=omega);refine now ?_;rw[aC];simp(disch:=omega);refine IU pl ln (drawn c 3) g λth h1 x1=>?_;refine now ?_;rw[aC,aY]
 by_cases c0:drawn c 2%10=0
 ·simp[Nl,c0];exact k (.drop th) _ x1 ⟨trivial,rfl⟩
 ·simp[Nl,c0];refine now ?_;rw[aC];simp(disch:=omega);refine IU pl ln (drawn c 4) (x1 _ _ g) λho h2 x2=>?_;refine now ?_;rw[aC];simp;refine now ?_;rw[aC,aY];have fin:∀(sp:Spot),Au sp->(spP sp).pl 37=true->∀E:FE,(∀a h',Ext h h'->KR a->E.rt (.tup (aI a)) h')->Lt (aE (aV (aK (aB vR (mV 2) (mC (.int 5)))) (aU (aX (aA (mC (.str "make")) (aA (aB vAt (eI (aA (mC (.str "map")) (aA (mC (.str "map")) (aA (mC (.str "row")) (aA (mC (.str "choice")) aD))))) (aB A3 (mV 2) (mC (.int 1)))) (aA (mV 4) (aA (mV 5) aD)))))) bA) (aU (aX (aA (mC (.str "move")) (aA (mV 3) (aA (mV 4) (aA (mV 5) aD))))))) E [some (.int c),some (.ref ld),some (.int (drawn c 2%10)),some (pv th),some (pv ho),some (spP sp)] h2:=λsp so sl E kk=>by
   have xx:=x1.trans x2;refine now ?_;rw[aC,aY]
   by_cases c1:drawn c 2%10<5
   ·have gk:(h2++[MO.lst [.str "map",.str "map",.str "row",.str "choice"]])[h2.length]?=some (.lst [.str "map",.str "map",.str "row",.str "choice"]):=aF;obtain⟨kd,hk,ek⟩:∃kd:Str,HW kd/\atI [PV.str "map",.str "map",.str "row",.str "choice"] (drawn c 2%10-1)=some (.str kd):=by
     have:drawn c 2%10=1\/drawn c 2%10=2\/drawn c 2%10=3\/drawn c 2%10=4:=by omega
     rcases this with e|e|e|e <;> rw[e]
     ·exact⟨"map",.inl rfl,rfl⟩
     ·exact⟨"map",.inl rfl,rfl⟩
     ·exact⟨"row",.inr (.inl rfl),rfl⟩
     ·exact⟨"choice",.inr (.inr rfl),rfl⟩
    simp(disch:=omega) [c1,kG gk,ek];refine kk (.make kd ho sp) _ (xx.trans (Ext.app _ _)) ⟨⟨hk,so⟩,?_⟩;have h1:(pv ho).pl 37=true:=rfl;have h2:(PV.str kd).pl 37=true:=rfl;have h3:(PV.str "make").pl 37=true:=rfl
    show[PV.str "make",.str kd,pv ho,spP sp].all (PV.pl 37)=true
    simp[h1,h2,h3,sl]
   ·simp[c1];refine now ?_;simp;refine kk (.move th ho sp) _ xx ⟨so,?_⟩;have h1:(pv ho).pl 37=true:=rfl;have h2:(pv th).pl 37=true:=rfl;have h3:(PV.str "move").pl 37=true:=rfl
    show[PV.str "move",pv th,pv ho,spP sp].all (PV.pl 37)=true
    simp[h1,h2,h3,sl]
  by_cases c2:0<drawn c 5%3
  ·have d6:=fZ c 6;have d7:=fZ c 7;obtain⟨cc,ec,_⟩:=C0 (xs:=(zg "dkmrtvz").cps.toList) (i:=drawn c 6) (by intro z;have:=G4;rw[z]at this;cases this);have ec:atI (zg "dkmrtvz").cps.toList (drawn c 6%7)=some cc:=by rw[G4]at ec;exact ec
   have hv:vIx (.str "dkmrtvz") (.int (drawn c 6%7)) h2=.ok (.str ⟨#[cc]⟩) h2:=by
    rw[rA (by rw[Ik];omega),ec];rfl
   have hr:Df (.str ⟨#[cc]⟩) (.int (1+drawn c 7%12)) h2=.ok (.str (Txt.mul ⟨#[cc]⟩ (1+drawn c 7%12))) h2:=by
    unfold Df;exact if_pos ⟨show 1<=16 by omega,by omega,by omega⟩
   simp(disch:=omega) [-rA,c2,hv,hr];exact fin (.key _) trivial rfl _ k
  ·simp(disch:=omega) [c2];exact fin (.place [] 1) (zz _) rfl _ k
structure RD(ds:List Dd):Prop where
 nd:(ds.map (·.nm)).Nodup
 ok:∀d∈ds,Wf d/\(aI d.act).all (PV.pl 37)=true
theorem oM(S:Seen)(h h':Str)(n:Int):look (dput S h n) h'=if h'=h then some n else look S h':=by
 have m:∀S:Seen,look (S.map λp=>if p.1=h then(p.1,n) else p) h'=if h'=h then(look S h).map (λ_=>n) else look S h':=λS=>by
  induction S with
  |nil=>simp[look]
  |cons x r ih=>
   rw[zt,dY,ih]
   by_cases e:x.1=h
   ·rw[if_pos e]
    by_cases c:h'=h
    ·rw[if_pos (show x.1=h' by rw[e,c]),if_pos c,dY,if_pos e];rfl
    ·have c2:¬ x.1=h':=λz=>c (z▸e);rw[if_neg (show ¬ x.1=h' from c2),if_neg c,if_neg c,dY,if_neg c2]
   ·rw[if_neg e]
    by_cases c:h'=h
    ·rw[if_neg (λz:x.1=h'=>e (z.trans c)),if_pos c,if_pos c,dY,if_neg e]
    ·rw[if_neg c,if_neg c,dY]
 have a:∀S:Seen,look S h=none->look (S++[(h,n)]) h'=if h'=h then some n else look S h':=λS=>by
  induction S with
  |nil=>
   intro _
   show(if h=h' then some n else none)=if h'=h then some n else none
   by_cases c:h'=h
   ·rw[if_pos c,if_pos c.symm]
   ·rw[if_neg c,if_neg λz=>c z.symm]
  |cons x r ih=>
   intro e;rw[dY]at e
   by_cases c:x.1=h
   ·rw[if_pos c]at e;cases e
   ·rw[if_neg c]at e;rw[List.cons_append,dY,dY,ih e]
    by_cases q:h'=h
    ·rw[if_pos q,if_pos q,if_neg (λz:x.1=h'=>c (z.trans q))]
    ·rw[if_neg q];rw[if_neg q]
 unfold dput;cases e:look S h with
 |none=>rw[if_neg (by simp)];exact a S e
 |some v=>rw[if_pos (by simp),m,e];rfl
structure MI(hs:List Str)(D:Seen)(ds:List Dd)(q:Nat):Prop where
 rd:RD ds
 lD:D.length<=hs.length+q
 hm:∀w∈hs,∃m,look D w=some m/\0<=m
 dm:∀d∈ds,∃m,look D d.nm.1=some m/\d.nm.2<=m
variable{hs:List Str}
theorem MI.step{D:Seen}{ds:List Dd}{q:Nat}(i:MI hs D ds q)(hw:w∈hs){m:Int}(e:look D w=some m)(hS:S.length<=4)(ha:KR a):MI hs (dput D w (m+1)) (ds++[⟨(w,m+1),S,a⟩]) (q+1):=by
 obtain⟨m',e',h0⟩:=i.hm w hw;rw[e]at e';cases e'
 have old:∀v x,look D v=some x->∃y,look (dput D w (m+1)) v=some y/\x<=y:=λv x ex=>by
  rw[oM]
  by_cases z:v=w
  ·rw[if_pos z];rw[z,e]at ex;cases ex;exact⟨_,rfl,by omega⟩
  ·rw[if_neg z];exact⟨x,ex,Int.le_refl _⟩
 refine⟨⟨?_,λd hd=>?_⟩,?_,λv hv=>?_,λd hd=>?_⟩
 ·rw[Pq,Qn];refine⟨i.rd.nd,by simp,λp hp p' cj z=>?_⟩;obtain⟨d,hd,rfl⟩:=z9.mp hp;obtain⟨x,ex,lx⟩:=i.dm d hd;have:p'=(w,m+1):=by simpa using cj
  rw[z,this]at ex lx;rw[e]at ex;cases ex
  simp at lx;omega
 ·rcases OZ.mp hd with hd|hd
  ·exact i.rd.ok d hd
  ·rw[OY.mp hd];exact⟨⟨by show S.length<=100;omega,ha.1,λz=>by have:=congrArg Prod.snd z;simp at this;omega⟩,ha.2⟩
 ·have:=Cd (S:=D) (h:=w) (n:=m+1);have:=i.lD;omega
 ·obtain⟨x,ex,hx⟩:=i.hm v hv;obtain⟨y,ey,hy⟩:=old v x ex;exact⟨y,ey,by omega⟩
 ·rcases OZ.mp hd with hd|hd
  ·obtain⟨x,ex,hx⟩:=i.dm d hd;obtain⟨y,ey,hy⟩:=old _ x ex;exact⟨y,ey,by omega⟩
  ·rw[OY.mp hd];exact⟨m+1,by rw[oM,if_pos rfl],Int.le_refl _⟩
theorem oO{D:Seen}{m:Int}(g:h[n]?=some (.dK (emb D)))(e:look D w=some m):vIx (.ref n) (.str w) h=.ok (.int m) h:=by
 rw[Km g,tU,e];rfl
theorem kM{α β:Type}(f:α->β)(xs:List α)(lo hi:Option Int):aT (xs.map f) lo hi=(aT xs lo hi).map f:=by
 unfold aT;simp[List.map_take,List.map_drop]
def Fr1(ls:Nat)(h h':PH):Prop:=∀(i:Nat) o,i≠ls->h[i]?=some o->h'[i]?=some o
def SN(x0 x4:Option PV)(lh lm ls:Nat)(w:Str)(c dw:Int)(h:PH)(q:Nat)(δ:Ev)(h':PH):Prop:=∃S:Seen,Fr1 ls h h'/\h'[ls]?=some (.lst (S.map pv))/\S.length<=q/\∃x8 x9,δ=[x0,some (.ref lh),some (.ref lm),some (.str w),x4,some (.int c),some (.int dw),some (.ref ls),x8,x9]
variable{lh:Nat}
theorem Il{D:Seen}(hm:∀w∈hs,∃m,look D w=some m/\0<=m)(lh4:hs.length<=4){m:Int}(em:look D w=some m){ls:Nat}{c dw:Int}(hf:0<=dw/\dw<=1)(n1:lh≠ls)(n2:lm≠ls)(gh:h[lh]?=some (.lst (hs.map PV.str)))(gm:h[lm]?=some (.dK (emb D)))(gs:h[ls]?=some (.lst [])){x4:Option PV}(k:∀(S:Seen) h' x8 x9,Fr1 ls h h'->h'[ls]?=some (.lst (S.map pv))->S.length<=4->E.nx [x0,some (.ref lh),some (.ref lm),some (.str w),x4,some (.int c),some (.int dw),some (.ref ls),x8,x9] h'):
  (eC (bB (mV 1)) (gN 8) kI [x0,some (.ref lh),some (.ref lm),some (.str w),x4,some (.int c),some (.int dw),some (.ref ls),x8,x9] h).W E:=by
 refine iM (n:=lh) (xs:=hs.map PV.str) (h1:=h) (SN x0 x4 lh lm ls w c dw h) (by simp) gh ⟨[],(λ_ _ _ e=>e),gs,zb _,_,_,rfl⟩ (λq δ h' _ i=>let ⟨_,f,_⟩:=i;f _ _ n1 gh) ?_ ?_
 ·rintro q y δ h' hy ⟨S,fr,gS,lS,x8,x9,rfl⟩;rw[zo]at hy;obtain⟨v,hv,rfl⟩:=z6.mp hy;have hq:q<hs.length:=(yx.mp hv).1;obtain⟨mv,ev,h0⟩:=hm v (Pn hv);have ue:=fr _ _ n2 gm;have q1:=oO ue ev;have q2:=oO ue em;have ll:=jP gS;rw[za]at ll;refine⟨_,rfl,?_⟩;unfold kI;rw[aC];have hd:=fZ c (9+S.length);simp(disch:=omega) [q1,ll];generalize (if 0<mv-dw*(drawn c (9+S.length)%17-2) then mv-dw*(drawn c (9+S.length)%17-2) else 0)=n0;refine now ?_;rw[aC,aY];have fin:∀(E:FE)(n:Int),(∀δ h',SN x0 x4 lh lm ls w c dw h (q+1) δ h'->E.nx δ h')->Lt (aV (aK (aB vGt (mV 9) (mC (.int 0)))) (jH (mMt isL (onL bM) (mV 7) (aA (aX (aA (mV 8) (aA (mV 9) aD))) aD))) bA) E [x0,some (.ref lh),some (.ref lm),some (.str w),x4,some (.int c),some (.int dw),some (.ref ls),some (.str v),some (.int n)] h':=λE n kk=>by
   refine now ?_;rw[aY]
   by_cases c0:0<n
   ·have ap:=eO (p:=pv (v,n)) gS (by rw[za];omega);rw[show S.map pv++[pv (v,n)]=(S++[(v,n)]).map pv by simp]at ap;have ia:onL bM (.ref ls) [.tup [.str v,.int n]] h'=_:=ap;simp[c0,iL gS];rw[ia,xQ];exact kk _ _ ⟨S++[(v,n)],λi o hi e=>aG (fr i o hi e) (PY hi),bV gS,by simp;omega,_,_,rfl⟩
   ·simp[c0];exact kk _ _ ⟨S,fr,gS,by omega,_,_,rfl⟩
  by_cases c1:v=w
  ·subst c1;simp[q2];exact fin _ m λ_ _ z=>z
  ·simp[c1];refine fin _ _ ?_;exact λ_ _ z=>z
 ·rintro δ h' ⟨S,fr,gS,lS,x8,x9,rfl⟩;rw[za]at lS;exact k S h' x8 x9 fr gS (by omega)
def DJ(h:PH)(ns:List Int)(hs:List Str)(cs:List Int)(lh lm ld lc:Nat)(q:Nat)(δ:Ev)(h':PH):Prop:=∃(D:Seen)(ds:List Dd),Ext h h'/\h'[lm]?=some (.dK (emb D))/\h'[ld]?=some (.lst (ds.map dP))/\h'[lc]?=some (.lst (cs.map PV.int))/\MI hs D ds q/\ds.length<=q/\∃x3 x5 x6 x7 x8 x9,δ=[some (.fl (ns.map PV.int)),some (.ref lh),some (.ref lm),x3,some (.ref ld),x5,x6,x7,x8,x9]
variable{cs ns:List Int}
theorem Dz{lc:Nat}(b:h.length<=lm/\lm<ld/\ld<lc)(gh:h[lh]?=some (.lst (hs.map PV.str)))(l2:2<=hs.length)(l4:hs.length<=4){q:Nat}(hq:q<50){c:Int}(i:DJ h ns hs cs lh lm ld lc q δ h')(k:∀δ h',DJ h ns hs cs lh lm ld lc (q+1) δ h'->E.nx δ h'):(iC (δ.set 5 (some (.int c))) h').W E:=by
 obtain⟨D,ds,x,gm,gd,gc,mi,uo,x3,x5,x6,x7,x8,x9,rfl⟩:=i
 show(iC [some (.fl (ns.map PV.int)),some (.ref lh),some (.ref lm),x3,some (.ref ld),some (.int c),x6,x7,x8,x9] h').W E
 have hlh:=(yx.mp gh).1;have v8:=(yx.mp gc).1;have qc:=x _ _ gh;unfold iC;rw[aC];have ll:=jP qc;rw[za]at ll;obtain⟨w,hw,ew⟩:=G3 (xs:=hs) (f:=PV.str) (i:=drawn c 1) (λz=>by rw[z]at l2;cases l2);have hp:(0:Int)<hs.length:=by omega
 simp(disch:=omega) [ll,kG qc,ew];refine now ?_;rw[aC];have d8:=fZ c 8;simp(disch:=omega);refine now ?_;rw[aC];simp;have y1:Ext h' (h'++[MO.lst []]):=Ext.app _ _;have gs:(h'++[MO.lst []])[h'.length]?=some (.lst []):=aF;generalize h'++[MO.lst []]=h1 at y1 gs;refine now ?_;rw[aC];obtain⟨m,em,m0⟩:=mi.hm w hw;refine Il mi.hm l4 em (by omega) (by omega) (by omega) (y1 _ _ qc) (y1 _ _ gm) gs λS h2 x8 x9 fr gS lS=>?_;have q0:=fr _ _ (by omega) (y1 _ _ gm);have pb:=fr _ _ (by omega) (y1 _ _ gd);have wt:=fr _ _ (by omega) (y1 _ _ gc);have x2:Ext h h2:=λi o e=>have hh:=(yx.mp e).1;fr i o (by omega) ((x.trans y1) _ _ e);generalize h'.length=ls at fr gS v8;clear fr gs y1;refine now ?_;rw[aC];have je:eK (.ref lm) (.str w) (.int (m+1)) h2=some (h2.set lm (.dK (emb (dput D w (m+1))))):=by
  rw[C8 q0 (by unfold emb;rw[za];have:=mi.lD;omega),Cc]
 simp[oO q0 em];refine⟨_,je,now ?_⟩;have qa:=bV (o':=MO.dK (emb (dput D w (m+1)))) q0;have og:=aG (o':=MO.dK (emb (dput D w (m+1)))) (n:=lm) pb (by omega);have uy:=aG (o':=MO.dK (emb (dput D w (m+1)))) (n:=lm) wt (by omega);have mz:=aG (o':=MO.dK (emb (dput D w (m+1)))) (n:=lm) gS (by omega);have x3:Ext h (h2.set lm (MO.dK (emb (dput D w (m+1))))):=x2.setN b.1;generalize h2.set lm (MO.dK (emb (dput D w (m+1))))=h3 at qa og uy mz x3;have et:pC [.ref ls] h3=.ok (sv S) h3:=by
  rw[FD];simp[pC,aN,mz]
 have q1:vIx (.ref lm) (.str w) h3=.ok (.int (m+1)) h3:=oO qa (by rw[oM,if_pos rfl]);simp[iL og,q1,et];refine KS (λd hd=>(mi.rd.ok d hd).2) (by omega) c og λa h4 x4 ha=>?_;have ui:=x4 _ _ og;have ap:=eO (p:=dP ⟨(w,m+1),S,a⟩) ui (by rw[za];omega);rw[show ds.map dP++[dP ⟨(w,m+1),S,a⟩]=(ds++[Dd.mk (w,m+1) S a]).map dP by simp]at ap;have ia:onL bM (.ref ld) [.tup [.tup [.str w,.int (m+1)],sv S,.tup (aI a)]] h4=_:=ap
 try simp
 rw[ia,xQ];exact k _ _ ⟨dput D w (m+1),ds++[⟨(w,m+1),S,a⟩],(x3.trans x4).setN (by omega),aG (x4 _ _ qa) (by omega),bV ui,aG (x4 _ _ uy) (by omega),mi.step hw em lS ha,by simp;omega,_,_,_,_,_,_,rfl⟩
def BI(h:PH)(ns:List Int)(hs:List Str)(lh:Nat)(q:Nat)(δ:Ev)(h':PH):Prop:=∃D:Seen,Ext h h'/\h'[h.length]?=some (.dK (emb D))/\D.length<=q/\(∀w∈hs.take q,∃m,look D w=some m/\0<=m)/\∃x3,δ=[some (.fl (ns.map PV.int)),some (.ref lh),some (.ref h.length),x3,none,none,none,none,none,none]
theorem G5(ns:List Int)(hl:ns.length<=63)(h0:PH)(Q:PV->PH->Prop)(k:∀ds l h',Ext h0 h'->h'[l]?=some (.lst (ds.map dP))->RD ds->ds.length<=50->Q (.ref l) h'):(yN [.fl (ns.map PV.int)] h0).W Q:=by
 refine bR ?_;unfold yM;rw[aC];have e0:(h0++[MO.lst [PV.int 0]])[h0.length]?=some (.lst [PV.int 0]):=aF;have e1:=Du (xs:=ns.map PV.int) e0 (by simp;omega);have x1:Ext h0 (h0++[MO.lst [PV.int 0]]++[MO.lst (ns.map PV.int++[.int 0])]):=(Ext.app _ _).trans (Ext.app _ _);have g1:(h0++[MO.lst [PV.int 0]]++[MO.lst (ns.map PV.int++[.int 0])])[(h0++[MO.lst [PV.int 0]]).length]?=some (.lst (ns.map PV.int++[.int 0])):=aF;obtain⟨c,ec⟩:∃c:Int,atI (ns.map PV.int++[.int 0]) 0=some (.int c):=by
  cases ns with
  |nil=>exact⟨0,rfl⟩
  |cons n r=>exact⟨n,aR (i:=0) (by simp)⟩
 generalize (h0++[MO.lst [PV.int 0]]).length=l1 at e1 g1;generalize h0++[MO.lst [PV.int 0]]++[MO.lst (ns.map PV.int++[.int 0])]=h1 at e1 g1 x1;simp[e1,kG g1,ec];refine G2 c h1 _ λhs lh h2 x2 gh l2 l4=>?_;have o1:=x1.trans x2;clear e0 e1 g1 x1 x2 ec;refine now ?_;rw[aC];simp;have gm:(h2++[MO.dK []])[h2.length]?=some (.dK (emb [])):=aF;have x3:Ext h2 (h2++[MO.dK []]):=Ext.app _ _;generalize h2++[MO.dK []]=h3 at gm x3;refine now ?_;rw[aC];refine iM (n:=lh) (xs:=hs.map PV.str) (h1:=h3) (BI h2 ns hs lh) (by simp) (x3 _ _ gh) ⟨[],x3,gm,zb _,(λw hw=>nomatch hw),_,rfl⟩ (λq δ h' _ i=>let ⟨_,x,_⟩:=i;x _ _ gh) ?_ ?_
 ·rintro q y δ h' hy ⟨D,x,gm,lD,hm,x3,rfl⟩;rw[zo]at hy;obtain⟨w,hw,rfl⟩:=z6.mp hy;have hq:q<hs.length:=(yx.mp hw).1;refine⟨_,rfl,?_⟩;unfold pO;have gc:(h'++[MO.lst ((aT ns none (some 1)).map PV.int)])[h'.length]?=some (.lst ((aT ns none (some 1)).map PV.int)):=aF;have xc:Ext h' (h'++[MO.lst ((aT ns none (some 1)).map PV.int)]):=Ext.app _ _;simp(disch:=omega) [kM,nT gc];generalize h'++[MO.lst ((aT ns none (some 1)).map PV.int)]=h4 at gc xc;obtain⟨v,ev⟩:∃v:Int,v=(aT ns none (some 1)).sum/4%3/2*1000000000:=⟨_,rfl⟩;rw[<-ev];have je:eK (.ref h2.length) (.str w) (.int v) h4=some (h4.set h2.length (.dK (emb (dput D w v)))):=by
   rw[C8 (xc _ _ gm) (by unfold emb;rw[za];omega),Cc]
  refine⟨_,je,dput D w v,(x.trans xc).setN (zb _),bV (xc _ _ gm),Ph Cd (by omega),λu hu=>?_,_,rfl⟩;rw[oM]
  by_cases z:u=w
  ·rw[if_pos z];exact⟨v,rfl,by omega⟩
  ·rw[if_neg z];rw[Ry,hw,OZ]at hu;rcases hu with hu|hu
   ·exact hm u hu
   ·exact(z (by simpa using hu)).elim
 ·rintro δ h' ⟨D,x,gm,lD,hm,x3,rfl⟩;rw[za]at lD;rw[za,Rb]at hm;refine now ?_;rw[aC];simp;have x4:Ext h' (h'++[MO.lst []]):=Ext.app _ _;have gd:(h'++[MO.lst []])[h'.length]?=some (.lst (([]:List Dd).map dP)):=aF;have hlm:=(yx.mp gm).1;have sy:=x4 _ _ gm;have u5:(h'++[MO.lst []]).length=h'.length+1:=by simp
  have u4:=x.trans x4;generalize h'++[MO.lst []]=h4 at x4 gd sy u5 u4;refine now ?_;rw[aC];have gc:(h4++[MO.lst ((aT ns none (some 50)).map PV.int)])[h4.length]?=some (.lst ((aT ns none (some 50)).map PV.int)):=aF;have x5:Ext h4 (h4++[MO.lst ((aT ns none (some 50)).map PV.int)]):=Ext.app _ _;have lc:(aT ns none (some 50)).length<=50:=by simp[aT,HT.sIx];omega
  have p0:DJ h2 ns hs (aT ns none (some 50)) lh h2.length h'.length h4.length 0 [some (.fl (ns.map PV.int)),some (.ref lh),some (.ref h2.length),x3,some (.ref h'.length),none,none,none,none,none] (h4++[MO.lst ((aT ns none (some 50)).map PV.int)]):=⟨D,[],u4.trans x5,x5 _ _ sy,x5 _ _ gd,gc,⟨⟨List.nodup_nil,λd hd=>nomatch hd⟩,by omega,hm,λd hd=>nomatch hd⟩,zb _,_,_,_,_,_,_,rfl⟩;have oh:mSl (mV 0) nL (mP (mC (.int 50))) [some (.fl (ns.map PV.int)),some (.ref lh),some (.ref h2.length),x3,some (.ref h'.length),none,none,none,none,none] h4=.ok (.ref h4.length) (h4++[MO.lst ((aT ns none (some 50)).map PV.int)]):=by simp[kM]
  generalize h4++[MO.lst ((aT ns none (some 50)).map PV.int)]=h5 at gc p0 oh;generalize h4.length=l5 at gc p0 oh u5;generalize aT ns none (some 50)=cs at gc p0 oh lc;refine iM (n:=l5) (xs:=cs.map PV.int) (h1:=h5) (DJ h2 ns hs cs lh h2.length h'.length l5) oh gc p0 (λq δ h' _ i=>let ⟨_,_,_,_,_,g,_⟩:=i;g) ?_ ?_
  ·rintro q y δ h6 hy i;rw[zo]at hy;obtain⟨c,hc,rfl⟩:=z6.mp hy;have hq:q<cs.length:=(yx.mp hc).1;exact⟨_,rfl,Dz (by omega) gh l2 l4 (by omega) i λ_ _ z=>z⟩
  ·rintro δ h6 ⟨D,ds,x6,gm,gd,gc,mi,uo,x3,x5,x6',x7,x8,x9,rfl⟩;rw[za]at uo;refine now ?_;simp;exact k ds _ _ (o1.trans x6) gd mi.rd (by omega)
def kyR(d:Dd):List Key:=[.inl (tot d.seen),.inr d.nm.1,.inl d.nm.2]
theorem Im(a b:Dd):bD (kyR a) (kyR b)=bD (kyL a) (kyL b):=by
 unfold kyR kyL bD;have e:(Sum.inl (1+tot a.seen):Key)=.inl (1+tot b.seen)↔(Sum.inl (tot a.seen):Key)=.inl (tot b.seen):=by
  simp
 by_cases c:(Sum.inl (tot a.seen):Key)=.inl (tot b.seen)
 ·rw[if_pos c,if_pos (e.mpr c)]
 ·rw[if_neg c,if_neg (λz=>c (e.mp z))];unfold keyLt;simp
theorem KU(a b:Dd)(e:kyR a=kyR b):a.nm=b.nm:=by
 unfold kyR at e;simp at e;exact Prod.ext e.2.1 e.2.2
theorem Ip(xs:List Dd):nY (xs.map kyR)=true:=by
 cases xs with
 |nil=>rfl
 |cons a r=>
  rw[zt];unfold nY;rw[z0];refine⟨rfl,zp.mpr λz hz=>?_⟩;obtain⟨q,_,rfl⟩:=z9.mp hz;rfl
theorem G6(d:Dd)(hS:d.seen.length<=100)(h:PH)(Q:PV->PH->Prop)(k:∀h',Ext h h'->Q (tP (kyR d)) h'):(oE [dP d] h).W Q:=by
 refine bR ?_;have hc:=vU (js:=[none,none]) (tg:=gTp 2 (gCn (gN 0) (gCn (gN 1) gNl))) (tst:=nP) (elt:=mV 1) (m:=aB vAt (mV 0) (mC (.int 1))) (δ:=[some (dP d)]) (h:=h) (h1:=h) (ys:=d.seen) (emb:=pv)
  (λq=>some (.int q.2)) (by simp[dP1,FD]) (by omega) (λq hq=>⟨[some (.str q.1),some (.int q.2)],by simp[gR,pv],λh3 _=>⟨rfl,by simp⟩⟩)
 have es:d.seen.filterMap (λq=>some (PV.int q.2))=(d.seen.map (·.2)).map PV.int:=by rw[filterMap_some,Pm];rfl
 rw[es]at hc;have gs:(h++[MO.lst ((d.seen.map (·.2)).map PV.int)])[h.length]?=some (.lst ((d.seen.map (·.2)).map PV.int)):=aF;have xs:Ext h (h++[MO.lst ((d.seen.map (·.2)).map PV.int)]):=Ext.app _ _;have vs:=nT gs;generalize h.length=l at hc gs vs;generalize h++[MO.lst ((d.seen.map (·.2)).map PV.int)]=hA at hc gs xs vs;unfold tS;simp[hc,vs,dP0,pv0,pv1];exact k _ xs
theorem uF(hx:x.pl 40=true):∀n,eqF n x x h=some true
 |0=>by unfold eqF;rw[rB hx hx];simp
 |n+1=>by unfold eqF;rw[rB hx hx];simp
theorem Co{a:Nat}(g1:h[a]?=some (.lst xs))(g2:h[b]?=some (.lst xs))(hx:xs.all (PV.pl 39)=true):∀n,eqF n (.ref a) (.ref b) h=some true
 |0=>by unfold eqF;rw[nR g1 g2 hx hx];simp
 |n+1=>by unfold eqF;rw[nR g1 g2 hx hx];simp
theorem KW{a:Nat}(e:eqF n (.ref a) (.ref b) h=some true):eqF (n+1) (.tup [.str z,.ref a]) (.tup [.str z,.ref b]) h=some true:=by
 unfold eqF;have n2:fT (.tup [.str z,.ref a]) (.tup [.str z,.ref b]) h=none:=by
  unfold fT;simp[PV.d,PV.ds,eJ]
 have e1:eqF n (.str z) (.str z) h=some true:=uF rfl n;rw[n2];simp[eqL,e,e1]
theorem KY{r:Ft}{v':PV}(p:Nm)(f:FtP h A r v)(f':FtP h B r v'):eqF 2 (.tup [pv p,v]) (.tup [pv p,v']) h=some true/\((∃l,v=.tup [.str "lost",.ref l])\/(v=v'/\v.pl 38=true)):=by
 cases r with
 |lost w=>
  obtain⟨l,rfl,_,g⟩:=f;obtain⟨l',rfl,_,g'⟩:=f';refine⟨?_,.inl ⟨l,rfl⟩⟩;have n2:fT (.tup [pv p,.tup [.str "lost",.ref l]]) (.tup [pv p,.tup [.str "lost",.ref l']]) h=none:=by
   unfold fT pv;simp[PV.d,PV.ds,eJ]
  have e1:eqF 1 (pv p) (pv p) h=some true:=uF rfl 1;have e2:eqF 1 (.tup [.str "lost",.ref l]) (.tup [.str "lost",.ref l']) h=some true:=KW (Co g g' (BB w) 0);unfold eqF;rw[n2];simp[eqL,e1,e2]
 |idle=>have f:v=_:=f;have f':v'=_:=f';subst f f';exact⟨uF rfl 2,.inr ⟨rfl,rfl⟩⟩
 |outd y=>have f:v=_:=f;have f':v'=_:=f';subst f f';exact⟨uF rfl 2,.inr ⟨rfl,rfl⟩⟩
 |stands=>have f:v=_:=f;have f':v'=_:=f';subst f f';exact⟨uF rfl 2,.inr ⟨rfl,rfl⟩⟩
structure Rw(h:PH)(A:Nat->Prop)(os:List Dd)(R:Nm->Ft)(vs:List PV):Prop where
 ln:vs.length=os.length
 at':∀(i:Nat) d,os[i]?=some d->∃v,vs[i]?=some (.tup [pv d.nm,v])/\FtP h A (R d.nm) v
variable{R:Nm->Ft}{vs:List PV}
theorem Rw.keep(w:Rw h A os R vs)(k:∀(i:Nat) o,A i->h[i]?=some o->h'[i]?=some o)(ab:∀i,A i->B i):Rw h' B os R vs:=⟨w.ln,λi d hi=>let ⟨v,a,b⟩:=w.at' i d hi;⟨v,a,b.keep k ab⟩⟩
theorem IV{x:PV}:∀{xs:List PV},x∈xs->x.d=none->PV.ds xs=none
 |y::r,h,e=>by
  unfold PV.ds;rcases zq.mp h with rfl|h
  ·rw[e]
  ·rw[IV h e];cases y.d <;> rfl
theorem Cp{f:PV->PV->Option Bool}:∀{xs ys:List PV},xs.length=ys.length->(∀(i:Nat) x y,xs[i]?=some x->ys[i]?=some y->f x y=some true)->eqL f xs ys=some true
 |[],[],_,_=>rfl
 |[],_::_,h,_=>by simp at h
 |_::_,[],h,_=>by simp at h
 |x::xs,y::ys,h,k=>by
  unfold eqL;rw[k 0 x y rfl rfl,Cp (by simpa using h) λi a b ha hb=>k (i+1) a b (by simpa using ha) (by simpa using hb)]
  rfl
theorem Cq{a:Nat}(w1:Rw h A os R xs)(w2:Rw h B os R ys)(g1:h[a]?=some (.lst xs))(g2:h[b]?=some (.lst ys)):eqF 3 (.ref a) (.ref b) h=some true:=by
 have pr:∀(i:Nat) x y,xs[i]?=some x->ys[i]?=some y->eqF 2 x y h=some true/\((∃p l,x=.tup [pv p,.tup [.str "lost",.ref l]])\/(x=y/\x.pl 39=true)):=λi x y hx hy=>by
  have hi:i<os.length:=by rw[<-w1.ln];exact(yx.mp hx).1
  obtain⟨v,e1,f1⟩:=w1.at' i _ (Pe hi);obtain⟨v',e2,f2⟩:=w2.at' i _ (Pe hi);rw[hx]at e1;rw[hy]at e2;cases e1
  cases e2
  obtain⟨q1,q2⟩:=KY os[i].nm f1 f2;refine⟨q1,q2.imp (λ⟨l,e⟩=>⟨_,l,by rw[e]⟩) λ⟨e,pl⟩=>⟨by rw[e],?_⟩⟩;have h1:(pv os[i].nm).pl 38=true:=rfl
  show[pv os[i].nm,v].all (PV.pl 38)=true
  simp[h1,pl]
 have ln:xs.length=ys.length:=by rw[w1.ln,w2.ln]
 by_cases c:∃p l,PV.tup [pv p,.tup [.str "lost",.ref l]]∈xs
 ·obtain⟨p,l,hm⟩:=c;have d0:(PV.tup [pv p,.tup [.str "lost",.ref l]]).d=none:=by simp[PV.d,PV.ds,pv]
  have q1:eJ (.ref a) h=some xs:=by simp[eJ,aN,g1]
  have q2:eJ (.ref b) h=some ys:=by simp[eJ,aN,g2]
  have n2:fT (.ref a) (.ref b) h=none:=by
   unfold fT;simp only[PV.d,q1,q2,IV hm d0]
  unfold eqF;rw[n2];simp only[q1,q2];exact Cp ln λi x y hx hy=>(pr i x y hx hy).1
 ·have all:∀(i:Nat) x y,xs[i]?=some x->ys[i]?=some y->x=y/\x.pl 39=true:=λi x y hx hy=>(pr i x y hx hy).2.resolve_left λ⟨p,l,e⟩=>c ⟨p,l,e▸Pn hx⟩;have e:xs=ys:=by
   apply QA;intro i
   by_cases hi:i<xs.length
   ·have h1:xs[i]?=some xs[i]:=Pe hi;have h2:ys[i]?=some ys[i]:=Pe (by omega);rw[h1,h2,(all i _ _ h1 h2).1]
   ·rw[QP (by omega),QP (by omega)]
  subst e;refine Co g1 g2 (zp.mpr λx hx=>?_) 3;obtain⟨i,hi,e⟩:=List.mem_iff_getElem.mp hx;have h1:xs[i]?=some x:=by rw[Pe hi,e]
  exact(all i x x h1 h1).2
theorem zB{α:Type}{xs:List α}{a b:Option Int}{x:α}(h:x∈aT xs a b):x∈xs:=by
 unfold aT at h;exact List.mem_of_mem_drop (List.mem_of_mem_take h)
theorem zC{α:Type}{xs:List α}{a b:Option Int}:(aT xs a b).length<=xs.length:=by
 unfold aT;rw[Q8,Q9];omega
theorem Iq{α:Type}{xs:List α}(h:m<=xs.length){x:α}(hx:x∈xs):x∈aT xs (some (m:Int)) none\/x∈aT xs none (some (m:Int)):=by
 have e1:aT xs (some (m:Int)) none=xs.drop m:=by
  unfold aT HT.sIx;simp;rw[Nat.min_eq_left h,Rh (by rw[Q9];omega)];rw[if_neg (by omega)]
 have e2:aT xs none (some (m:Int))=xs.take m:=by
  unfold aT HT.sIx;simp;rw[Nat.min_eq_left h];rw[if_neg (by omega)];exact Nat.min_eq_left h
 rw[e1,e2,<-OZ.trans or_comm,List.take_append_drop];exact hx
def CI(os:List Dd)(R:Nm->Ft)(vs:List PV)(lo l4:Nat)(h:PH)(x0 x1 x2 x3 x5 x6 x7:Option PV)(q:Nat)(δ:Ev)(h':PH):Prop:=(∀(i:Nat) o,¬ (lo<=i/\i<l4)->h[i]?=some o->h'[i]?=some o)/\(∀(i:Nat) xs,h[i]?=some (.lst xs)->∃ys,h'[i]?=some (.lst ys))/\∃x8 x9,δ=[x0,x1,x2,x3,some (.ref l4),x5,x6,x7,x8,x9]
theorem G7{lo l4:Nat}(w:Rw h (λi=>lo<=i/\i<l4) os R vs)(g:h[l4]?=some (.lst vs)){x2:Option PV}(k:∀x8 x9 h',(∀(i:Nat) o,¬ (lo<=i/\i<l4)->h[i]?=some o->h'[i]?=some o)->E.nx [x0,x1,x2,x3,some (.ref l4),x5,x6,x7,x8,x9] h'):(eC (bB (mV 4)) (gTp 2 (gCn (gN 8) (gCn (gN 9) gNl))) rJ [x0,x1,x2,x3,some (.ref l4),x5,x6,x7,x8,x9] h).W E:=by
 refine iM (n:=l4) (xs:=vs) (h1:=h) (CI os R vs lo l4 h x0 x1 x2 x3 x5 x6 x7) (by simp) g ⟨(λ_ _ _ e=>e),(λi xs e=>⟨xs,e⟩),_,_,rfl⟩ (λq δ h' _ i=>i.1 _ _ (by omega) g) ?_ λδ h' i=>let ⟨a,_,x8,x9,e⟩:=i;e▸k x8 x9 h' a;rintro q y δ h' hy ⟨fr,ls,x8,x9,rfl⟩;have hq:q<os.length:=by rw[<-w.ln];exact(yx.mp hy).1
 obtain⟨v,e1,f1⟩:=w.at' q _ (Pe hq);rw[hy]at e1;cases e1
 generalize os[q].nm=nm at f1;generalize R nm=r at f1;refine⟨[x0,x1,x2,x3,some (.ref l4),x5,x6,x7,some (pv nm),some v],by simp,?_⟩;unfold rJ;rw[aY];have nx:CI os R vs lo l4 h x0 x1 x2 x3 x5 x6 x7 (q+1) [x0,x1,x2,x3,some (.ref l4),x5,x6,x7,some (pv nm),some v] h':=⟨fr,ls,_,_,rfl⟩;have nO:¬ (zg "outdone")=zg "lost" := by decide +kernel
 have nS:¬ (zg "stands")=zg "lost" := by decide +kernel
 cases r with
 |idle=>have f1:v=_:=f1;subst f1;simp[nIL];exact nx
 |outd y=>have f1:v=_:=f1;subst f1;simp[nO];exact nx
 |stands=>have f1:v=_:=f1;subst f1;simp[nS];exact nx
 |lost wy=>
  obtain⟨l,rfl,hl,gl⟩:=f1;obtain⟨ys,gy⟩:=ls l _ gl;have ec:onL lK (.ref l) [] h'=.ok .non (h'.set l (.lst [])):=by simp[onL,cA,gy,lK]
  simp[iL gy,ec];refine⟨λi o hi e=>aG (fr i o hi e) (λz=>hi (z▸hl)),λi xs e=>?_,_,_,rfl⟩
  by_cases z:i=l
  ·subst z;exact⟨[],bV gy⟩
  ·obtain⟨zs,gz⟩:=ls i xs e;exact⟨zs,aG gz (PY z)⟩
theorem main(ns:List Int)(hl:ns.length<=63):∃h,Fy [.fl (ns.map PV.int)] []=.ok (.bl true) h:=by
 have w:(Fy [.fl (ns.map PV.int)] []).W λp _=>p=.bl true:=by
  refine bR ?_;unfold Fx;rw[aC];simp;refine G5 ns hl _ _ λds l1 h1 x1 g1 rd ld=>?_;refine now ?_;rw[aC]
  -- in order
  obtain⟨_,_,_,os,nd,mm,rk⟩:=hW (oJ ds ds (λ_ h=>h) (by omega) (λd hd=>(rd.ok d hd).1) (by omega) (yZ rd.nd) l1 h1 g1 (λ_ _=>∃os:List Dd,(os.map (·.nm)).Nodup/\(∀d,d∈os↔d∈ds)/\uA os) λos l h' _ _ _ a b c=>⟨os,a,b,c⟩);have lo:os.length<=50:=by
   have h1:(os.map (·.nm)).length<=(ds.map (·.nm)).length:=Q5 nd λp hp=>by
    obtain⟨d,hd,rfl⟩:=z9.mp hp;exact z9.mpr ⟨d,(mm d).mp hd,rfl⟩
   simp at h1;omega
  have wf:∀d∈os,Wf d:=λd hd=>(rd.ok d ((mm d).mp hd)).1
  -- the cut
  have gc:(h1++[MO.lst ((aT ns (some (-1)) none).map PV.int)])[h1.length]?=some (.lst ((aT ns (some (-1)) none).map PV.int)):=aF;have x2:Ext h1 (h1++[MO.lst ((aT ns (some (-1)) none).map PV.int)]):=Ext.app _ _;have ll:=jP (x2 _ _ g1);rw[za]at ll;simp(disch:=omega) [kM,nT gc,ll];have g2:=x2 _ _ g1;generalize h1++[MO.lst ((aT ns (some (-1)) none).map PV.int)]=h2 at g2;obtain⟨m,em⟩:∃m:Nat,(aT ns (some (-1)) none).sum/3%(ds.length+1)=(m:Int):=⟨((aT ns (some (-1)) none).sum/3%(ds.length+1)).toNat,by
   have:=Int.emod_nonneg ((aT ns (some (-1)) none).sum/3) (b:=(ds.length:Int)+1) (by omega);omega⟩
  have hm:m<=ds.length:=by
   have:=Int.emod_lt_of_pos ((aT ns (some (-1)) none).sum/3) (b:=(ds.length:Int)+1) (by omega);omega
  rw[em];refine now ?_;rw[aC]
  -- what is handed in
  have s1:=xV (lo:=some (m:Int)) (hi:=none) g2;rw[kM]at s1;have y1:Ext h2 (h2++[MO.lst ((aT ds (some (m:Int)) none).map dP)]):=Ext.app _ _;have k1:(h2++[MO.lst ((aT ds (some (m:Int)) none).map dP)])[h2.length]?=some (.lst ((aT ds (some (m:Int)) none).map dP)):=aF;generalize h2.length=p1 at s1 k1;generalize h2++[MO.lst ((aT ds (some (m:Int)) none).map dP)]=h3 at s1 y1 k1;have s2:=xV (lo:=none) (hi:=some (m:Int)) (y1 _ _ g2);rw[kM]at s2;have y2:Ext h3 (h3++[MO.lst ((aT ds none (some (m:Int))).map dP)]):=Ext.app _ _;have k2:(h3++[MO.lst ((aT ds none (some (m:Int))).map dP)])[h3.length]?=some (.lst ((aT ds none (some (m:Int))).map dP)):=aF;generalize h3.length=p2 at s2 k2;generalize h3++[MO.lst ((aT ds none (some (m:Int))).map dP)]=h4 at s2 y2 k2;have c1:(aT ds (some (m:Int)) none).length<=50:=Ph zC ld;have c2:(aT ds none (some (m:Int))).length<=50:=Ph zC ld;have s3:=wD (y2 _ _ k1) k2 (by simp;omega);rw[<-Pq]at s3;have gv:∀d,d∈aT ds (some (m:Int)) none++aT ds none (some (m:Int))↔d∈ds:=λd=>by
   rw[OZ];exact⟨λz=>z.elim zB zB,Iq hm⟩
  have l3:(aT ds (some (m:Int)) none++aT ds none (some (m:Int))).length<=100:=by rw[PP];omega
  generalize aT ds (some (m:Int)) none++aT ds none (some (m:Int))=hA at s3 gv l3;have y3:Ext h4 (h4++[MO.lst (hA.map dP)]):=Ext.app _ _;have k3:(h4++[MO.lst (hA.map dP)])[h4.length]?=some (.lst (hA.map dP)):=aF;generalize h4.length=p3 at s3 k3;generalize h4++[MO.lst (hA.map dP)]=h5 at s3 y3 k3;have s4:=xV (lo:=some ((m:Int)/3)) (hi:=some ((m:Int)/2)) (y3 _ _ (y2 _ _ (y1 _ _ g2)));rw[kM]at s4;have c4:(aT ds (some ((m:Int)/3)) (some ((m:Int)/2))).length<=50:=Ph zC ld;have j0:∀d,d∈aT ds (some ((m:Int)/3)) (some ((m:Int)/2))->d∈ds:=λd=>zB;generalize aT ds (some ((m:Int)/3)) (some ((m:Int)/2))=hB at s4 c4 j0;have y4:Ext h5 (h5++[MO.lst (hB.map dP)]):=Ext.app _ _;have k4:(h5++[MO.lst (hB.map dP)])[h5.length]?=some (.lst (hB.map dP)):=aF;generalize h5.length=p4 at s4 k4;generalize h5++[MO.lst (hB.map dP)]=h6 at s4 y4 k4;have s5:=wD (y4 _ _ k3) k4 (by simp;omega);rw[<-Pq]at s5;have y5:Ext h6 (h6++[MO.lst ((hA++hB).map dP)]):=Ext.app _ _;have k5:(h6++[MO.lst ((hA++hB).map dP)])[h6.length]?=some (.lst ((hA++hB).map dP)):=aF;have D1:Dl os (hA++hB):=⟨λd=>by rw[OZ,mm];exact⟨λz=>z.elim (gv d).mp (j0 d),λz=>.inl ((gv d).mpr z)⟩,nd,rk,wf,lo,by rw[PP];omega⟩;have D2:Dl os ds:=⟨λd=>(mm d).symm,nd,rk,wf,lo,by omega⟩;generalize hA++hB=hC at s5 y5 k5 D1;generalize h6.length=p5 at s5 k5;generalize h6++[MO.lst (hC.map dP)]=h7 at s5 y5 k5;have gd:=y5 _ _ (y4 _ _ (y3 _ _ (y2 _ _ (y1 _ _ g2))));simp(disch:=omega) [s1,s2,s3,s4,s5];clear s1 s2 s3 s4 s5 y1 y2 y3 y4 y5 k1 k2 k3 k4 c1 c2 c4 gv j0 l3 hm;refine now ?_;rw[aC];simp;refine AB D1 k5 λl4 vs h8 x8 b8 g8 lv ft=>?_;have r8:Rw h8 (λi=>h7.length<=i/\i<l4) os (jJ os).R vs:=⟨lv,ft⟩;refine now ?_;rw[aC];have tp:=x8 _ _ gd;obtain⟨v,h9,e9,cp,l9,rfl,x9,g9,pm,br⟩:=hW (yC (f:=oE) (b:=false) (x:=.ref l1) (h:=h8) (key:=kyR) (emb:=dP) (xs:=ds) (S:=shape [.inl 0,.inr "",.inl 0]) (Q:=λv h'=>∃os l,v=.ref l/\Ext h8 h'/\h'[l]?=some (.lst (os.map dP))/\os.Perm ds/\os.Pairwise (λa b=>bD (kyR b) (kyR a)=false)) (tB tp) (by omega) (Ip ds) (λ_ _=>rfl) (tZ kyR KU rd.nd) (λd hd h Q kk=>G6 d (rd.ok d hd).1.len h Q kk) λos h' x p ho=>⟨os,_,rfl,x.trans (Ext.app _ _),aF,p,ho⟩);have eo:cp=os:=Ax (br.imp λ{a b} z=>by rw[<-Im];exact z) rk ((pm.map _).nodup_iff.mpr rd.nd) nd λd=>by rw[pm.mem_iff,mm]
  subst eo;simp[e9];refine now ?_;rw[aC];simp;refine KO nd wf lo g9 λl6 c6 DD h10 qw wq hD=>?_;refine now ?_;rw[aC];have hc:=hZ (js:=[none,none,none,some 6]) (tg:=gTp 3 (gCn (gN 0) (gCn (gN 1) (gCn (gN 2) gNl)))) (tst:=nP) (elt:=aX (aA (mV 0) (aA (aB vAt (mV 3) (mV 0)) aD))) (m:=mV 5) (δ:=[some (.fl (ns.map PV.int)),some (.ref l1),some (.int m),some (.ref p5),some (.ref l4),some (.ref l9),some (.ref l6),none,none,none]) (h:=h10) (h1:=h10) (n:=l9) (ys:=cp) (emb:=dP) (λd=>some (.tup [pv d.nm,(DD d.nm).getD .non])) (by simp) (qw _ _ g9) (by omega)
   (λd hd=>⟨[some (pv d.nm),some (sv d.seen),some (.tup (aI d.act)),some (.ref l6)],by simp[gR,dP],λh3 hx=>⟨rfl,by
    obtain⟨v,ev,_⟩:=hD d hd;simp[(wq.ext hx).at' ev,ev]⟩⟩)
  rw[filterMap_some]at hc;have ot:Ext h10 (h10++[MO.lst (cp.map λd=>.tup [pv d.nm,(DD d.nm).getD .non])]):=Ext.app _ _;have k6:(h10++[MO.lst (cp.map λd=>PV.tup [pv d.nm,(DD d.nm).getD .non])])[h10.length]?=some (.lst (cp.map λd=>.tup [pv d.nm,(DD d.nm).getD .non])):=aF;have ow:Rw (h10++[MO.lst (cp.map λd=>.tup [pv d.nm,(DD d.nm).getD .non])]) (λi=>h9.length<=i) cp (jJ cp).R (cp.map λd=>.tup [pv d.nm,(DD d.nm).getD .non]):=⟨by simp,λi d hi=>by
   obtain⟨v,ev,fv⟩:=hD d (Pn hi);refine⟨v,by rw[zo,hi];simp[ev],fv.keep (λi o _ e=>ot _ _ e) λ_ z=>z⟩⟩
  have vn:=qw.len;generalize cp.map (λd=>PV.tup [pv d.nm,(DD d.nm).getD .non])=ws at hc ot k6 ow;generalize h10.length=l7 at hc k6 vn;generalize h10++[MO.lst ws]=h11 at hc ot k6 ow;simp[hc];have l9':=x9.len;have b4:=(yx.mp g8).1;have xx:=x9.trans (qw.trans ot);have uk:=r8.keep (h':=h11) (λi o _ e=>xx _ _ e) λ_ z=>z;have qe:=xx _ _ g8;have vo:=xx _ _ tp;refine now ?_;rw[aC,aY];have i1:pE [.ref l4,.ty "list"] h11=.ok (.bl true) h11:=by rw[EH qe];rfl
  have e1:=Cq uk ow qe k6;have i2:pK (.ref l4) (.ref l7) h11=.ok (.bl false) h11:=by unfold pK;rw[e1];rfl
  simp[i1,i2];refine now ?_;rw[aC];refine G7 uk qe λx8 x9 h12 fr=>?_;refine now ?_;have bl1:=(yx.mp gd).1;have xa:=fr _ _ (by omega) k6;have xg:=ow.keep (h':=h12) (λi o hi e=>fr i o (by omega) e) λ_ z=>z;simp;refine AB D2 (fr _ _ (by omega) vo) λyt us sg vh b13 yk lu fu=>?_;have e2:=Cq (⟨lu,fu⟩:Rw sg _ cp (jJ cp).R us) (xg.keep (λi o _ e=>vh _ _ e) λ_ z=>z) yk (vh _ _ xa);have i3:Aj (.ref yt) (.ref l7) sg=.ok (.bl true) sg:=by unfold Aj;rw[e2];rfl
  simp[i3]
 obtain⟨p,h,e,rfl⟩:=hW w;exact⟨h,e⟩
end K72
namespace K72
open PySem L2
def top(i:Nat):Stmt:=PySem.Challenge.pw_copymeet_k72_lost_with_their_ring.main.body.getD i (.Pass ⟨0,0,0,0⟩)
abbrev bsL:List Str:=["range","sorted","len","sum","max","tuple","list","str","isinstance"]
abbrev cC(w:World)(K:yz)(cl:Str->Option Addr):MC:=⟨K,cl,bsL,λ_ _ _=>False,w⟩
abbrev clF(a7 bu av au:Addr):Str->Option Addr:=λz=>if z=("Choice" : Str) then some a7 else if z=("Tree" : Str) then some bu else if z=("Folding" : Str) then some av else if z=("Undoing" : Str) then some au else none
theorem clI{p:Addr->Prop}{a7 bu av au a:Addr}{c:Str}(hc:clF a7 bu av au c=some a)(dz:p a7)(jz:p bu)(de:p av)(dg:p au):p a:=by
 dsimp only[clF]at hc;split at hc
 ·cases hc
  exact dz
 split at hc
 ·cases hc
  exact jz
 split at hc
 ·cases hc
  exact de
 split at hc
 ·cases hc
  exact dg
 cases hc
abbrev fL:List Str:=["failed","leaves","made","numbers","placers","signs_left","standing","tree","undone","writers"]
def NfX(K:yz)(A:Addr):List Str->Prop
 |[]=>True
 |f::r=>Pv K (.ref A) f=some none/\NfX K A r
theorem NfX.at{K:yz}{A:Addr}{f:Str}:∀{l:List Str},NfX K A l->f∈l->Pv K (.ref A) f=some none
 |_::_,h,.head _=>h.1
 |_::_,h,.tail _ m=>NfX.at h.2 m
theorem anE{a b c:Prop}(h:a/\b)(f:a->b->c):c:=f h.1 h.2
def tgN:Expr->List Str
 |.Name x _=>[x]
 |.Tuple es _ _=>es.flatMap λe=>match e with
  |.Name x _=>[x]
  |.Tuple gs _ _=>gs.flatMap λe=>match e with
   |.Name x _=>[x]
   |_=>[]
  |_=>[]
 |_=>[]
def mkN(o:List Str):List (Option Nat)->List Str->List Str
 |some j::r,xs=>o.getD j "" :: mkN o r xs
 |none::r,x::xs=>x::mkN o r xs
 |_,_=>[]
def ndB:List Str->Bool
 |[]=>true
 |x::r=>r.all (λy=>!decide (x=y))&&ndB r
theorem kB:∀{l:List Str},ndB l=true->l.Nodup
 |[],_=>.nil
 |x::r,h=>by
  simp only[ndB,z0,zp]at h;exact Qq.2 ⟨λm=>by simpa using h.1 x m,kB h.2⟩
section
variable{C:MC}{k i:Nat}{X:Cx}{elt iter tg:Expr}{ifs:List Expr}{sc os:Scope}{pos pos' b9:Pos}{oN:List Str}{js:List (Option Nat)}{mi:Mi}{g:Mg}{tt:Ev->PH->Rs Bool}{me:Me}{x:Str}
theorem OJ(e:X.env.scope=os)(e':X.N=oN)(h:iH os oN sc (mkN oN js (tgN tg)) js=true)(nd:ndB (mkN oN js (tgN tg))=true)(hi:SI C k X tg iter mi)
  (hg:∀a b c d,(X.comp sc (mkN oN js (tgN tg)) a b c d).N.Nodup->SG C k (X.comp sc (mkN oN js (tgN tg)) a b c d) tg g/\STs C k (X.comp sc (mkN oN js (tgN tg)) a b c d) ifs tt/\SE C k (X.comp sc (mkN oN js (tgN tg)) a b c d) elt me)
  (hs:∀x,P4 iter X.env x=pure x:=by intro _;rfl):SE C k X (.ListComp elt [⟨tg,iter,ifs,0⟩] sc pos) (cV js mi g tt me):=Ka e e' h hi (λa b c d=>(hg a b c d (kB nd)).1) (λa b c d=>(hg a b c d (kB nd)).2.1) (λa b c d=>(hg a b c d (kB nd)).2.2) hs
theorem OK(nd:X.N.Nodup)(h1:X.N[i]?=some x)(h2:X.env.scope.names.lookup x=some .local)(e:X.env.scope=os)(e':X.N=oN)(h:iH os oN sc (mkN oN js (tgN tg)) js=true)(k0:ndB (mkN oN js (tgN tg))=true)(hi:SI C k X tg iter mi)
  (hg:∀a b c d,(X.comp sc (mkN oN js (tgN tg)) a b c d).N.Nodup->SG C k (X.comp sc (mkN oN js (tgN tg)) a b c d) tg g/\STs C k (X.comp sc (mkN oN js (tgN tg)) a b c d) ifs tt/\SE C k (X.comp sc (mkN oN js (tgN tg)) a b c d) elt me)
  (ku:RS (.ListComp elt [⟨tg,iter,ifs,0⟩] sc pos) (some (.Name x pos')) b9.line X.env=pure true:=by rfl) (hs:∀x,P4 iter X.env x=pure x:=by intro _;rfl):SSt C k X (.Assign [.Name x pos'] (.ListComp elt [⟨tg,iter,ifs,0⟩] sc pos) b9) (aO i (cV js mi g tt me)):=D7 nd h1 h2 e e' h hi (λa b c d=>(hg a b c d (kB k0)).1) (λa b c d=>(hg a b c d (kB k0)).2.1) (λa b c d=>(hg a b c d (kB k0)).2.2) ku hs
end
def fsB(N:List Str)(n:Nat)(sc:Scope):Bool:=(match sc.kind with|.function=>true|_=>false) && !sc.isCoroutine && !sc.isGenerator&&ndB N&&decide (n<=N.length)&&(N.take n).all (λx=>match sc.names.lookup x with|some .local=>true|some .cell=>true|_=>false)&&sc.names.all λy=>match y.2 with|.free=>false|_=>true
theorem G8{N:List Str}{n:Nat}{sc:Scope}(h:fsB N n sc=true):mT N (N.take n) sc/\(N.take n).length=n:=by
 simp only[fsB,z0,Bool.not_eq_true',zp,decide_eq_true_eq]at h;obtain⟨⟨⟨⟨⟨⟨h1,h2⟩,h3⟩,h4⟩,h5⟩,h6⟩,h7⟩:=h;have hl:(N.take n).length=n:=by rw[Q8];omega
 refine⟨⟨?_,h2,h3,kB h4,by rw[hl],λx m=>?_,λy m e=>?_⟩,hl⟩
 ·split at h1
  ·assumption
  ·cases h1
 ·have:=h6 x m;split at this
  ·exact .inl (by assumption)
  ·exact .inr (by assumption)
  ·cases this
 ·have:=h7 y m;rw[e]at this;cases this
def FnX(K:yz)(f:Addr)(nm qual:Str)(st:Stmt):Prop:=∃oc kV doc pm cdv ct od an osl,K.lookup f=some ⟨oc,od,.func (Qd nm qual (eB st) (bU st) (aQ st) .none kV doc pm an cdv ct),osl⟩/\RW K cdv qual=true/\Qo K (.ref f)=true
def MtX(K:yz)(A:Addr)(nm qual:Str)(st:Stmt):Prop:=∃f,Pv K (.ref A) nm=some (some (.ref f))/\PySem.W.isFn K (.ref f)=true/\FnX K f nm qual st
def DfX(K:yz)(nm:Str)(st:Stmt):Prop:=∃f,PySem.W.nsIn K PM nm=some (some (.ref f))/\FnX K f nm nm st
def DsL(K:yz):List (Str×Nat)->Prop
 |[]=>True
 |(x,i)::r=>DfX K x (top i)/\DsL K r
def fA(K:yz)(x:Str):Addr:=match PySem.W.nsIn K PM x with
 |some (some (.ref f))=>f
 |_=>0
def mA(K:yz)(A:Addr)(x:Str):Addr:=match Pv K (.ref A) x with
 |some (some (.ref f))=>f
 |_=>0
def dA(K:yz)(a:Addr):Qe:=match K.lookup a with
 |some ⟨_,_,.func f,_⟩=>f
 |_=>Qd "" "" (eB (top 0)) [] (aQ (top 0)) .none .none .none .none none .none .none
theorem DsL.at{K:yz}{x:Str}{i:Nat}:∀{l:List (Str×Nat)},DsL K l->(x,i)∈l->DfX K x (top i)
 |_::_,h,.head _=>h.1
 |_::_,h,.tail _ m=>DsL.at h.2 m
abbrev BdX(nm qual:Str)(st:Stmt)(n:Nat)(ps:List Str):Prop:=∀(kV doc pm:Value)(an:Option Addr)(cdv ct:Value)(us:List Value),us.length=n->bindArgs (Qd nm qual (eB st) (bU st) (aQ st) .none kV doc pm an cdv ct) ⟨us,[]⟩=pure (ps.zip us)
structure ClX(K:yz)(A:Addr)(nm:Str)(fs:List Str):Prop where
 n:PySem.W.nsIn K PM nm=some (some (.ref A))
 pg:RI K A Str.empty=true
 hd:PySem.W.hasDictIn K A=true
 po:PySem.W.plainOver K A=true
 sa:Pv K (.ref A) "__setattr__" = some (some (.builtin "object.__setattr__"))
 mx:PySem.W.makesIn K A=true
 kc:Qo K (.ref A)=true
 nf:NfX K A fs
theorem ClX.cls9{K:yz}{A:Addr}{nm:Str}{fs:List Str}(q:ClX K A nm fs):Cls K A:=⟨q.pg,q.hd,q.po,q.sa⟩
structure ClZ(w:World)(K:yz)(mg:Str->Option Value)(cl:Str->Option Addr)(c:Str)(A:Addr):Prop where
 cl:cl c=some A
 hc:Cls K A
 mg:mg c=some (.ref A)
 mx:PySem.W.makesIn K A=true
 kc:Qo K (.ref A)=true
theorem mtN{C:MC}{k:Nat}{X:Cx}{m c:Str}{n j:Nat}{a g:Addr}{fd:Qe}{ps:List Str}{f:Fn}{tb:Str->Option Fn}(h:(C.cl c=some a/\Cls C.K a)/\CB C.K a m g/\cD X.prog X.w C.K X.mg X.base CX0 j g fd ps (spM C (n+1) f)/\Binds C.K fd ps [])(h6:j<=k)(r:Ag C X k m n tb):Ag C X k m n (λz=>if z=c then some f else tb z):=HC h.1.1 h.1.2 h.2.1 h6 h.2.2.1 h.2.2.2 r
def MsL(K:yz)(A:Addr):List (Str×Str×Nat×Nat)->Prop
 |[]=>True
 |(x,q,i,j)::r=>MtX K A x q (inClass (top i) j)/\MsL K A r
abbrev dL:List (Str×Nat):=[("_law_drawn",46),("_law_hands",47),("_law_name",48),("_law_act",49),("_law_deeds",50),("empty",40),("place_of",21),("stand_of",36),("leaf_of",32),("fates_in_force",43),("stamp",4),("rank",5),("in_order",6),("name_of",8),("taker_of",9),("takers",10),("in_force",12),("taken_by",11),("fates",44),("_law_rank",51),("_law_fits",52),("_law_idle",54),("_law_way",53),("_law_due",55),("law",56)]
abbrev AC:List (Str×Str×Nat×Nat):=[("__init__","Choice.__init__",16,0)]
abbrev G9:List (Str×Str×Nat×Nat):=[("__init__","Tree.__init__",35,0),("fill","Tree.fill",35,12),("hear","Tree.hear",35,1),("hear_make","Tree.hear_make",35,2),("hear_move","Tree.hear_move",35,3),("kind_of","Tree.kind_of",35,6),("put","Tree.put",35,5),("ring","Tree.ring",35,8),("takes","Tree.takes",35,4)]
abbrev wM:List (Str×Str×Nat×Nat):=[("__init__","Folding.__init__",39,0),("add_leaf","Folding.add_leaf",39,1),("hear","Folding.hear",39,2),("hear_tree","Folding.hear_tree",39,3)]
abbrev wN:List (Str×Str×Nat×Nat):=[("__init__","Undoing.__init__",42,0),("hear","Undoing.hear",42,1)]
section
variable{P:Program}{w:World}{K:yz}{mg:Str->Option Value}{base:Heap}{cl:Str->Option Addr}
variable(P w K mg base cl)
abbrev tC(j:Nat)(x:Str)(t:Nat)(N:List Str)(n:Nat)(m:Fn):Prop:=Def K mg x (top t) (fA K x) (dA K (fA K x)) (N.take n)/\cD P w K mg base CX0 j (fA K x) (dA K (fA K x)) (N.take n) (spM (cC w K cl) n m)
abbrev tM(c:Str)(A:Addr)(j:Nat)(x:Str)(N:List Str)(n:Nat)(m:Fn):Prop:=(cl c=some A/\Cls K A)/\CB K A x (mA K A x)/\cD P w K mg base CX0 j (mA K A x) (dA K (mA K A x)) (N.take n) (spM (cC w K cl) n m)/\Binds K (dA K (mA K A x)) (N.take n) []
abbrev tI(c:Str)(A:Addr)(j:Nat)(N:List Str)(n:Nat)(m:Fn):Prop:=cl c=some A/\Mk K A (mA K A "__init__")/\cD P w K mg base CX0 j (mA K A "__init__") (dA K (mA K A "__init__")) (N.take n) (spM (cC w K cl) n m)/\mg c=some (.ref A)/\Binds K (dA K (mA K A "__init__")) (N.take n) []
variable{P w K mg base cl}
theorem mbL{x:Str}(h:x∈bsL:=by decide +kernel):x∈(cC w K cl).bs:=h
structure ZZ(P:Program)(base:Heap)(w:World)(K:yz)(mg:Str->Option Value)(cl:Str->Option Addr)(A_Choice A_Tree A_Folding A_Undoing kC:Addr):Prop where
 hbn:∀x∈bsL,mg x=none
 XG:∃h:Heap,K.In h/\h.Ns PM mg
 ds:DsL K dL
 z_Choice:ClZ w K mg cl "Choice" A_Choice
 m_Choice:MsL K A_Choice AC
 z_Tree:ClZ w K mg cl "Tree" A_Tree
 m_Tree:MsL K A_Tree G9
 z_Folding:ClZ w K mg cl "Folding" A_Folding
 m_Folding:MsL K A_Folding wM
 z_Undoing:ClZ w K mg cl "Undoing" A_Undoing
 m_Undoing:MsL K A_Undoing wN
 MG_ROOT:mg "ROOT" = some (.ref kC)
 GT_ROOT:N9 K kC [.str "",.int (0)]
 ff:∀f∈fL,F8 (cC w K cl) f
variable{A_Choice A_Tree A_Folding A_Undoing kC:Addr}(Z:ZZ P base w K mg cl A_Choice A_Tree A_Folding A_Undoing kC)
include Z
theorem dfM{k t:Nat}{x:Str}{N:List Str}{n:Nat}{body:Ms}(c:fsB N n (aQ (top t))=true)(b:BdX x x (top t) n (N.take n))(d:(x,t)∈dL)
  (h:∀f cdv A outer s H E,N.Nodup->SSs (cC w K cl) k (uK CX0 P w K mg base N x (aQ (top t)) f cdv A outer s H E).nox (bU (top t)) body):tC P w K mg base cl (k+1) x t N n (mFn N.length body):=by
 obtain⟨f,a,_,_,_,_,_,_,_,_,_,l,o,p⟩:=Z.ds.at d;obtain⟨_,X,G⟩:=Z.XG;obtain⟨S,e⟩:=G8 c;have D:=Def.mk' X G a l o p (ps:=N.take n) (by rwa[e]);have F:=IK (C:=cC w K cl) (P:=P) (mg:=mg) (base:=base) (λ_ _ _ h=>h) Z.hbn D.fn S λcdv A outer s H E=>h f cdv A outer s H E S.nd;rw[e]at F;have q:fA K x=f:=by rw[fA,a]
 rw[tC,q,dA,l];exact⟨D,F⟩
theorem fdL{f:Str}(h:f∈fL:=by decide +kernel):F8 (cC w K cl) f:=Z.ff f h
theorem mtM{k n:Nat}{A:Addr}{c x q:Str}{st:Stmt}{N:List Str}{body:Ms}(z:ClZ w K mg cl c A)(y:MtX K A x q st)(c':fsB N n (aQ st)=true)(b:BdX x q st n (N.take n))
  (h:∀f cdv A outer s H E,N.Nodup->SSs (cC w K cl) k (uK CX0 P w K mg base N q (aQ st) f cdv A outer s H E).nox (bU st) body):tM P w K mg base cl c A (k+1) x N n (mFn N.length body):=by
 obtain⟨f,a,i,_,_,_,_,_,_,_,_,_,l,o,p⟩:=y;have F:=AX (st:=st) l o p;obtain⟨S,e⟩:=G8 c';have G:=IK (C:=cC w K cl) (P:=P) (mg:=mg) (base:=base) (λ_ _ _ h=>h) Z.hbn F S λcdv A outer s H E=>h f cdv A outer s H E S.nd;rw[e]at G;have r:mA K A x=f:=by rw[mA,a]
 rw[tM,r,dA,l];exact⟨⟨z.cl,z.hc⟩,⟨a,i,p⟩,G,F.binds (ps:=N.take n) (by rwa[e])⟩
theorem mkM{k n:Nat}{A:Addr}{c q:Str}{st:Stmt}{N:List Str}{body:Ms}(z:ClZ w K mg cl c A)(y:MtX K A "__init__" q st)(c':fsB N n (aQ st)=true)(b:BdX "__init__" q st n (N.take n))
  (h:∀f cdv A outer s H E,N.Nodup->SSs (cC w K cl) k (uK CX0 P w K mg base N q (aQ st) f cdv A outer s H E).nox (bU st) body):tI P w K mg base cl c A (k+1) N n (mFn N.length body):=by
 obtain⟨_,m,a,b'⟩:=mtM Z z y c' b h;exact⟨z.cl,⟨z.mx,m.at_,m.fn,z.kc⟩,a,z.mg,b'⟩
local macro_rules|`(tactic|ac_rfl)=>`(tactic|repeat' first|((with_reducible show SSs _ _ _ [_] _);refine K6 ?_)|exists SSt,(aO _ (cV _ _ _ _ _)),(OK nd rfl rfl rfl rfl (by rfl) (by rfl) ?_ λ_ _ _ _ nd=>⟨?_,?_,?_⟩)|exists (jE _ 0 _ aD),(anE (by ac_nf) λc r=>anE r λm r=>anE r λg r=>anE r λq b=>HE c m g q b)|exists (iR _ Bool.false _),(anE (by ac_nf) λD G=>Hz D G ?_ (hb:=mbL))|exists (mV _),(LN _)|exists SA,(aA _ _),(K0 ?_ ?_)|exists (mC (PV.int _)),LO|exists SSs,(aE _ _),(Hg ?_ ?_)|exists SA,aD,Mf|exists (aB vAt _ _),(OE ?_ ?_)|exists SG,(gN _),(K2 nd)|exists (mC (PV.str _)),LQ|exists SSt,(aO _ _),(Mr nd ?_)|((with_reducible show SE _ _ _ (.BinOp _ _ _ _) (aB _ _ _));refine LR ?_ ?_ ?_)|exists SSt,(aU _),(Mv ?_)|exists ST,(aK (aB _ _ _)),(M3 ?_ ?_ ?_)|exists SGs,(gCn _ _),(K3 ?_ ?_)|exists SSt,(aV _ _ _),(Om ?_ ?_ ?_)|exists SSs,bA,K4|exists (aS _ _ _),(anE (by ac_nf) λD G=>s_call D G ?_)|exists (aX _),(Mh ?_)|exists OpS,vEq,M0|((with_reducible show SI _ _ _ _ _ (bB _));refine Mw ?_)|exists OpS,fN,LY|exists OpS,bQ,Kd|exists (eI _),(Mj ?_)|exists SSt,(aZ _ _ _),(Ks ?_ ?_ ?_)|exists SG,(gTp _ _),(Mp ?_)|exists SGs,gNl,Mn|exists (mUn (cH _) _),(N7 (fdL Z) ?_)|exists SSt,(eC _ _ _),(Mx ?_ ?_ ?_)|exists bP,He|exists (cY _ _ _ _ _),(Ko ?_ ?_ ?_)|exists SSt,(jH _),(Mu ?_)|exists SSt,(fD _ _ _),(N8 (fdL Z) ?_ ?_)|exists SSt,(nN _ _),(Mt ?_ ?_)|exists SO,(mP _),(JZ ?_)|exists (mC PV.non),LP|exists OpS,sJ,LX|exists OpS,cB,Kv|exists (mSl _ _ _),(Oj ?_ ?_ ?_)|exists SO,nL,JY|exists OpS,xK,LW|exists (mMt isL (onL bM) _ _),(Oo PySem.F.plainAttrs_list PySem.F.slot_list_append PySem.F.type_list_append EC ?_ ?_)|((with_reducible show ST _ _ _ (.BoolOp _ _ _) _);refine SW.t ?_)|exists (cV _ _ _ _ _),(OJ rfl rfl (by rfl) (by rfl) ?_ λ_ _ _ _ nd=>⟨?_,?_,?_⟩)|exists (mCB sO _),(nM Ml PyProof.Rows.Boot.«len» ?_ (hb:=mbL))|exists STs,nP,K9|((with_reducible show SE _ _ _ (.Compare _ _ _ _) (aB _ _ _));refine LS ?_ ?_ ?_)|exists SW,(nK _ _),(w_and ?_ ?_)|((with_reducible show SW _ _ _ (.BoolOp _ [_] _) _);refine JW ?_)|exists OpS,sR,MB|exists (mCB xU _),(nM MX PyProof.Rows.Boot.«sum» ?_ (hb:=mbL))|exists (mCB pE _),(nM xP PyProof.Rows.Boot.«isinstance» ?_ (hb:=mbL))|exists OpS,bK,Dq|((with_reducible show STs _ _ _ [_] _);refine K' ?_)|exists OpS,vGt,Og|exists OpS,pK,KG|exists (mUn _ _),(Oe ?_ ?_)|exists UnS,xM,MA|exists OpS,A3,LV|exists (mIf _ _ _),(Hc ?_ ?_ ?_)|exists (mC (PV.ty "str")),(En PyProof.Rows.Boot.«str» (hb:=mbL))|exists ST,(vL _),(M5 ?_)|exists OpS,fH,Hb|((with_reducible show SI _ _ _ _ _ (vN _));refine K8 ?_ (hb:=mbL))|exists SW,(Bc _ _),(w_or ?_ ?_)|((with_reducible show SW _ _ _ (.BoolOp _ [_] _) _);refine M6 ?_)|exists OpS,Aj,KF|exists SSt,(pD _ _ _),(Hi ?_ ?_)|exists (mMt cX nV _ _),(OF PySem.F.plainAttrs_dict P6 PySem.F.type_dict_get N0 ?_ ?_)|exists (mC (PV.bl _)),Od|exists SSt,xO,Mq|((with_reducible show SI _ _ _ _ _ (wG _));refine Nc ?_)|exists (mCB iO _),(nM EV PyProof.Rows.Boot.«sorted» ?_ (hb:=mbL))|exists OpS,Df,MY|exists OpS,vR,Kh|exists OpS,pJ,HK|exists OpS,JV,LZ|exists (mCB Ew _),(nM Mm PyProof.Rows.Boot.«max» ?_ (hb:=mbL))|exists (mCB pC _),(A6 Hf PyProof.Rows.Boot.«tuple» ?_ (hb:=mbL))|exists (mCB vM _),(A6 K1 PyProof.Rows.Boot.«list» ?_ (hb:=mbL))|exists (mC (.tup _)),(Kt Z.MG_ROOT Z.GT_ROOT)|exists (jE _ _ _ _),(anE (by ac_nf) λc r=>anE r λm r=>anE r λg r=>anE r λq b=>Kr c m g q b ?_)|exists (yH _),(anE (by ac_nf) λD G=>HL D G)|((with_reducible show SI _ _ _ _ _ (tO _ _));refine Kz _ (λ_=>⟨_,_,_,rfl⟩) ?_)|exists (sQ cX gM _),(IM PySem.F.plainAttrs_dict PySem.F.slot_dict_items PySem.F.type_dict_items Fh ?_)|exists (sQ cX vY _),(IM PySem.F.plainAttrs_dict PySem.F.slot_dict_values PySem.F.type_dict_values m_values ?_)|exists (iR _ _ _),(anE (by ac_nf) λD G=>F2 D G ?_ (hb:=mbL))|exists (A4 _ _),(M8 ?_ ?_)|((with_reducible show SE _ _ _ (.BoolOp _ [_] _) _);refine M7 ?_)|exists (A5 _),(M9 ?_)|exists (mC (PV.ty "list")),(En PyProof.Rows.Boot.«list» (hb:=mbL))|exists (sQ isL (onL lK) _),(My PySem.F.plainAttrs_list PySem.F.slot_list_clear PySem.F.type_list_clear Hj ?_)|exists ST,(aK _),(M1 ?_)|exists SSt,(pI _ _ _),(KB _ _ ?_)|exists SSt,eL,Nd|((with_reducible show Ag _ _ _ _ _ _);refine mtN (by ac_nf) (by decide) ?_)|((with_reducible show Ag _ _ _ _ _ _);exact Kn)|unfold pL|unfold pM|unfold pN|unfold pO|unfold kI|unfold iC|unfold kW|unfold fE|unfold gW|unfold bY|unfold dR|unfold jA|unfold oB|unfold mH|unfold wI|unfold yT|unfold rH|unfold rJ)
local macro_rules|`(tactic|and_intros)=>`(tactic|intro _ _ _ _ _ _ us hl;rcases us with _|⟨_,_|⟨_,_|⟨_,_|⟨_,_|⟨_,_|⟨_,_⟩⟩⟩⟩⟩⟩<;>first|rfl|cases hl)
local macro_rules|`(tactic|exists $e:ident)=>`(tactic|(refine dfM Z (by decide +kernel) (by and_intros) (by decide +kernel) λ_ _ _ _ _ _ _ nd=>?_;(conv=>arg 4;whnf);unfold $e;ac_rfl))|`(tactic|exists $a,$b,$c,$d:ident)=>`(tactic|(refine $a Z $b $c (by decide +kernel) (by and_intros) λ_ _ _ _ _ _ _ nd=>?_;(conv=>arg 4;whnf);unfold $d;ac_rfl))|`(tactic|exists $e,$f)=>`(tactic|((with_reducible show SE _ _ _ _ $e);refine $f))|`(tactic|exists $k,$e,$f)=>`(tactic|((with_reducible show $k _ _ _ _ $e);refine $f))
local macro_rules|`(tactic|ac_nf)=>`(tactic|first|exact Ir Z|exact Iu Z|exact KZ Z|exact Np Z|exact Iv Z|exact Iw Z|exact BC Z|exact BD Z|exact DA Z|exact pY Z|exact Iy Z|exact L0 Z|exact BE Z|exact DB Z|exact BF Z|exact Ga Z|exact BG Z|exact BH Z|exact Iz Z|exact Gb Z|exact L1 Z|exact L3 Z|exact Nq Z|exact Nr Z|exact oP Z|exact qW Z|exact AD Z|exact AE Z|exact pZ Z|exact qA Z|exact uG Z|exact BJ Z|exact AF Z|exact zD Z|exact mQ Z|exact mR Z|exact uH Z|exact kQ Z|exact mS Z|exact uI Z)
theorem Ir:tC P w K mg base cl 1 "_law_drawn" 46 ["_law_cell","_law_place","_law_number"] 2 cF:=by
 exists yI
theorem Iu:tC P w K mg base cl 2 "_law_hands" 47 ["_law_cell","_law_hands_here","_law_k","_law_hand","_law_step","_law_letter"] 1 yK:=by
 exists yJ
theorem KZ:tC P w K mg base cl 1 "_law_name" 48 ["_law_deeds_here","_law_number","_law_some"] 2 yL:=by
 exists Br
theorem Np:tC P w K mg base cl 2 "_law_act" 49 ["_law_cell","_law_deeds_here","_law_way_here","_law_thing","_law_holder","_law_spot"] 2 Fs:=by
 exists Fq
theorem Iv:tC P w K mg base cl 3 "_law_deeds" 50 ["_law_script","_law_hands_here","_law_most","_law_hand","_law_deeds_here","_law_cell","_law_far","_law_seen","_law_other","_law_many"] 1 yN:=by
 exists yM
theorem qW:tI P w K mg base cl "Tree" A_Tree 1 ["self"] 1 dI   := by
 exists mkM,Z.z_Tree,Z.m_Tree.1,dH
theorem AD:tM P w K mg base cl "Tree" A_Tree 1 "fill" ["self","rows","lost","thing","kind","holder","spot"] 3 gO   := by
 exists mtM,Z.z_Tree,Z.m_Tree.2.1,jW
theorem mQ:tI P w K mg base cl "Folding" A_Folding 3 ["self","base","rows","lost","thing","kind","holder","spot","content"] 2 dM   := by
 exists mkM,Z.z_Folding,Z.m_Folding.1,dJ
theorem Iw:tC P w K mg base cl 1 "empty" 40 [] 0 rD:=by
 exists yP
theorem mS:tI P w K mg base cl "Undoing" A_Undoing 1 ["self"] 1 dO   := by
 exists mkM,Z.z_Undoing,Z.m_Undoing.1,dN
theorem uG:tM P w K mg base cl "Tree" A_Tree 1 "kind_of" ["self","thing"] 2 cK   := by
 exists mtM,Z.z_Tree,Z.m_Tree.2.2.2.2.2.1,fV
theorem zD:tM P w K mg base cl "Tree" A_Tree 2 "takes" ["self","holder","spot"] 3 cQ   := by
 exists mtM,Z.z_Tree,Z.m_Tree.2.2.2.2.2.2.2.2.1,iU
theorem BC:tC P w K mg base cl 1 "place_of" 21 ["spot","name","under","side","hand","n"] 2 iV:=by
 exists mB
theorem BD:tC P w K mg base cl 2 "stand_of" 36 ["spot","name"] 2 eQ:=by
 exists mD
theorem pZ:tM P w K mg base cl "Tree" A_Tree 3 "hear_make" ["self","name","act","word","kind","holder","spot"] 3 cR   := by
 exists mtM,Z.z_Tree,Z.m_Tree.2.2.2.1,eR
theorem BJ:tM P w K mg base cl "Tree" A_Tree 1 "put" ["self","thing","holder","spot"] 4 cL   := by
 exists mtM,Z.z_Tree,Z.m_Tree.2.2.2.2.2.2.1,mE
theorem AF:tM P w K mg base cl "Tree" A_Tree 1 "ring" ["self","thing","holder","way","upper"] 3 fF   := by
 exists mtM,Z.z_Tree,Z.m_Tree.2.2.2.2.2.2.2.1,jX
theorem qA:tM P w K mg base cl "Tree" A_Tree 3 "hear_move" ["self","name","act","word","thing","holder","spot"] 3 cS   := by
 exists mtM,Z.z_Tree,Z.m_Tree.2.2.2.2.1,eS
theorem AE:tM P w K mg base cl "Tree" A_Tree 4 "hear" ["self","deed","name","seen","act"] 2 dX   := by
 exists mtM,Z.z_Tree,Z.m_Tree.2.2.1,jY
theorem uI:tM P w K mg base cl "Undoing" A_Undoing 1 "hear" ["self","deed","name","seen","act"] 2 bL   := by
 exists mtM,Z.z_Undoing,Z.m_Undoing.2.1,eD
theorem oP:tI P w K mg base cl "Choice" A_Choice 1 ["self"] 1 gP   := by
 exists mkM,Z.z_Choice,Z.m_Choice.1,eG
theorem DA:tC P w K mg base cl 3 "leaf_of" 32 ["kind"] 1 pR:=by
 exists pQ
theorem mR:tM P w K mg base cl "Folding" A_Folding 4 "add_leaf" ["self","thing","kind","leaf"] 3 bW   := by
 exists mtM,Z.z_Folding,Z.m_Folding.2.1,dQ
theorem kQ:tM P w K mg base cl "Folding" A_Folding 5 "hear_tree" ["self","deed","fate","act"] 2 bO   := by
 exists mtM,Z.z_Folding,Z.m_Folding.2.2.2.1,cW
theorem uH:tM P w K mg base cl "Folding" A_Folding 6 "hear" ["self","deed","act"] 2 cM   := by
 exists mtM,Z.z_Folding,Z.m_Folding.2.2.1,fW
theorem pY:tC P w K mg base cl 7 "fates_in_force" 43 ["deeds","folding","undoing","found","deed","name","seen","act","outcome","by"] 1 eU:=by
 exists eT
theorem Iy:tC P w K mg base cl 1 "stamp" 4 ["deed"] 1 yQ:=by
 exists rF
theorem L0:tC P w K mg base cl 2 "rank" 5 ["deed","hand","n"] 1 Bt:=by
 exists Bs
theorem BE:tC P w K mg base cl 5 "in_order" 6 ["deeds","by_name","deed"] 1 dU:=by
 exists mF
theorem DB:tC P w K mg base cl 1 "name_of" 8 ["deed"] 1 kJ:=by
 exists pS
theorem BF:tC P w K mg base cl 1 "taker_of" 9 ["n","backs","back","word","first","last"] 2 jB:=by
 exists mG
theorem Ga:tC P w K mg base cl 4 "takers" 10 ["deeds","taken","backs","deed","hand","n","word","by"] 1 oC:=by
 exists tR
theorem BG:tC P w K mg base cl 6 "in_force" 12 ["deeds","ordered","taken"] 1 mJ:=by
 exists mI
theorem BH:tC P w K mg base cl 6 "taken_by" 11 ["deeds","ordered","taken"] 1 mL:=by
 exists mK
theorem Iz:tC P w K mg base cl 8 "fates" 44 ["deeds","found","name","by"] 1 rG:=by
 exists yR
theorem Gb:tC P w K mg base cl 1 "_law_rank" 51 ["_law_deed"] 1 oE:=by
 exists tS
theorem L1:tC P w K mg base cl 1 "_law_fits" 52 ["_law_made","_law_act_here","_law_kind"] 2 yS:=by
 exists Bu
theorem L3:tC P w K mg base cl 2 "_law_idle" 54 ["_law_made","_law_act_here"] 2 tT:=by
 exists Bv
theorem Nq:tC P w K mg base cl 1 "_law_way" 53 ["_law_made","_law_thing","_law_holder","_law_way_here"] 3 Cb:=by
 exists Fu
theorem Nr:tC P w K mg base cl 3 "_law_due" 55 ["_law_rows","_law_made","_law_due_here","_law_last","_law_name_here","_law_seen","_law_act_here","_law_thing","_law_kind","_law_way_here"] 1 Fw:=by
 exists Fv
theorem Nt:tC P w K mg base cl 9 "law" 56 ["_law_script","_law_deeds_here","_law_cut","_law_handed","_law_found","_law_rows","_law_due_here","_law_listed","_law_name_here","_law_fate"] 1 Fy:=by
 exists Fx
end
def spL(K:yz):Sp:=λvs H Q _=>∃(a:Addr)(ns:List Int),vs=[.ref a]/\E4 H/\SqL K H a (ns.map V.int)/\ns.length<=63/\∀H',Q (.bl true) H'
theorem all_mk{l:PySem.W.OpenLaw}{w:World}{K:yz}{h:Heap}{mg:Str->Option Value}{fa A_Choice A_Tree A_Folding A_Undoing kC:Addr}(X:K.In h)(G:h.Ns PM mg)(vk:mg "law" = some (.ref fa))(hbn:∀x∈bsL,mg x=none)
  (ds:DsL K dL)
  (ai:ClX K A_Choice "Choice" fL)
  (m_Choice:MsL K A_Choice AC)
  (ba:ClX K A_Tree "Tree" fL)
  (m_Tree:MsL K A_Tree G9)
  (ah:ClX K A_Folding "Folding" fL)
  (m_Folding:MsL K A_Folding wM)
  (ag:ClX K A_Undoing "Undoing" fL)
  (m_Undoing:MsL K A_Undoing wN)
  {az:Array Value} {cx:Nat} {f9:Array (Option Value)} (L4:PySem.W.nsIn K PM "ROOT" = some (some (.ref kC))) (jw:K.lookup kC=some ⟨.type "tuple",none,.seq az cx,f9⟩) (jf:aJ [.str "",.int (0)] az.toList) (jl:az.size<=zk)
  : ∃fd:Qe,(∀(s:Shared)(v:Value),BindsTo s fd ⟨[v],[]⟩ [("_law_script",v)])/\∀base:Heap,K.In base->base.Ns PM mg->cD l.prog w K mg base CX0 9 fa fd ["_law_script"] (spL K):=by
 have Z:∀b,ZZ l.prog b w K mg (clF A_Choice A_Tree A_Folding A_Undoing) A_Choice A_Tree A_Folding A_Undoing kC:=λ_=>⟨hbn,⟨_,X,G⟩,ds,⟨(if_pos rfl),ai.cls9,Rv X G ai.n,ai.mx,ai.kc⟩,m_Choice,⟨((if_neg (by decide)).trans (if_pos rfl)),ba.cls9,Rv X G ba.n,ba.mx,ba.kc⟩,m_Tree,⟨((if_neg (by decide)).trans ((if_neg (by decide)).trans (if_pos rfl))),ah.cls9,Rv X G ah.n,ah.mx,ah.kc⟩,m_Folding,⟨((if_neg (by decide)).trans ((if_neg (by decide)).trans ((if_neg (by decide)).trans (if_pos rfl)))),ag.cls9,Rv X G ag.n,ag.mx,ag.kc⟩,m_Undoing,Rv X G L4,⟨_,az,cx,[.str "",.int (0)],jw,rfl,rfl,jl,jf,rfl,rfl⟩,λf i c a hc=>clI (p:=λa=>Cls K a/\iG K a f) hc ⟨ai.cls9,ai.nf.at i⟩ ⟨ba.cls9,ba.nf.at i⟩ ⟨ah.cls9,ah.nf.at i⟩ ⟨ag.cls9,ag.nf.at i⟩⟩;obtain⟨f,a,oc,kV,doc,pm,cdv,ct,od,an,osl,l',c,k⟩:=(Z h).ds.at (x:="law") (i:=56) (by decide +kernel);cases vk.symm.trans (Rv X G a)
 refine⟨_,λs v=>.of_eq (fd:=Qd "law" "law" (eB (top 56)) (bU (top 56)) (aQ (top 56)) .none kV doc pm an cdv ct) rfl,λbase _ _=>?_⟩;obtain⟨_,F⟩:=Nt (Z base);have q:fA K "law" = fa:=by rw[fA,a]
 rw[q,dA,l']at F;refine F.imp λvs H Q E hh=>?_;obtain⟨a,ns,rfl,hO,hS,hl,hq⟩:=hh;exact Kb (C:=cC w K (clF A_Choice A_Tree A_Folding A_Undoing)) hO hS (main ns hl) hq
theorem walk{l:PySem.W.OpenLaw}{q:Program}{loose:List Str}{XP:(Str->Option Value)->Heap->Prop}{YP:World->Heap->Prop}{d:DefRec}{K:Params->yz}(hn:l.most=some 63)(ly:d.params.defaults=[])
  (hY:∀(w:World)(h:Heap),YP w h->(K w.params).In h)
  (F:∀(w:World)(mg:Str->Option Value)(fa:Addr)(h:Heap),(K w.params).In h->h.Ns PM mg->mg d.name=some (.ref fa)->
   ∃fd:Qe,(∀(s:Shared)(u:Value),BindsTo s fd ⟨[u],[]⟩ [("_law_script",u)])/\∀base:Heap,(K w.params).In base->base.Ns PM mg->cD l.prog w (K w.params) mg base CX0 9 fa fd ["_law_script"] (spL (K w.params))):
  PySem.W.WalkO q loose XP YP l.row.toRowW d [] (λf vs=>PySem.call f vs):=
 L2.walk_of (n:=63) (k:=9) (x:="_law_script") (CX:=λ_=>CX0) (sp:=λw=>spL (K w.params)) hn (by decide) ly ⟨rfl,by decide,by decide⟩ hY F (λw H a ns hl hO hS=>⟨a,ns,rfl,hO,hS,hl,λ_=>rfl⟩) λ_ _ _ _ _ z=>z
end K72
open PySem PySem.W PyProof.Rows
namespace PySem.W.Fast
theorem tw16689897098262528386:True:=⟨⟩
theorem tw1686296854398989772:True:=⟨⟩
theorem tw9833748665700185761:True:=⟨⟩
theorem tw14108174732094699342:True:=⟨⟩
theorem tw13953270475228760093:True:=⟨⟩
theorem tw2736096902915349879:True:=⟨⟩
theorem tw17187109566931651610:True:=⟨⟩
theorem tw6754444262488594622:True:=⟨⟩
theorem tw13025409699530011810:True:=⟨⟩
theorem tw16347843716837941378:True:=⟨⟩
theorem tw16587073644144664946:True:=⟨⟩
theorem tw5890228607710410995:True:=⟨⟩
theorem tw4754330466815944402:True:=⟨⟩
theorem tw10780463472186202419:True:=⟨⟩
theorem tw3768561598870600438:True:=⟨⟩
theorem tw17622944604071301071:True:=⟨⟩
theorem tw9430537815441779349:True:=⟨⟩
theorem tw12144353589533924343:True:=⟨⟩
theorem tw4313126831358495538:True:=⟨⟩
theorem tw16631314837060098016:True:=⟨⟩
theorem tw3304994744677477505:True:=⟨⟩
theorem tw7853630549083533645:True:=⟨⟩
theorem tw8551662296142204872:True:=⟨⟩
theorem tw16487568967975625462:True:=⟨⟩
theorem tw15668141182098305693:True:=⟨⟩
theorem tw8994540802464440687:True:=⟨⟩
theorem tw9648383854286119610:True:=⟨⟩
theorem tw9613799980633705796:True:=⟨⟩
theorem tw11895356198396595087:True:=⟨⟩
theorem tw12900945033624275906:True:=⟨⟩
theorem tw743765648880127655:True:=⟨⟩
theorem tw14672710405991596225:True:=⟨⟩
theorem tw9960427395347730351:True:=⟨⟩
theorem tw14587302771286281373:True:=⟨⟩
theorem tw14670985996590934019:True:=⟨⟩
theorem tw9820890458513562468:True:=⟨⟩
theorem tw5480406503656011626:True:=⟨⟩
theorem tw397463767642198115:True:=⟨⟩
theorem tw144769273531382184:True:=⟨⟩
theorem tw3872098106679575659:True:=⟨⟩
theorem tw15318141988247924110:True:=⟨⟩
theorem tw9664270820655768498:True:=⟨⟩
theorem tw271743422491855644:True:=⟨⟩
theorem tw17573284478883945109:True:=⟨⟩
theorem tw13899803263179295312:True:=⟨⟩
theorem tw12022935476416958130:True:=⟨⟩
theorem tw6890136944870900027:True:=⟨⟩
theorem tw7091868340314152037:True:=⟨⟩
theorem tw7228265198143420973:True:=⟨⟩
theorem tw8478856120134585881:True:=⟨⟩
theorem tw6957388112487476421:True:=⟨⟩
theorem tw13259722905897483009:True:=⟨⟩
theorem tw17802227997779908544:True:=⟨⟩
theorem tw15031874185209422576:True:=⟨⟩
theorem tw5572635770637673325:True:=⟨⟩
theorem tw17950229861491432640:True:=⟨⟩
theorem tw5253248614962246541:True:=⟨⟩
theorem tw10623503752714661926:True:=⟨⟩
theorem tw9333372953217103911:True:=⟨⟩
theorem tw6658572647843862953:True:=⟨⟩
theorem tw17426007756351148925:True:=⟨⟩
theorem tw9194065844929847485:True:=⟨⟩
theorem tw3518731552908936399:True:=⟨⟩
theorem tw10748588246273326645:True:=⟨⟩
theorem tw7601133334952828250:True:=⟨⟩
theorem tw11736999795651195918:True:=⟨⟩
theorem tw17885948721438775394:True:=⟨⟩
theorem tw10014779266988678883:True:=⟨⟩
theorem tw17223933325563840045:True:=⟨⟩
theorem tw7360088526789607519:True:=⟨⟩
theorem tw11215479908863857454:True:=⟨⟩
theorem tw10473579165129040235:True:=⟨⟩
theorem tw17703484497355690718:True:=⟨⟩
theorem tw3326226529051054605:True:=⟨⟩
theorem tw11560166460455203036:True:=⟨⟩
theorem tw15704457005944636007:True:=⟨⟩
theorem tw6822973313552401942:True:=⟨⟩
theorem tw9713375218839530957:True:=⟨⟩
theorem tw7932651112847079812:True:=⟨⟩
theorem tw12396836447076109557:True:=⟨⟩
theorem tw2447988612758078670:True:=⟨⟩
theorem tw6657834953219200369:True:=⟨⟩
theorem tw11451525729429038723:True:=⟨⟩
theorem tw11962424668057674611:True:=⟨⟩
theorem tw12695397266564737302:True:=⟨⟩
theorem tw18294456345672846000:True:=⟨⟩
theorem tw8789288565373257258:True:=⟨⟩
theorem tw10776119391476478732:True:=⟨⟩
theorem tw17609314265229923605:True:=⟨⟩
theorem tw10379291316799571158:True:=⟨⟩
theorem tw12294979113902847857:True:=⟨⟩
theorem tw8358671532754983514:True:=⟨⟩
theorem tw13744738636469253438:True:=⟨⟩
theorem tw17465558455335116105:True:=⟨⟩
theorem tw7708646871007026247:True:=⟨⟩
theorem tw10584168855563925139:True:=⟨⟩
theorem tw11640622940580694511:True:=⟨⟩
theorem tw1110410949897877473:True:=⟨⟩
theorem tw5612322712688327021:True:=⟨⟩
theorem tw6776078039256764581:True:=⟨⟩
theorem tw8024040540081703186:True:=⟨⟩
theorem tw4951494324778388195:True:=⟨⟩
theorem tw7748967894774897257:True:=⟨⟩
theorem tw12574539028263000125:True:=⟨⟩
theorem tw13678494333996272827:True:=⟨⟩
theorem tw11243007161577946613:True:=⟨⟩
theorem tw17217899706830906325:True:=⟨⟩
theorem tw3097931393845775612:True:=⟨⟩
theorem tw15606460380981988364:True:=⟨⟩
theorem tw6558884185230553946:True:=⟨⟩
theorem tw5971317648223668643:True:=⟨⟩
theorem tw8529981114029847982:True:=⟨⟩
theorem tw7888334301509493439:True:=⟨⟩
theorem tw6393089721957229643:True:=⟨⟩
theorem tw12960092246080446474:True:=⟨⟩
theorem tw5636085532738746668:True:=⟨⟩
theorem tw14663933418834880888:True:=⟨⟩
theorem tw9140225257826088751:True:=⟨⟩
theorem tw9475170000948830073:True:=⟨⟩
theorem tw8670329758497217953:True:=⟨⟩
theorem tw12946498854932435573:True:=⟨⟩
theorem tw16916845370571037600:True:=⟨⟩
theorem tw16799355912295238024:True:=⟨⟩
theorem tw1053011435090014826:True:=⟨⟩
theorem tw10756935190609895587:True:=⟨⟩
theorem tw10783188030497269554:True:=⟨⟩
theorem tw2109524350498657404:True:=⟨⟩
theorem tw12436948030018891091:True:=⟨⟩
theorem tw3724406179152255159:True:=⟨⟩
theorem tw11168970046695960442:True:=⟨⟩
theorem tw1217624768552679966:True:=⟨⟩
theorem tw11444470956564370275:True:=⟨⟩
theorem tw14762790130507104003:True:=⟨⟩
theorem tw11091586202237314876:True:=⟨⟩
theorem tw11624390861976135728:True:=⟨⟩
theorem tw8208819570644524483:True:=⟨⟩
theorem tw1595593491005863554:True:=⟨⟩
theorem tw16935643356634534447:True:=⟨⟩
theorem tw10839897626866440859:True:=⟨⟩
theorem tw5194707347113632476:True:=⟨⟩
theorem tw16071963263297729703:True:=⟨⟩
theorem tw7700717009941624978:True:=⟨⟩
theorem tw14351545825549484810:True:=⟨⟩
theorem tw7658555197426553308:True:=⟨⟩
theorem tw5861542906098662326:True:=⟨⟩
theorem tw2854136476921286196:True:=⟨⟩
theorem tw17140652141133469658:True:=⟨⟩
theorem tw9817852021471645775:True:=⟨⟩
theorem tw13947945003357695723:True:=⟨⟩
theorem tw5634340752358891739:True:=⟨⟩
theorem tw1210013493688920933:True:=⟨⟩
theorem tw9384416188188011580:True:=⟨⟩
theorem tw3754737337030610768:True:=⟨⟩
theorem tw16580869543235932563:True:=⟨⟩
theorem tw17859918075520859925:True:=⟨⟩
theorem tw14074491824458845376:True:=⟨⟩
theorem tw9296470680627333686:True:=⟨⟩
theorem tw6194252449532991298:True:=⟨⟩
theorem tw1792011658986257669:True:=⟨⟩
theorem tw12949348781918064335:True:=⟨⟩
theorem tw3201229701772205658:True:=⟨⟩
theorem tw7448509102944648773:True:=⟨⟩
theorem tw12885231464172725898:True:=⟨⟩
theorem tw12052324479852258042:True:=⟨⟩
theorem tw8684589445026792294:True:=⟨⟩
theorem tw17752470945529963466:True:=⟨⟩
theorem tw561713549823068045:True:=⟨⟩
theorem tw2091741802764563200:True:=⟨⟩
theorem tw9133616302831573259:True:=⟨⟩
theorem tw3489103894854019677:True:=⟨⟩
theorem tw5447724944708634471:True:=⟨⟩
theorem tw1721546819390284119:True:=⟨⟩
theorem tw10161386486529862050:True:=⟨⟩
theorem tw11384650931721363750:True:=⟨⟩
theorem tw12322246398732686647:True:=⟨⟩
theorem tw12012882333221963231:True:=⟨⟩
theorem tw10749697933906570784:True:=⟨⟩
theorem tw4019507261836094892:True:=⟨⟩
theorem tw5371219860414576608:True:=⟨⟩
theorem tw6302629367160786905:True:=⟨⟩
theorem tw16651958402903272618:True:=⟨⟩
theorem tw11079123481322345847:True:=⟨⟩
theorem tw12429160963162737384:True:=⟨⟩
theorem tw12592249121990852254:True:=⟨⟩
theorem tw10527232777239319525:True:=⟨⟩
theorem tw21708818651211020:True:=⟨⟩
theorem tw1392450401143947124:True:=⟨⟩
theorem tw9815467363090767032:True:=⟨⟩
theorem tw1329339533810396882:True:=⟨⟩
theorem tw10315259607326183679:True:=⟨⟩
theorem tw16669802281761791996:True:=⟨⟩
theorem tw10866478781137635652:True:=⟨⟩
theorem tw12808332061160780890:True:=⟨⟩
theorem tw570905693824923180:True:=⟨⟩
theorem tw16447530566662942541:True:=⟨⟩
theorem tw13926319840603907395:True:=⟨⟩
theorem tw9884978632692687148:True:=⟨⟩
theorem tw13600707739943747885:True:=⟨⟩
theorem tw4136353533699144634:True:=⟨⟩
theorem tw17401627103367601786:True:=⟨⟩
theorem tw6650675307098506334:True:=⟨⟩
theorem tw13104455552739847160:True:=⟨⟩
theorem tw15852721082994924694:True:=⟨⟩
theorem tw15774105263791801400:True:=⟨⟩
theorem tw1010205685183752419:True:=⟨⟩
theorem tw1605694917874429838:True:=⟨⟩
theorem tw8521880845264404788:True:=⟨⟩
theorem tw15874220717393176332:True:=⟨⟩
theorem tw13394796038350105698:True:=⟨⟩
theorem tw8241695883289747193:True:=⟨⟩
theorem tw6680616808489435028:True:=⟨⟩
theorem tw15571783940786481448:True:=⟨⟩
theorem tw16407745031112903765:True:=⟨⟩
theorem tw18039206866073987940:True:=⟨⟩
theorem tw4672016887709399905:True:=⟨⟩
theorem tw11819549123004181057:True:=⟨⟩
theorem tw17720210573145914364:True:=⟨⟩
theorem tw1850846388282986622:True:=⟨⟩
theorem tw11404098964062408:True:=⟨⟩
theorem tw17963051036154814825:True:=⟨⟩
theorem tw13554674512489161935:True:=⟨⟩
theorem tw4522435530661220961:True:=⟨⟩
theorem tw8576711048358842274:True:=⟨⟩
theorem tw8546844694239440018:True:=⟨⟩
theorem tw16018047762358096893:True:=⟨⟩
theorem tw15776954670752863688:True:=⟨⟩
theorem tw1889785787429680568:True:=⟨⟩
theorem tw3589488340596120190:True:=⟨⟩
theorem tw12310000882704791252:True:=⟨⟩
theorem tw9408038671775862548:True:=⟨⟩
theorem tw7166995365880396514:True:=⟨⟩
theorem tw15449403201758794516:True:=⟨⟩
theorem tw12489704126471578028:True:=⟨⟩
theorem tw17622926218189753011:True:=⟨⟩
theorem tw17225347099076988071:True:=⟨⟩
theorem tw33122374516982255:True:=⟨⟩
theorem tw17762765630550331156:True:=⟨⟩
theorem tw18343470228309542113:True:=⟨⟩
theorem tw10028372149177649356:True:=⟨⟩
theorem tw2936145377430490439:True:=⟨⟩
theorem tw10025122662290309698:True:=⟨⟩
theorem tw2090794525268087505:True:=⟨⟩
theorem tw11122333858446146944:True:=⟨⟩
theorem tw17568874223122432376:True:=⟨⟩
theorem tw10538882738478759836:True:=⟨⟩
theorem tw15963458302614022919:True:=⟨⟩
theorem tw15837738787799024742:True:=⟨⟩
theorem tw1402722640762550655:True:=⟨⟩
theorem tw15156435503587570235:True:=⟨⟩
theorem tw10065542114652408579:True:=⟨⟩
theorem tw11949788768978462415:True:=⟨⟩
theorem tw10904566724002545615:True:=⟨⟩
theorem tw14900199669774484774:True:=⟨⟩
theorem tw3779609333133658558:True:=⟨⟩
theorem tw1443256163807450731:True:=⟨⟩
theorem tw6821409598603884227:True:=⟨⟩
theorem tw14748055684851078465:True:=⟨⟩
theorem tw18353252687154696881:True:=⟨⟩
theorem tw11237014570911360080:True:=⟨⟩
theorem tw9286128986390278856:True:=⟨⟩
theorem tw1032643592757187537:True:=⟨⟩
theorem tw3241380377856361913:True:=⟨⟩
theorem tw16351623648529907290:True:=⟨⟩
theorem tw16773505604677640803:True:=⟨⟩
theorem tw13665806105838576284:True:=⟨⟩
theorem tw1788430404312024204:True:=⟨⟩
theorem tw1856028220012000267:True:=⟨⟩
theorem tw10826875943749332111:True:=⟨⟩
theorem tw7010249946935458197:True:=⟨⟩
theorem tw13589029850369276527:True:=⟨⟩
theorem tw14763217893805803377:True:=⟨⟩
theorem tw10213628292703827913:True:=⟨⟩
theorem tw17402035085724838859:True:=⟨⟩
theorem tw8703184522045567120:True:=⟨⟩
theorem tw2881229859927296068:True:=⟨⟩
theorem tw12625894212830876854:True:=⟨⟩
theorem tw6055197374850099035:True:=⟨⟩
theorem tw16627481816386131556:True:=⟨⟩
theorem tw12750442491246115635:True:=⟨⟩
theorem tw2973002179402468442:True:=⟨⟩
theorem tw6462012314703339561:True:=⟨⟩
theorem tw4768338461492007305:True:=⟨⟩
theorem tw12628983497269597285:True:=⟨⟩
theorem tw15398696085848470211:True:=⟨⟩
theorem tw6699939462425071221:True:=⟨⟩
theorem tw11210103426694043121:True:=⟨⟩
theorem tw17190321122023294051:True:=⟨⟩
theorem tw8511052686843760903:True:=⟨⟩
theorem tw17807346766649540366:True:=⟨⟩
theorem tw1668814277410109927:True:=⟨⟩
theorem tw9696301744234666427:True:=⟨⟩
theorem tw71510041909377987:True:=⟨⟩
theorem tw8849493138897358506:True:=⟨⟩
theorem tw3159936849169783760:True:=⟨⟩
theorem tw17202876465364868586:True:=⟨⟩
theorem tw1764378388377125146:True:=⟨⟩
theorem tw14835804382905264670:True:=⟨⟩
theorem tw4163866782958995842:True:=⟨⟩
theorem tw400823642483730073:True:=⟨⟩
theorem tw4173906802357626199:True:=⟨⟩
theorem tw554100642273333404:True:=⟨⟩
theorem tw5029855353686153248:True:=⟨⟩
theorem tw7874768587368151026:True:=⟨⟩
theorem tw4888957274366921305:True:=⟨⟩
theorem tw9425497404794971855:True:=⟨⟩
theorem tw14744614787213649201:True:=⟨⟩
theorem tw7109800810015667810:True:=⟨⟩
theorem tw9846501224758536295:True:=⟨⟩
theorem tw2638545605725168102:True:=⟨⟩
theorem tw7606512326283251652:True:=⟨⟩
theorem tw15102134842786859813:True:=⟨⟩
theorem tw858107126411193102:True:=⟨⟩
theorem tw3654443800339677795:True:=⟨⟩
theorem tw16010410700147800726:True:=⟨⟩
theorem tw2039978585788924716:True:=⟨⟩
theorem tw1566787867282276432:True:=⟨⟩
theorem tw9188310371708193225:True:=⟨⟩
theorem tw10187385563983628027:True:=⟨⟩
theorem tw1710533384654240773:True:=⟨⟩
theorem tw6042137714033454271:True:=⟨⟩
theorem tw4443431348070566766:True:=⟨⟩
theorem tw275325872103102230:True:=⟨⟩
theorem tw11921847850024801004:True:=⟨⟩
theorem tw9208949776202471091:True:=⟨⟩
theorem tw1805281068939190103:True:=⟨⟩
theorem tw10944638859175355205:True:=⟨⟩
theorem tw17266561465333534228:True:=⟨⟩
theorem tw2931341220919098096:True:=⟨⟩
theorem tw10125784358964021635:True:=⟨⟩
theorem tw9529052987558651868:True:=⟨⟩
theorem tw8554217178443714329:True:=⟨⟩
theorem tw3063126414353566129:True:=⟨⟩
theorem tw14999867640845391103:True:=⟨⟩
theorem tw3644703021895986960:True:=⟨⟩
theorem tw2704480494576789806:True:=⟨⟩
theorem tw6081805908235000709:True:=⟨⟩
theorem tw14765366591718859694:True:=⟨⟩
theorem tw275194311109307890:True:=⟨⟩
theorem tw3003497497584004085:True:=⟨⟩
theorem tw9770808234826576662:True:=⟨⟩
theorem tw13350590786624187972:True:=⟨⟩
theorem tw14165474160175037982:True:=⟨⟩
theorem tw4834802197515722813:True:=⟨⟩
theorem tw7911897369686309320:True:=⟨⟩
theorem tw5445627444595265748:True:=⟨⟩
theorem tw9524042185959733245:True:=⟨⟩
theorem tw6808242881717181370:True:=⟨⟩
theorem tw29073777197570879:True:=⟨⟩
theorem tw2996877555770608195:True:=⟨⟩
theorem tw17518423528663930039:True:=⟨⟩
theorem tw5381641337325782922:True:=⟨⟩
theorem tw16320127040978061294:True:=⟨⟩
theorem tw469756478563658295:True:=⟨⟩
theorem tw11711571334856280247:True:=⟨⟩
theorem tw615836091303245095:True:=⟨⟩
theorem tw14914821963074619065:True:=⟨⟩
theorem tw6306881521444440549:True:=⟨⟩
theorem tw15431156908845701785:True:=⟨⟩
theorem tw7918372570170151441:True:=⟨⟩
theorem tw14607753953236102905:True:=⟨⟩
theorem tw5875378343161960562:True:=⟨⟩
theorem tw5206569813469453447:True:=⟨⟩
theorem tw15558864928845978379:True:=⟨⟩
theorem tw4451253184613098052:True:=⟨⟩
theorem tw7359908388386664500:True:=⟨⟩
theorem tw1767699895714551242:True:=⟨⟩
theorem tw7721935001599791238:True:=⟨⟩
theorem tw13177484775188826882:True:=⟨⟩
theorem tw15393928697320413870:True:=⟨⟩
theorem tw15148213791881416049:True:=⟨⟩
theorem tw4106619651756677163:True:=⟨⟩
theorem tw5306994030208198332:True:=⟨⟩
theorem tw908261061677460090:True:=⟨⟩
theorem tw184552771728377585:True:=⟨⟩
theorem tw4508808640590783525:True:=⟨⟩
theorem tw18336454658016404980:True:=⟨⟩
theorem tw12335284601488117964:True:=⟨⟩
theorem tw16338158459377585997:True:=⟨⟩
theorem tw16956269764190230177:True:=⟨⟩
theorem tw13147711296531866661:True:=⟨⟩
theorem tw18349922767079532627:True:=⟨⟩
theorem tw6069942123683378483:True:=⟨⟩
theorem tw10107064730306052629:True:=⟨⟩
theorem tw3385896965544336172:True:=⟨⟩
theorem tw3100523654299639386:True:=⟨⟩
theorem tw6594759831490044898:True:=⟨⟩
theorem tw7903281008758240755:True:=⟨⟩
theorem tw11459374735721849659:True:=⟨⟩
theorem tw17628280896120450232:True:=⟨⟩
theorem tw13305214214370625429:True:=⟨⟩
theorem tw11030677432565091887:True:=⟨⟩
theorem tw3474464340572353746:True:=⟨⟩
theorem tw363925744369138201:True:=⟨⟩
theorem tw817438365126832908:True:=⟨⟩
theorem tw4905748721070791371:True:=⟨⟩
theorem tw14802055750031409043:True:=⟨⟩
theorem tw2256836650157532002:True:=⟨⟩
theorem tw10189319808881089389:True:=⟨⟩
theorem tw15819631589342327326:True:=⟨⟩
theorem tw6015451105854461405:True:=⟨⟩
theorem tw6339622809953240573:True:=⟨⟩
theorem tw11641467790273105569:True:=⟨⟩
theorem tw9464122839351170247:True:=⟨⟩
theorem tw4819043817134335786:True:=⟨⟩
theorem tw1148940308047855537:True:=⟨⟩
theorem tw6572355328345083611:True:=⟨⟩
theorem tw11778521823474529782:True:=⟨⟩
theorem tw10359258702044562195:True:=⟨⟩
theorem tw17313366242233383037:True:=⟨⟩
theorem tw10193293914757707308:True:=⟨⟩
theorem tw13813798774537819717:True:=⟨⟩
theorem tw10370788339291031816:True:=⟨⟩
theorem tw14963809704945111349:True:=⟨⟩
theorem tw558981880814197831:True:=⟨⟩
theorem tw2641861967405731281:True:=⟨⟩
theorem tw8133217254499276826:True:=⟨⟩
theorem tw8372740772182689787:True:=⟨⟩
theorem tw17863659628098506492:True:=⟨⟩
theorem tw14881726012439031357:True:=⟨⟩
theorem tw4400087586169105482:True:=⟨⟩
theorem tw5039842938071045277:True:=⟨⟩
theorem tw12381138427284594536:True:=⟨⟩
theorem tw2999165450154057713:True:=⟨⟩
theorem tw6848417623796121437:True:=⟨⟩
theorem tw16833692551460599282:True:=⟨⟩
theorem tw10590632483558866081:True:=⟨⟩
theorem tw1673767183908499519:True:=⟨⟩
theorem tw10525719436928892775:True:=⟨⟩
theorem tw10355448486681763106:True:=⟨⟩
theorem tw1887958771369742800:True:=⟨⟩
theorem tw5536532197068920174:True:=⟨⟩
theorem tw7949677559856893152:True:=⟨⟩
theorem tw3577832568397617456:True:=⟨⟩
theorem tw4499528377780215825:True:=⟨⟩
theorem tw10433984936816183580:True:=⟨⟩
theorem tw11902902106612375252:True:=⟨⟩
theorem tw1392662753320954161:True:=⟨⟩
theorem tw14305829491561368860:True:=⟨⟩
theorem tw18213275363467007445:True:=⟨⟩
theorem tw599586923449515885:True:=⟨⟩
theorem tw14959447415216078322:True:=⟨⟩
theorem tw354011867348431374:True:=⟨⟩
theorem tw7439703383565482259:True:=⟨⟩
theorem tw9780372497960378235:True:=⟨⟩
theorem tw13909949425349758824:True:=⟨⟩
theorem tw7565662910858184246:True:=⟨⟩
theorem tw9526392741970711940:True:=⟨⟩
theorem tw10505636430711095557:True:=⟨⟩
theorem tw3607872208753336167:True:=⟨⟩
theorem tw13605515500552243472:True:=⟨⟩
theorem tw5711997178105845886:True:=⟨⟩
theorem tw15167645775041985021:True:=⟨⟩
theorem tw13803179481428599124:True:=⟨⟩
theorem tw2165478272315467728:True:=⟨⟩
theorem tw4566096038081493586:True:=⟨⟩
theorem tw5925320931446065176:True:=⟨⟩
theorem tw8685999667459280174:True:=⟨⟩
theorem tw2688120834307413565:True:=⟨⟩
theorem tw12589915531893149283:True:=⟨⟩
theorem tw8786113022333401629:True:=⟨⟩
theorem tw9193564959354574063:True:=⟨⟩
theorem tw11598849108164993268:True:=⟨⟩
theorem tw1631669050915693487:True:=⟨⟩
theorem tw5446442566279134647:True:=⟨⟩
theorem tw6165792013714762055:True:=⟨⟩
theorem tw810471979179739920:True:=⟨⟩
theorem tw16381197535102777646:True:=⟨⟩
theorem tw13435505586917024467:True:=⟨⟩
theorem tw1801496688547527127:True:=⟨⟩
theorem tw11722651485328605352:True:=⟨⟩
theorem tw586684290195767441:True:=⟨⟩
theorem tw18123101499569207261:True:=⟨⟩
theorem tw8111980829402805195:True:=⟨⟩
theorem tw6091231709845651956:True:=⟨⟩
theorem tw14213276192274645475:True:=⟨⟩
theorem tw14624180448583201970:True:=⟨⟩
theorem tw17298655258417548352:True:=⟨⟩
theorem tw2068865637073607662:True:=⟨⟩
theorem tw17366301623705295291:True:=⟨⟩
theorem tw274993880684698150:True:=⟨⟩
theorem tw14383733230731506743:True:=⟨⟩
theorem tw1457064358430161674:True:=⟨⟩
theorem tw4122562362224508775:True:=⟨⟩
theorem tw16899213952106409028:True:=⟨⟩
theorem tw5299145716736932472:True:=⟨⟩
theorem tw17769560743654063678:True:=⟨⟩
theorem tw7525380734995971654:True:=⟨⟩
theorem tw8064164823329709753:True:=⟨⟩
theorem tw2127193452983109372:True:=⟨⟩
theorem tw2975877906447673678:True:=⟨⟩
theorem tw737622369496036466:True:=⟨⟩
theorem tw10995290510551615342:True:=⟨⟩
theorem tw14847506284722939342:True:=⟨⟩
theorem tw13203355448256816304:True:=⟨⟩
theorem tw11158989228854783835:True:=⟨⟩
theorem tw8574033664061101449:True:=⟨⟩
theorem tw2288253136619803363:True:=⟨⟩
theorem tw296287707661166059:True:=⟨⟩
theorem tw10328567461770267489:True:=⟨⟩
theorem tw8620511684260849675:True:=⟨⟩
theorem tw1822545583227156270:True:=⟨⟩
theorem tw16531449145017555680:True:=⟨⟩
theorem tw6174038764086957850:True:=⟨⟩
theorem tw6817017814777631246:True:=⟨⟩
theorem tw16130676210880652109:True:=⟨⟩
theorem tw13229501562362228910:True:=⟨⟩
theorem tw15227033777847499855:True:=⟨⟩
theorem tw14362520408094401166:True:=⟨⟩
theorem tw16605624008878472570:True:=⟨⟩
theorem tw4110652353446774176:True:=⟨⟩
theorem tw18113878843871537225:True:=⟨⟩
theorem tw4368798189141107561:True:=⟨⟩
theorem tw14048703065008545619:True:=⟨⟩
theorem tw16606711011691308848:True:=⟨⟩
theorem tw15665090723973370512:True:=⟨⟩
theorem tw8910031176018887000:True:=⟨⟩
theorem tw13317948474001487155:True:=⟨⟩
theorem tw8936567014406710161:True:=⟨⟩
theorem tw5137780043977063288:True:=⟨⟩
theorem tw5088018451689659443:True:=⟨⟩
theorem tw4523441800253033020:True:=⟨⟩
theorem tw10487015951702743269:True:=⟨⟩
theorem tw13739277123117659108:True:=⟨⟩
theorem tw17896328330123979086:True:=⟨⟩
theorem tw11994428462690415773:True:=⟨⟩
theorem tw14407299313814155989:True:=⟨⟩
theorem tw12069817942299743098:True:=⟨⟩
theorem tw15719101351203132429:True:=⟨⟩
theorem tw9513502633122591614:True:=⟨⟩
theorem tw195484498121402925:True:=⟨⟩
theorem tw10111358582071748655:True:=⟨⟩
theorem tw14596121734552109723:True:=⟨⟩
theorem tw2332776720031095181:True:=⟨⟩
theorem tw4859651710914737775:True:=⟨⟩
theorem tw18004972217606470720:True:=⟨⟩
theorem tw17543320060511974186:True:=⟨⟩
theorem tw11746751220734372667:True:=⟨⟩
theorem tw17818920678304545009:True:=⟨⟩
theorem tw15985659421409005541:True:=⟨⟩
theorem tw13815546278361218187:True:=⟨⟩
theorem tw4333943588023039571:True:=⟨⟩
theorem tw8068826162203504700:True:=⟨⟩
theorem tw15629280980123643253:True:=⟨⟩
theorem tw2152716852213558381:True:=⟨⟩
theorem tw603266712170930807:True:=⟨⟩
theorem tw16858221019672442311:True:=⟨⟩
theorem tw2796313573578917120:True:=⟨⟩
theorem tw10977489786133058112:True:=⟨⟩
theorem tw6928159464495861400:True:=⟨⟩
theorem tw16653460854415895973:True:=⟨⟩
theorem tw6159030271763192188:True:=⟨⟩
theorem tw17158168442835092569:True:=⟨⟩
theorem tw4336517218171449617:True:=⟨⟩
theorem tw1767135308064193044:True:=⟨⟩
theorem tw4126297802970018231:True:=⟨⟩
theorem tw2113655663766611645:True:=⟨⟩
theorem tw18094101641785240373:True:=⟨⟩
theorem tw10076823808181931851:True:=⟨⟩
theorem tw17341052122967256189:True:=⟨⟩
theorem tw12192742928862185805:True:=⟨⟩
theorem tw13793375884234944456:True:=⟨⟩
theorem tw9383449295958478274:True:=⟨⟩
theorem tw11308156219560973432:True:=⟨⟩
theorem tw15478257827928192495:True:=⟨⟩
theorem tw16275979058865968194:True:=⟨⟩
theorem tw2044160742645607035:True:=⟨⟩
theorem tw4620921958727066162:True:=⟨⟩
theorem tw1279914386465054399:True:=⟨⟩
theorem tw1458507362331282122:True:=⟨⟩
theorem tw14089209921068175203:True:=⟨⟩
theorem tw6369389752043785196:True:=⟨⟩
theorem tw498919188103036666:True:=⟨⟩
theorem tw14589742968603824359:True:=⟨⟩
theorem tw2256902759452020690:True:=⟨⟩
theorem tw16091845559916009120:True:=⟨⟩
theorem tw11684576947915865378:True:=⟨⟩
theorem tw5274449423188595267:True:=⟨⟩
theorem tw7388883820297635876:True:=⟨⟩
theorem tw12935192335269782075:True:=⟨⟩
theorem tw788363515645184614:True:=⟨⟩
theorem tw10956752919202709852:True:=⟨⟩
theorem tw1492604203669292214:True:=⟨⟩
theorem tw13132550563274845664:True:=⟨⟩
theorem tw3978462488762086415:True:=⟨⟩
theorem tw9910280911576205795:True:=⟨⟩
theorem tw13276581181039459464:True:=⟨⟩
theorem tw10494494561106983262:True:=⟨⟩
theorem tw6571615929572248261:True:=⟨⟩
theorem tw13760834186653839873:True:=⟨⟩
theorem tw2534796120368387278:True:=⟨⟩
theorem tw6032913967827929:True:=⟨⟩
theorem tw9444879669108008836:True:=⟨⟩
theorem tw17591502902349248511:True:=⟨⟩
theorem tw3871002334737837795:True:=⟨⟩
theorem tw7130945145477025011:True:=⟨⟩
theorem tw14851509551678771862:True:=⟨⟩
theorem tw1677918848450121134:True:=⟨⟩
theorem tw12208839643013165727:True:=⟨⟩
theorem tw1386804355205561895:True:=⟨⟩
theorem tw14593550897893256792:True:=⟨⟩
theorem tw7184568997664981071:True:=⟨⟩
theorem tw239498607830457843:True:=⟨⟩
theorem tw14046056830272872739:True:=⟨⟩
theorem tw7959606905155038890:True:=⟨⟩
theorem tw14897150570585947141:True:=⟨⟩
theorem tw8349697629054682117:True:=⟨⟩
theorem tw3038969868862025348:True:=⟨⟩
theorem tw14883168005364583107:True:=⟨⟩
theorem tw10710940662575928631:True:=⟨⟩
theorem tw8116163561292531076:True:=⟨⟩
theorem tw13313352090404636724:True:=⟨⟩
theorem tw10125067567829487614:True:=⟨⟩
theorem tw18089766550714307992:True:=⟨⟩
theorem tw11775572716545775387:True:=⟨⟩
theorem tw16820764271574296089:True:=⟨⟩
theorem tw5720628779625884035:True:=⟨⟩
theorem tw13264318860981584926:True:=⟨⟩
theorem tw17760053357452449328:True:=⟨⟩
theorem tw18247669445323882601:True:=⟨⟩
theorem tw9869422134777329128:True:=⟨⟩
theorem tw8963861511847177751:True:=⟨⟩
theorem tw10776455367838189866:True:=⟨⟩
theorem tw2736584868904198186:True:=⟨⟩
theorem tw2714861805483773129:True:=⟨⟩
theorem tw15509244465677873859:True:=⟨⟩
theorem tw6979994329195143967:True:=⟨⟩
theorem tw135673439974104907:True:=⟨⟩
theorem tw4227161218533283855:True:=⟨⟩
theorem tw13299658497266152255:True:=⟨⟩
theorem tw5078512122592394018:True:=⟨⟩
theorem tw11535530049903706230:True:=⟨⟩
theorem tw173696339335442917:True:=⟨⟩
theorem tw3188746892675071509:True:=⟨⟩
theorem tw15668419257901151641:True:=⟨⟩
theorem tw4315099815073728795:True:=⟨⟩
theorem tw3882376296667399612:True:=⟨⟩
theorem tw15231377448189379555:True:=⟨⟩
theorem tw4757594727460409603:True:=⟨⟩
theorem tw9287607832578855458:True:=⟨⟩
theorem tw5946229016468467468:True:=⟨⟩
theorem tw11224237196485056816:True:=⟨⟩
theorem tw11215306759042524792:True:=⟨⟩
theorem tw6844291668415771177:True:=⟨⟩
theorem tw962898593946189987:True:=⟨⟩
theorem tw6962474756278926762:True:=⟨⟩
theorem tw18042076145618634946:True:=⟨⟩
theorem tw3360606262588023807:True:=⟨⟩
theorem tw15188891115309802702:True:=⟨⟩
theorem tw1093623390648710558:True:=⟨⟩
theorem tw15006792969447597492:True:=⟨⟩
theorem tw14380195672554845520:True:=⟨⟩
theorem tw16666963228565116500:True:=⟨⟩
theorem tw14499631365588793578:True:=⟨⟩
theorem tw6284474951494914362:True:=⟨⟩
theorem tw3360701602286982157:True:=⟨⟩
theorem tw4363379345625177904:True:=⟨⟩
theorem tw11296667389382522859:True:=⟨⟩
theorem tw13784248358510624914:True:=⟨⟩
theorem tw9283263068143194540:True:=⟨⟩
theorem tw17177829943991462219:True:=⟨⟩
theorem tw4736363648156322295:True:=⟨⟩
theorem tw7637409265550718411:True:=⟨⟩
theorem tw16901986090126069064:True:=⟨⟩
theorem tw12797814624741459814:True:=⟨⟩
theorem tw13610276982978888562:True:=⟨⟩
theorem tw3242513821792250882:True:=⟨⟩
theorem tw12033082002961454954:True:=⟨⟩
theorem tw1843982031067811665:True:=⟨⟩
theorem tw798716349401744271:True:=⟨⟩
theorem tw11805258290860522719:True:=⟨⟩
theorem tw12262634078492507360:True:=⟨⟩
theorem tw5161982617609971801:True:=⟨⟩
theorem tw16722660732253455068:True:=⟨⟩
theorem tw13977635411647808451:True:=⟨⟩
theorem tw15994418075239395062:True:=⟨⟩
theorem tw5547161645460971473:True:=⟨⟩
theorem tw10014141830947601686:True:=⟨⟩
theorem tw18235259260845908632:True:=⟨⟩
theorem tw11644679734694385331:True:=⟨⟩
theorem tw17980711932155913948:True:=⟨⟩
theorem tw5171643713628522518:True:=⟨⟩
theorem tw1228449652077243504:True:=⟨⟩
theorem tw7553037463839693671:True:=⟨⟩
theorem tw438913838014354876:True:=⟨⟩
theorem tw4772244822541639688:True:=⟨⟩
theorem tw2587460204956158307:True:=⟨⟩
theorem tw15514074915554298343:True:=⟨⟩
theorem tw10738497860101587148:True:=⟨⟩
theorem tw8657844968153623990:True:=⟨⟩
theorem tw5819748513818182862:True:=⟨⟩
theorem tw1741521766187617729:True:=⟨⟩
theorem tw12684927118189713733:True:=⟨⟩
theorem tw15592411086635285721:True:=⟨⟩
theorem tw13397446486852689007:True:=⟨⟩
theorem tw5090209087384312752:True:=⟨⟩
theorem tw7559445647475734284:True:=⟨⟩
theorem tw1729250010779492134:True:=⟨⟩
theorem tw15224988237744759909:True:=⟨⟩
theorem tw2158362736530222321:True:=⟨⟩
theorem tw9759690592974315774:True:=⟨⟩
theorem tw8593508903734813697:True:=⟨⟩
theorem tw17762248783601949478:True:=⟨⟩
theorem tw3260706453735745706:True:=⟨⟩
theorem tw3268702341876044004:True:=⟨⟩
theorem tw17290906529044331670:True:=⟨⟩
theorem tw9152992207678117565:True:=⟨⟩
theorem tw17007509242659631273:True:=⟨⟩
theorem tw14192606845676994766:True:=⟨⟩
theorem tw4614805874840856424:True:=⟨⟩
theorem tw14013614999924895939:True:=⟨⟩
theorem tw6825236533616081933:True:=⟨⟩
theorem tw6648591919199020537:True:=⟨⟩
theorem tw15653399215747301516:True:=⟨⟩
theorem tw326674102649463862:True:=⟨⟩
theorem tw4484998832111416015:True:=⟨⟩
theorem tw17205038597119969568:True:=⟨⟩
theorem tw14633822763209601397:True:=⟨⟩
theorem tw12663330470330421547:True:=⟨⟩
theorem tw3665551531638020917:True:=⟨⟩
theorem tw17826847796254721474:True:=⟨⟩
theorem tw4848861844367672367:True:=⟨⟩
theorem tw536420486082642960:True:=⟨⟩
theorem tw5205888712184968180:True:=⟨⟩
theorem tw16515059169580027006:True:=⟨⟩
theorem tw12780560817647253395:True:=⟨⟩
theorem tw13471252834081686609:True:=⟨⟩
theorem tw342065991748166610:True:=⟨⟩
theorem tw2180263437495946435:True:=⟨⟩
theorem tw4864401516499688574:True:=⟨⟩
theorem tw4551079543374544211:True:=⟨⟩
theorem tw6255297395283979380:True:=⟨⟩
theorem tw11682157976027577301:True:=⟨⟩
theorem tw4549211759415991129:True:=⟨⟩
theorem tw4815809119927545566:True:=⟨⟩
theorem tw14761515040833980108:True:=⟨⟩
theorem tw7154962170715760535:True:=⟨⟩
theorem tw16698184071385848293:True:=⟨⟩
theorem tw9895008847754367342:True:=⟨⟩
theorem tw15359286448486405985:True:=⟨⟩
theorem tw3615182138169398544:True:=⟨⟩
theorem tw5835575815006484763:True:=⟨⟩
theorem tw7794569850586117292:True:=⟨⟩
theorem tw7042083402509299098:True:=⟨⟩
theorem tw12147599036737030421:True:=⟨⟩
theorem tw15094748920293899502:True:=⟨⟩
theorem tw6779394551799233564:True:=⟨⟩
theorem tw9091022678910403161:True:=⟨⟩
theorem tw10669422063240305877:True:=⟨⟩
theorem tw14060053704907077034:True:=⟨⟩
theorem tw16704554340795531605:True:=⟨⟩
theorem tw7657171528949188386:True:=⟨⟩
theorem tw7713419458609783686:True:=⟨⟩
theorem tw6072175088792914880:True:=⟨⟩
theorem tw11816770375413978103:True:=⟨⟩
theorem tw16829652741772925913:True:=⟨⟩
theorem tw5298563332859459417:True:=⟨⟩
theorem tw16141422113138358772:True:=⟨⟩
theorem tw8207113783029805774:True:=⟨⟩
theorem tw8702665677504727212:True:=⟨⟩
theorem tw11880078646252053436:True:=⟨⟩
theorem tw9047478260602019485:True:=⟨⟩
theorem tw6492982987184321669:True:=⟨⟩
theorem tw13557003479052967439:True:=⟨⟩
theorem tw686990582945951805:True:=⟨⟩
theorem tw1258713266677310631:True:=⟨⟩
theorem tw416226994970087743:True:=⟨⟩
theorem tw13250368756762342682:True:=⟨⟩
theorem tw6077777564666129339:True:=⟨⟩
theorem tw3207827648342212667:True:=⟨⟩
theorem tw7193482581934396126:True:=⟨⟩
theorem tw2724394984080121030:True:=⟨⟩
theorem tw8559607393582716062:True:=⟨⟩
theorem tw15630154084777846638:True:=⟨⟩
theorem tw7471705025536953507:True:=⟨⟩
theorem tw10503996431616504168:True:=⟨⟩
theorem tw7703015042471802734:True:=⟨⟩
theorem tw1936379955149652685:True:=⟨⟩
theorem tw14241987065151839363:True:=⟨⟩
theorem tw6489495417774179240:True:=⟨⟩
theorem tw9153056817640596928:True:=⟨⟩
theorem tw17831405787736117193:True:=⟨⟩
theorem tw14356989207988910857:True:=⟨⟩
theorem tw13433414884294585210:True:=⟨⟩
theorem tw5898545638613115678:True:=⟨⟩
theorem tw5413528880650785896:True:=⟨⟩
theorem tw13352215285920871873:True:=⟨⟩
theorem tw5729007718181129244:True:=⟨⟩
theorem tw2702627432974234889:True:=⟨⟩
theorem tw6932706840612570408:True:=⟨⟩
theorem tw14091429675251651144:True:=⟨⟩
theorem tw16347174778020734253:True:=⟨⟩
theorem tw2190523857079722020:True:=⟨⟩
theorem tw9081715904446460912:True:=⟨⟩
theorem tw9972886953341073995:True:=⟨⟩
theorem tw17525407956393094798:True:=⟨⟩
theorem tw7363290750590464983:True:=⟨⟩
theorem tw678848164588857506:True:=⟨⟩
theorem tw12627645947454655531:True:=⟨⟩
theorem tw7039861779817834453:True:=⟨⟩
theorem tw15401409151529505115:True:=⟨⟩
theorem tw17066039581174720549:True:=⟨⟩
theorem tw4005177604440754827:True:=⟨⟩
theorem tw15045153455565190307:True:=⟨⟩
theorem tw3735362314939054493:True:=⟨⟩
theorem tw12717274053363759259:True:=⟨⟩
theorem tw16718649916603926700:True:=⟨⟩
theorem tw11732738065212589396:True:=⟨⟩
theorem tw10126565683832225812:True:=⟨⟩
theorem tw16730060477637394700:True:=⟨⟩
theorem tw1307406559537434306:True:=⟨⟩
theorem tw9935327292530419638:True:=⟨⟩
theorem tw6288565348069348686:True:=⟨⟩
theorem tw17392269601618977370:True:=⟨⟩
theorem tw12725279039288205917:True:=⟨⟩
theorem tw3473099496144928036:True:=⟨⟩
theorem tw14870951110366543144:True:=⟨⟩
theorem tw7332378054817091358:True:=⟨⟩
theorem tw4172510592175454218:True:=⟨⟩
theorem tw16466643887082449776:True:=⟨⟩
theorem tw4953782638778831776:True:=⟨⟩
theorem tw9820875975635013206:True:=⟨⟩
theorem tw14332843467723572436:True:=⟨⟩
theorem tw11437983835283798752:True:=⟨⟩
theorem tw3942005140641031574:True:=⟨⟩
theorem tw3523692608818932193:True:=⟨⟩
theorem tw1337124386257020870:True:=⟨⟩
theorem tw12452380837748385192:True:=⟨⟩
theorem tw8691838005641509648:True:=⟨⟩
theorem tw13105446932134107136:True:=⟨⟩
theorem tw14761822646726795036:True:=⟨⟩
theorem tw13116776387025280421:True:=⟨⟩
theorem tw7375026982165718990:True:=⟨⟩
theorem tw5697765924377640561:True:=⟨⟩
end PySem.W.Fast
end
set_option maxRecDepth 100000 in
set_option maxHeartbeats 0 in
theorem PySem.Challenge.cw_copymeet_k72_lost_with_their_ring_holds : PySem.Challenge.rw_copymeet_k72_lost_with_their_ring.Holds := by
 w_on; o_law; k_head; (case hw=>w_witness2)
 k_fill
 refine K72.walk (l:=PySem.Challenge.rw_copymeet_k72_lost_with_their_ring) rfl rfl (fun w h Y=>PySem.W.kIn_of Y) ?F
 case F=>
  intro w mg fa h KX G hmg
  have hbn:∀ x∈K72.bsL,mg x=none:=fun x hx=>by
   iterate 9 (rcases List.mem_cons.mp hx with rfl | hx; · exact PySem.W.mg_none_of KX G (by k_is))
   cases hx
  refine' K72.all_mk KX G hmg hbn ?h0 ?h1 ?h2 ?h3 ?h4 ?h5 ?h6 ?h7 ?h8 ?h9 ?h10 ?h11 ?h12
  (case h0=>repeat' first | exact trivial | refine ⟨⟨_,by k_is,_,_,_,_,_,_,_,_,_,by k_is,by k_is,by k_is⟩,?_⟩)
  (case h1=>exact ⟨by k_is,by k_is,by k_is,by k_is,by k_is,by k_is,by k_is,by k_is,by k_is,by k_is,by k_is,by k_is,by k_is,by k_is,by k_is,by k_is,by k_is,trivial⟩)
  (case h2=>repeat' first | exact trivial | refine ⟨⟨_,by k_is,by k_is,_,_,_,_,_,_,_,_,_,by k_is,by k_is,by k_is⟩,?_⟩)
  (case h3=>exact ⟨by k_is,by k_is,by k_is,by k_is,by k_is,by k_is,by k_is,by k_is,by k_is,by k_is,by k_is,by k_is,by k_is,by k_is,by k_is,by k_is,by k_is,trivial⟩)
  (case h4=>repeat' first | exact trivial | refine ⟨⟨_,by k_is,by k_is,_,_,_,_,_,_,_,_,_,by k_is,by k_is,by k_is⟩,?_⟩)
  (case h5=>exact ⟨by k_is,by k_is,by k_is,by k_is,by k_is,by k_is,by k_is,by k_is,by k_is,by k_is,by k_is,by k_is,by k_is,by k_is,by k_is,by k_is,by k_is,trivial⟩)
  (case h6=>repeat' first | exact trivial | refine ⟨⟨_,by k_is,by k_is,_,_,_,_,_,_,_,_,_,by k_is,by k_is,by k_is⟩,?_⟩)
  (case h7=>exact ⟨by k_is,by k_is,by k_is,by k_is,by k_is,by k_is,by k_is,by k_is,by k_is,by k_is,by k_is,by k_is,by k_is,by k_is,by k_is,by k_is,by k_is,trivial⟩)
  (case h8=>repeat' first | exact trivial | refine ⟨⟨_,by k_is,by k_is,_,_,_,_,_,_,_,_,_,by k_is,by k_is,by k_is⟩,?_⟩)
  (case h9=>k_is)
  (case h10=>k_is)
  (case h11=>exact (.cons ⟨_,rfl⟩ (.cons ⟨_,rfl⟩ .nil)))
  (case h12=>decide +kernel)
