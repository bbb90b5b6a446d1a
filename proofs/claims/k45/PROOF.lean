import PyProof.Rows.All
import Wide.All
import OpenK.AllK
import Wide.FinOn
import Lean
import PyProof.EqAt
import PyProof.EqKinds
import PyProof.TupleCall
import PyProof.NeKinds
import KE.KDictOf
import PyProof.AttrMissHeap
import PyProof.WalksMore
import PyProof.MeetsDict
import KE.KDictList
import KE.KRevIter
import PyProof.DictItemsLoops
import PyProof.DictWalks
import KE.KSortTup
import KE.KDictSum
import PyProof.SumAny
import PyProof.Conv_int_bool
import PyProof.Conv_int
import KE.KRevSl
import PyProof.MeetsStr
import PyProof.StrCalls3
import PyProof.Rows.TupDisplay
import PyProof.ZipIter
import PyProof.Draws
import PyProof.EnumMake
import PySem.Challenge.RW_copymeet_k45_a_text
open PySem renaming wpAny_bind->Zb,wpAny_pure->Zd,sizeLine->Zq,starEach->Zx,wpAny_newObj_type->ZJ,FuncData->ZL,wpAny_callSpecial?_slot->ZR,Spec->ZS,compareOp->ZZ,wpAny_call_entry->Z1,wpAny_holding->Z3,sizeLine_eq->y0b,sysModules->y0p,mainGlobals->y0t,cellsFrom->y0v,wpAny_dictEntries->y0x,codeAny_builtin->y0E,wpAny_mono->y0I,wpAny_ite_false->y0P,binaryOp->y0Q,wpAny_isInstance->y0T,wpAny_field->y0V,wpAny_rule->y07,attributeBase->y1c,plainId_quiet->y1e,wpAny_attempt->y1f,wpAny_notOrdered_dict->y1k,wpAny_typeNameOfWhole_itemiter->y1l,wpAny_typeNameOfWhole_keyiter->y1p,DictEntry->y1q,SetTable->y1s,bootBuiltins->y1t,foldedSetIterable->y1w,wpAny_truthy_bool->y1x,wpAny_of_eq->y1E,assignEach->y1G,wpAny_typeOf->y1K,wpAny_setField_rec->y1S,wpAny_fieldsOf->y1V,firstArgMember->y1W,wpAny_seqItems->y1X,wpAny_typeNameOf_itemiter->y1Z,wpAny_setState_of->y15,wpAny_pyIter_list->y16,wpAny_typeNameOf_keyiter->y17,mem_of_lookup->y19,wpAny_setEntries_of->y2d,wpAny_Call_Name_kw->y2m,NameKind->y2n,wpAny_specialOf->y2t,wpAny_dictEpoch->y2y,builtinLookup_eq_fast->y2B,dictSetDefault->y2Q,wpAny_setField->y2R,wpAny_askSetting->y2W,codeAny_mono->y2Z
open List renaming getElem?_eq_some_iff->Zc,length_map->Zg,mem_cons_of_mem->Zh,getElem?_set_ne->Zk,prefix_rfl->Zm,mem_cons_self->Zn,mem_append_right->Zo,size_toArray->Zp,getElem?_map->Zr,mem_cons->Zs,mem_map->Zu,all_eq_true->Zy,range->ZD,lookup_cons->ZH,map_cons->ZM,mem_singleton->ZN,mem_of_getElem?->ZP,mem_append->ZQ,replicate->ZW,length_cons->ZY,map_append->Z4,mem_append_left->Z5,map_map->Z7,getElem?_eq_getElem->Z9,length_append->y0h,prefix_append->y0k,cons_lt_cons_iff->y0l,getElem?_append_left->y0n,pairwise_iff_getElem->y0o,set_cons_succ->y0r,set_cons_zero->y0s,not_mem_nil->y0w,append_assoc->y0J,getElem?_cons_succ->y0K,take_add_one->y0L,getD_eq_getElem?_getD->y0M,pairwise_cons->y0O,length_take->y0R,take_length->y0U,map_congr_left->y0W,ext_getElem?->y01,length_set->y05,getElem?_set_self->y09,nodup_append->y1b,all_cons->y1d,append_nil->y1h,nodup_cons->y1i,all_map->y1j,filterMap_eq_map->y1m,not_lt->y1o,filterMap_cons->y1B,length->y1C,find?_cons->y1D,getElem?_append_right->y1F,getElem_mem->y1I,toArray->y1L,map->y1N,getElem?_eq_none->y1Q,length_filter_le->y1R,any_cons->y2a,eraseIdx_cons_succ->y2b,pairwise_singleton->y2c,eq_nil_of_length_eq_zero->y2h,mem_range->y2i,mem_filter->y2q,lookup->y2r,mem_iff_getElem?->y2w,nil_append->y2z,length_range->y2J,pairwise_map->y2K,mem_iff_getElem->y2N,cons_append->y2T,any_eq_true->y2V,mem_flatMap->y2X
open PySem.Heap renaming get?_push_of_some->Ze,get?_push_size->Zj,lt_size->Zl,get?_update_self->ZX,get?_update_other->y0c,size_push->y0m,SameBut->y0z,get?_push_ne->y2I,size_update->y2U
open PySem.W renaming Frag->Zf,findIn->ZF,kia_one->y0u,keepIn->y0G,emptyDict->y0Z,fnOf->y08,instObj->y1A,plainGet->y1H,hasDictIn->y11,makesIn->y12,kitOne->y2j,plainOver->y2H,codeIn->y2O,nsIn->y20,mg_of->y25
open Nat renaming le_refl->Zi,ne_of_lt->Zt,lt_of_lt_of_le->Zz,zero_le->ZO,ne_of_gt->y0a,le_trans->y0e,lt_irrefl->y0A,lt_or_eq_of_le->y0N,lt_succ_of_lt->y1z,le_of_lt->y1J,lt_succ_self->y2g,sub_zero->y2E
open Bool renaming false_ne_true->Zv,false_eq_true->ZU,and_eq_true->Z2,eq_iff_iff->Z8,beq_eq_decide_eq->y2F
open Option renaming map_eq_some_iff->Zw,isSome_iff_exists->y13
open PySem.Value renaming ref->ZC,none->ZE,str->y0Y,type->y1v,int->y10
open Array renaming getElem?_eq_getElem->ZG,getElem?_eq_none->y0d,getElem?_toList->y1P,length_toList->y18,getD->y27
open Option.some renaming inj->ZI
open PySem.Heap.SameBut renaming update->ZK
open PySem.Obj renaming mapSeq->ZT,data_mapDictKeys->y1r,mapFields->y1O,data_mapFields->y2o,isFreed_of_fields->y2C
open Ne renaming symm->ZV
open PySem.Paired renaming length->Z0
open PySem.F renaming plainAttrs_list->Z6,slot_list_append->y0B,type_list_append->y0C,slot_dict_itemiterator_next->y0S,slot_dict_keyiterator_next->y03,plain_extend_loop->y1g,slot_list_clear->y2e,type_list_clear->y2f,slot_dict_setdefault->y2p,slot_zip_next->y2G,called_set->y21
open List.Perm renaming refl->y0f,eq_of_pairwise->y22
open PySem.Around renaming under_plainId->y0g
open PySem.Str renaming ofString->y0i
open PySem.NameKind renaming free->y0j,cell->y23
open PyProof.Rows renaming slot_tuple_getitem->y0q,callWith_type1->y04,listUpdate_at->y1M,mirror_perm->y2v,get?_update_seq->y2x
open PySem.Builtin.Tuple renaming tupleHashOf->y0y,tupleExact->y14,tupleItemsOf->y2L
open Prod renaming fst->y0D
open PySem.Builtin.List renaming listExtendWith->y0F,listSameRef->y1n,listTouch->y2l,listLengthHint->y2D
open PySem.SetTable renaming fresh->y0H,below->y1U,grown->y28
open PySem.Builtin.SmallTypes renaming ownedTupleIsFree->y0X,nextOf->y1Y,ownedTupleHandOut->y2S
open True renaming intro->y00
open PySem.Builtin.Dict_items renaming ownsTuple->y02,ownedTupleIsFree->y2Y
open Classical renaming propDecidable->y06
open False renaming elim->y1a
open PyProof.Rows.F renaming plain_set_update_loop->y1u
open List.Pairwise renaming nil->y1y
open PySem.Builtin.Slice renaming slicePlaces->y1T,sliceAdjust->y2P
open PySem.Calls renaming callWith_builtin->y2k
open PySem.Builtin.Str renaming strSliceIndices->y2s
open Array.Perm renaming refl->y2u
open PySem.Builtin.Dict renaming showsAll->y2A,keyAndDefault->y2M
open PySem.Txt renaming slice->y24
open Int renaming emod_nonneg->y26
open PySem PySem.Spec PyProof.Rows
open Option renaming some->a_,none->b_
open PySem renaming Value->s_,Shared->t_,Addr->u_,Around->w_,Heap->x_,World->y_,Program->z_,Expr->A_,Stmt->B_
local macro_rules|`(qa_ $n $x $y)=>`(show List.map some $x++List.replicate ($n-($x).length) none=$y from rfl)
local macro_rules|`(qb_ 0)=>`(⟨_,by k_is,by k_is,_,_,_,_,_,_,_,_,_,by k_is,by k_is,by k_is⟩)
local macro_rules|`(qc_ 0)=>`(⟨_,by k_is,_,_,_,_,_,_,_,_,_,by k_is,by k_is,by k_is⟩)
local macro_rules|`(tactic|omega)=>`(tactic|lia)
local macro_rules|`(jn 0)=>`(⟨rfl,rfl,rfl,by decide +kernel,rfl,by decide +kernel,by decide +kernel⟩)
local macro_rules|`(c_ $x)=>`(some (.ref $x))
local macro_rules|`(d_ $x)=>`(some (.int $x))
local macro_rules|`(h_ $x)=>`(PySem.model ($x).prog ($x).w)
local macro_rules|`(e_ $x)=>`(($x).heap.objs.size)
local macro_rules|`(f_ 0)=>`(PySem.Value->PySem.Shared->Prop)
local macro_rules|`(g_ 0)=>`(List (PySem.Addr×PySem.Obj))
local macro_rules|`(j_ $x)=>`($x->PySem.Shared->Prop)
local macro_rules|`(m_ $p $w $x*)=>`(PySem.wpAny (PySem.model $p $w) $x*)
local macro_rules|`(l_ $x)=>`(by simpa using $x)
local macro_rules|`(⋯)=>`(by omega)
local macro_rules|`(nofun)=>`(by decide)
local macro_rules|`(n_ 0)=>`(Array (Option PySem.Value))
local macro_rules|`(o_ 0)=>`(PySem.Str->Option PySem.Value)
open Lean Parser Tactic in
def p_:Nat->Syntax->MacroM (TSyntax `rcasesPat)
|n+1,s=>match s with
 |`($x:ident)=>`(rcasesPat|$x:ident)
 |`(⟨$xs,*⟩)=>do
  let ys<-xs.getElems.mapM λx=>do`(rcasesPatLo|$(<-p_ n x):rcasesPat)
  `(rcasesPat|⟨$ys,*⟩)
 |_=>`(rcasesPat|_)
|_,_=>Macro.throwUnsupported
open Lean Parser Tactic in
local macro_rules|`(tactic|let $p:term:=$e)=>do let q<-`(rcasesPatMed|$(<-p_ 9 p):rcasesPat);`(tactic|obtain $q:rcasesPatMed:=$e)
local macro_rules|`(C_ $x)=>`(List $x)
local macro_rules|`(D_ $x)=>`(Option $x)
set_option bootstrap.genMatcherCode false
set_option Elab.async false
set_option linter.all false
set_option maxRecDepth 1000000
set_option maxHeartbeats 4000000
namespace L2
abbrev Key:=Sum Int Str
def AM:Key->s_->Bool
 |.inl k,v=>Value.isInt k v
 |.inr x,v=>Value.isStrOf x v
def Ra(w:y_):Key->Int
 |.inl k=>hashInt k
 |.inr x=>hashStr w x
theorem dN:∀{k:Key}{v:s_},AM k v=true->(∃i t,k=Sum.inl i/\v=y10 i t)\/(∃x t,k=Sum.inr x/\v=y0Y x t)
 |.inl i,v,h=>by let⟨t,e⟩:=Value.isInt_shape (k:=i) (v:=v) h;exact .inl ⟨i,t,rfl,e⟩
 |.inr x,v,h=>by let⟨t,e⟩:=Value.isStrOf_shape (x:=x) (v:=v) h;exact .inr ⟨x,t,rfl,e⟩
def Jy(i:Int)(t:Tok):AM (.inl i) (.int i t)=true:=by simp[AM,Value.isInt]
def Jz(x:Str)(t:Tok):AM (.inr x) (.str x t)=true:=by simp[AM,Value.isStrOf]
def Rb(a b:Int):decide ((Sum.inl a:Key)=Sum.inl b)=(a == b):=by
 by_cases e:a=b
 ·subst e;simp
 ·have h:¬ (Sum.inl a:Key)=Sum.inl b:=λq=>e (Sum.inl.inj q);rw[decide_eq_false h];exact(beq_eq_false_iff_ne.mpr e).symm
def Rc(a b:Str):decide ((Sum.inr a:Key)=Sum.inr b)=decide (a=b):=by
 by_cases e:a=b
 ·subst e;simp
 ·have h:¬ (Sum.inr a:Key)=Sum.inr b:=λq=>e (Sum.inr.inj q);rw[decide_eq_false h,decide_eq_false e]
def Re(a:Int)(b:Str):decide ((Sum.inl a:Key)=Sum.inr b)=false:=decide_eq_false (λq=>nomatch q)
def Rf(a:Str)(b:Int):decide ((Sum.inr a:Key)=Sum.inl b)=false:=decide_eq_false (λq=>nomatch q)
def fC(prog:z_)(w:y_):PySem.KeyKind prog w Key where
 is:=AM
 hash:=Ra w
 inj:=λv a b ha hb=>by
  rcases dN ha with⟨i,t,rfl,rfl⟩|⟨x,t,rfl,rfl⟩
  ·rcases dN hb with⟨j,u,rfl,e⟩|⟨y,u,rfl,e⟩
   ·injection e with e1 _;rw[e1]
   ·exact nomatch e
  ·rcases dN hb with⟨j,u,rfl,e⟩|⟨y,u,rfl,e⟩
   ·exact nomatch e
   ·injection e with e1 _;rw[e1]
 byValue:=λk v h=>by rcases dN h with⟨i,t,rfl,rfl⟩|⟨x,t,rfl,rfl⟩ <;> rfl
 pyHash:=λhv h=>by
  rcases dN hv with⟨i,t,rfl,rfl⟩|⟨x,t,rfl,rfl⟩
  ·exact wpAny_pyHash_int h
  ·exact wpAny_pyHash_str h
 eqBool:=λhu hv h=>by
  rcases dN hu with⟨i,t,rfl,rfl⟩|⟨x,t,rfl,rfl⟩
  ·rcases dN hv with⟨j,u,rfl,rfl⟩|⟨y,u,rfl,rfl⟩
   ·rw[Rb]at h;exact wpAny_eqBool_int h
   ·rw[Re]at h;exact SeqAt.EqAt.int_str i t y u _ _ _ _ h
  ·rcases dN hv with⟨j,u,rfl,rfl⟩|⟨y,u,rfl,rfl⟩
   ·rw[Rf]at h;exact SeqAt.EqAt.str_int x t j u _ _ _ _ h
   ·rw[Rc]at h;exact wpAny_eqBool_str h
 «strs»:=λk x t v h=>by
  rcases dN h with⟨i,u,rfl,e⟩|⟨y,u,rfl,e⟩
  ·exact nomatch e
  ·injection e with e1 _;subst e1;cases v <;> rfl
def Fk(prog:z_)(w:y_)(i:Int)(t:Tok):(fC prog w).is (.inl i) (.int i t)=true:=Jy i t
def Fm(prog:z_)(w:y_)(x:Str)(t:Tok):(fC prog w).is (.inr x) (.str x t)=true:=Jz x t
inductive V where
 |non|bl (b:Bool)|int (i:Int)|str (x:Str)|byt (b:Array UInt8)|flt (b:UInt64)|ref (a:Addr)|ty (n:String)
 deriving DecidableEq
def RelV:V->s_->Prop
 |.non,u=>u=ZE
 |.bl b,u=>u=Value.bool b
 |.int i,u=>∃t,u=y10 i t
 |.str x,u=>∃t,u=y0Y x t
 |.byt b,u=>∃t,u=Value.bytes b t
 |.flt b,u=>∃t,u=Value.float b t
 |.ref a,u=>u=ZC a
 |.ty n,u=>u=y1v n
abbrev bN:C_ V->C_ s_->Prop:=Paired RelV
theorem bN.length{xs:C_ V}{us:C_ s_}(r:bN xs us):xs.length=us.length:=Z0 r
theorem bN.get:∀{xs:C_ V}{us:C_ s_}{i:Nat}{x:V},bN xs us->xs[i]?=a_ x->∃u,us[i]?=a_ u/\RelV x u
 |_,_,_,_,.nil,e=>by simp at e
 |_,_,0,_,.cons r _,e=>by simp at e;subst e;exact⟨_,rfl,r⟩
 |_,_,i+1,x,.cons _ t,e=>by
  let⟨u,h1,h2⟩:=bN.get (i:=i) (x:=x) t (l_ e);exact⟨u,l_ h1,h2⟩
theorem bN.set(r:RelV x u):∀{xs:C_ V}{us:C_ s_}(i:Nat),bN xs us->bN (xs.set i x) (us.set i u)
 |_,_,_,.nil=>.nil
 |_,_,0,.cons _ t=>.cons r t
 |_,_,i+1,.cons q t=>.cons q (bN.set r i t)
theorem bN.append:∀{xs ys:C_ V}{us ws:C_ s_},bN xs us->bN ys ws->bN (xs++ys) (us++ws)
 |_,_,_,_,.nil,s=>s
 |_,_,_,_,.cons r t,s=>.cons r (bN.append t s)
theorem bN.take:∀{xs:C_ V}{us:C_ s_}(n:Nat),bN xs us->bN (xs.take n) (us.take n)
 |_,_,0,_=>.nil
 |_,_,_+1,.nil=>.nil
 |_,_,n+1,.cons r t=>.cons r (bN.take n t)
theorem bN.drop:∀{xs:C_ V}{us:C_ s_}(n:Nat),bN xs us->bN (xs.drop n) (us.drop n)
 |_,_,0,r=>r
 |_,_,_+1,.nil=>.nil
 |_,_,n+1,.cons _ t=>bN.drop n t
def tX:D_ V->D_ s_->Prop
 |some v,a_ u=>RelV v u
 |none,b_=>True
 |_,_=>False
def KV{κ:Type}:C_ (κ×V)->C_ (κ×s_)->Prop:=Paired λ(p:κ×V)(q:κ×s_)=>p.1=q.1/\RelV p.2 q.2
def kV:Key->V
 |.inl i=>.int i
 |.inr x=>.str x
inductive HO where
 /-- a list -/
 |lst (xs:C_ V)
 /-- a tuple (never changes) -/
 |tup (xs:C_ V)
 /-- a dict whose keys are ints and texts;one whose keys are tuples of ints and texts (the empty one is both) -/
 |dK (kvs:C_ (Key×V))|dT (kvs:C_ (C_ Key×V))
 /-- a set of ints: its members,its size -/
 |set (S:Int->Bool) (n:Nat)
 /-- an instance of the class at C,its dict at dx,its attributes -/
 |ins (C dx:Addr) (fs:C_ (Str×V))
 /-- the dict of the instance at x -/
 |own (x:Addr)
 /-- the dict of an exception -/
 |xd (fs:C_ (Str×V))
 /-- a bound method,f of x -/
 |met (f x:Addr)
 /-- a range object lo,lo+1,.. below hi -/
 |rng (lo hi:Int)
 /-- a thing that is known to the object (the script;a dict while a loop walks it): read,never written while it is so -/
 |frz (o:Obj) (u:HO)
 /-- a code object's table -/
 |tbl (ps:Array Value)
 /-- any other thing,by what is true of its one object (a def of one's own: SetO a S n:=HO.ext λh=>..) -/
 |ext (φ:Heap->Prop)
abbrev Hp:=u_->D_ HO
def upd(H:Hp)(a:u_)(o:HO):Hp:=λb=>if b=a then a_ o else H b
def bX{H:Hp}{a:u_}{o:HO}:upd H a o a=a_ o:=by unfold upd;rw[if_pos rfl]
def bE{H:Hp}{a b:u_}{o:HO}(h:b≠a):upd H a o b=H b:=by unfold upd;rw[if_neg h]
def TR{H:Hp}{a b:u_}{o u:HO}(h:H a=a_ o)(h':H b=a_ u)(d:o≠u):a≠b:=by intro e;subst e;rw[h]at h';exact d (ZI h')
def fP{H:Hp}{a b:u_}{o:HO}(h:H a=a_ o)(h':H b=b_):a≠b:=by intro e;subst e;rw[h]at h';cases h'
def Ak(h:x_)(a:u_)(items:Array s_):Prop:=∃o,h.get? a=a_ o/\o.cls=.type "tuple" /\ (∃n,o.data=.seq items n)/\o.dict=b_
theorem Ak.is(x:Ak h a items):PyProof.Rows.IsTup h a items:=let ⟨o,h1,h2,h3,_⟩:=x;⟨o,h1,h2,h3⟩
theorem Ak.lt{h:x_}(x:Ak h a items):a<h.objs.size:=let ⟨_,h1,_⟩:=x;Zl h1
theorem Ak.new(h:x_)(items:Array s_):Ak (h.push {cls:=.type "tuple",data:=.seq items 0}) h.objs.size items:=⟨_,Zj _ rfl,rfl,⟨_,rfl⟩,rfl⟩
section
variable(P:z_)(w:y_)
def eB(H:Hp)(h:x_)(a:u_):HO->Prop
 |.lst xs=>xs.length<=Zq/\∃(its:C_ s_)(n:Nat),bN xs its/\h.get? a=a_ {cls:=.type "list",data:=.seq its.toArray n}
 |.tup xs=>xs.length<=Zq/\∃its:C_ s_,bN xs its/\Ak h a its.toArray
 |.dK kvs=>kvs.length<=Zq/\(a == y0p)=false/\∃vs,KV kvs vs/\h.DictOf (fC P w) a vs
 | .dT kvs=>kvs.length<=Zq/\(a == y0p)=false/\∃ xs:C_ (C_ Key×u_×s_),
   Paired (λ(p:C_ Key×V)(q:C_ Key×u_×s_)=>p.1=q.1/\H q.2.1=a_ (.tup (p.1.map kV))/\RelV p.2 q.2.2) kvs xs/\
   ∃o es ep,h.get? a=a_ o/\o.ExactDict/\o.data=.dict es ep/\es.toList=xs.map (entryOfKey (tupleKind (fC P w)))/\(xs.map (·.1)).Nodup
 |.set S n=>h.SetOf (intKind P w) a S n
 | .ins C dx fs=>H dx=a_ (.own a)/\fs.length<=1000/\dx≠a/\h.get? a=a_ (y1A C dx)/\
   ∃mA,h.Ns1 dx mA/\(∀f,tX (fs.lookup f) (mA f))/\PySem.Within mA (fs.map (·.1))
 |.own _=>∃o,h.get? a=a_ o
 |.xd fs=>∃mA,h.Ns1 a mA/\∀f,tX (fs.lookup f) (mA f)
 |.rng lo hi=>∃t u v,h.get? a=a_ {cls:=.type "range",data:=.fields #[.int lo t,.int hi u,.int 1 v]}
 |.frz o u=>h.get? a=a_ o/\eB H h a u
 |.tbl ps=>h.get? a=a_ {cls:=.none,data:=.fields ps}
 |.met f x=>h.get? a=a_ (PySem.W.methodObj (.ref f) (.ref x))
 |.ext φ=>φ h/\(∃o,h.get? a=a_ o)/\∀h1 h2:x_,φ h1->(∀o,h1.get? a=a_ o->h2.get? a=a_ o)->φ h2
def HOk(H:Hp)(h:x_):Prop:=∀a o,H a=a_ o->eB P w H h a o
end
section
variable{P:z_}{w:y_}{H H':Hp}{h h':x_}{a:u_}{o:HO}
theorem eB.lt(x:eB P w H h a o):a<h.objs.size:=by
 cases o with
 |lst xs=>let⟨_,_,_,_,e⟩:=x;exact Zl e
 |tup xs=>let⟨_,_,_,p⟩:=x;exact Ak.lt p
 |dK kvs=>let⟨_,_,_,_,o,_,_,e,_⟩:=x;exact Zl e
 |dT kvs=>let⟨_,_,_,_,o,_,_,e,_⟩:=x;exact Zl e
 |set S n=>let⟨o,_,_,_,e,_⟩:=x;exact Zl e
 |ins C dx fs=>let⟨_,_,_,e,_⟩:=x;exact Zl e
 |own y=>let⟨_,e⟩:=x;exact Zl e
 |xd fs=>let⟨_,⟨_,_,_,e,_⟩,_⟩:=x;exact Zl e
 |rng lo hi=>let⟨_,_,_,e⟩:=x;exact Zl e
 |frz ob u=>let⟨e,_⟩:=x;exact Zl e
 |tbl ps=>exact Zl (show h.get? a=a_ _ from x)
 |met f y=>exact Zl (show h.get? a=a_ _ from x)
 |ext φ=>let⟨_,⟨_,e⟩,_⟩:=x;exact Zl e
theorem Paired.mapP{α β:Type}{F G:α->β->Prop}:∀{l₁:C_ α}{l₂:C_ β},Paired F l₁ l₂->(∀a b,F a b->G a b)->Paired G l₁ l₂
 |_,_,.nil,_=>.nil
 |_,_,.cons r t,f=>.cons (f _ _ r) (Paired.mapP t f)
theorem eB.stay(x:eB P w H h a o)(k:∀b u,(b=a\/H b=a_ (.own a))->h.get? b=a_ u->h'.get? b=a_ u)
  (ho:∀b,H b=a_ (.own a)->H' b=a_ (.own a)) (ht:∀b xs,H b=a_ (.tup xs)->H' b=a_ (.tup xs)):eB P w H' h' a o:=by
 induction o with
 |lst xs=>let⟨z,its,n,r,e⟩:=x;exact⟨z,its,n,r,k _ _ (.inl rfl) e⟩
 |tup xs=>let⟨z,its,r,ob,e,c⟩:=x;exact⟨z,its,r,ob,k _ _ (.inl rfl) e,c⟩
 |dK kvs=>let⟨z,y,vs,r,ob,es,ep,e,c⟩:=x;exact⟨z,y,vs,r,ob,es,ep,k _ _ (.inl rfl) e,c⟩
 |dT kvs=>let⟨z,y,xs,r,ob,es,ep,e,c⟩:=x;exact⟨z,y,xs,Paired.mapP r λp q z=>⟨z.1,ht _ _ z.2.1,z.2.2⟩,ob,es,ep,k _ _ (.inl rfl) e,c⟩
 |set S n=>let⟨ob,es,ep,t,e,c⟩:=x;exact⟨ob,es,ep,t,k _ _ (.inl rfl) e,c⟩
 |ins C dx fs=>let⟨d,z,ne,e,mA,⟨od,es,ep,e2,c⟩,r⟩:=x;exact⟨ho _ d,z,ne,k _ _ (.inl rfl) e,mA,⟨od,es,ep,k _ _ (.inr d) e2,c⟩,r⟩
 |own y=>let⟨ob,e⟩:=x;exact⟨ob,k _ _ (.inl rfl) e⟩
 |xd fs=>let⟨mA,⟨od,es,ep,e,c⟩,r⟩:=x;exact⟨mA,⟨od,es,ep,k _ _ (.inl rfl) e,c⟩,r⟩
 |rng lo hi=>let⟨t,u,v,e⟩:=x;exact⟨t,u,v,k _ _ (.inl rfl) e⟩
 |frz ob u ih=>let⟨e,q⟩:=x;exact⟨k _ _ (.inl rfl) e,ih q⟩
 |tbl ps=>
  have e:h.get? a=a_ {cls:=.none,data:=.fields ps}:=x
  show h'.get? a=a_ {cls:=.none,data:=.fields ps}
  exact k a _ (.inl rfl) e
 |met f y=>
  have e:h.get? a=a_ (PySem.W.methodObj (.ref f) (.ref y)):=x
  show h'.get? a=a_ (PySem.W.methodObj (.ref f) (.ref y))
  exact k a _ (.inl rfl) e
 |ext φ=>let⟨p,⟨o,e⟩,st⟩:=x;exact⟨st _ _ p λo q=>k _ _ (.inl rfl) q,⟨o,k _ _ (.inl rfl) e⟩,st⟩
theorem HOk.lt(x:HOk P w H h)(e:H a=a_ o):a<h.objs.size:=(x a o e).lt
theorem HOk.fresh(x:HOk P w H h)(e:h.objs.size<=a):H a=b_:=by
 cases q:H a with
 |none=>rfl
 |some u=>exact absurd (Zz (x.lt q) e) (y0A _)
theorem HOk.kept(x:HOk P w H h)(k:∀b u,h.get? b=a_ u->h'.get? b=a_ u):HOk P w H h':=λa o e=>(x a o e).stay (λb u _ q=>k b u q) (λ_ q=>q) λ_ _ q=>q
theorem HOk.laid(x:HOk P w H h)(k:∀b u,h.get? b=a_ u->h'.get? b=a_ u)(hp:h.objs.size<=a)(new:eB P w (upd H a o) h' a o):HOk P w (upd H a o) h':=λb u e=>by
 have hn:=x.fresh hp;by_cases hb:b=a
 ·subst hb;rw[bX]at e;cases e;exact new
 ·rw[bE hb]at e;exact(x b u e).stay (λc v _ q=>k c v q) (λc q=>by rw[bE (fP q hn)];exact q) λc xs q=>by rw[bE (fP q hn)];exact q
end
def Rd(H:Hp)(a:u_)(u:HO):Prop:=H a=a_ u\/∃o,H a=a_ (.frz o u)
theorem Rd.ok(r:Rd H a u)(x:HOk P w H h):eB P w H h a u:=by
 rcases r with r|⟨o,r⟩
 ·exact x a u r
 ·let⟨_,q⟩:=x a _ r;exact q
def Mut:D_ HO->Prop
 |some (.lst _)=>True
 |some (.dK _)=>True
 |some (.dT _)=>True
 |some (.set _ _)=>True
 |some (.ins _ _ _)=>True
 |some (.ext _)=>True
 |_=>False
section
variable{P:z_}{w:y_}{H:Hp}{h h':x_}{x e:u_}{o':HO}
theorem HOk.write(ok:HOk P w H h)(mu:Mut (H x))(he:e=x\/H e=a_ (.own x))(k:∀b u,b≠e->h.get? b=a_ u->h'.get? b=a_ u)(kn:∃u,h'.get? e=a_ u)
  (new:eB P w (upd H x o') h' x o'):HOk P w (upd H x o') h':=λb u q=>by
 have p7:∀c y,H c=a_ (.own y)->c≠x:=λc y r z=>by subst z;rw[r]at mu;exact mu
 have wy:∀c xs,H c=a_ (.tup xs)->c≠x:=λc xs r z=>by subst z;rw[r]at mu;exact mu
 by_cases hb:b=x
 ·subst hb;rw[bX]at q;cases q;exact new
 ·rw[bE hb]at q;by_cases hbe:b=e
  ·have q':H b=a_ (.own x):=by
    rcases he with z|z
    ·exact absurd (hbe.trans z) hb
    ·rw[hbe];exact z
   rw[q]at q';cases q';let⟨v,hv⟩:=kn;exact⟨v,by rw[hbe];exact hv⟩
  ·refine(ok b u q).stay (λc v hc r=>k c v ?_ r) (λc r=>by rw[bE (p7 c b r)];exact r) λc xs r=>by rw[bE (wy c xs r)];exact r
   rcases hc with rfl|hc
   ·exact hbe
   ·rintro rfl;rcases he with z|z
    ·exact p7 c b hc z
    ·rw[hc]at z;cases z;exact hb rfl
end
structure Un(fs ex:C_ u_)(H H':Hp)(h h':x_):Prop where
 keep:∀b o,h.get? b=some o->H b=none->b∉fs->b∉ex->h'.get? b=some o
 slot:∀b o,h.get? b=some o->H b=none->b∈fs->b∉ex->∃sl,h'.get? b=some { o with slots:=sl}
 free:∀b o,h.get? b=some o->H b=none->b∉ex->H' b=none
 there:∀b o,h.get? b=some o->b∉ex->∃o',h'.get? b=some o'
 tups:∀b xs,H b=some (.tup xs)->H' b=some (.tup xs)
 frzs:∀b o u,H b=some (.frz o u)->H' b=some (.frz o u)
 tbls:∀b ps,H b=some (.tbl ps)->∃more,H' b=some (.tbl (ps++more))
section
variable{fs wg ex ex':C_ u_}{H H1 H2:Hp}{h h1 h2 h':x_}{a x e:u_}{o:HO}
theorem Un.any(u:Un fs ex H H1 h h1)(q:h.get? b=a_ ob)(n:H b=b_)(hx:b∉ex):∃sl,h1.get? b=a_ { ob with slots:=sl}:=by
 by_cases hb:b∈fs
 ·exact u.slot b ob q n hb hx
 ·exact⟨ob.slots,u.keep b ob q n hb hx⟩
theorem Un.kept(k:∀b u,h.get? b=a_ u->h'.get? b=a_ u):Un fs ex H H h h':=⟨λb ob q _ _ _=>k b ob q,λb ob q _ _ _=>⟨ob.slots,k b ob q⟩,λ_ _ _ n _=>n,λb ob q _=>⟨ob,k b ob q⟩,λ_ _ q=>q,λ_ _ _ q=>q,λ_ ps q=>⟨#[],by rw[q];simp⟩⟩
theorem Un.refl:Un fs ex H H h h:=Un.kept λ_ _ q=>q
theorem Un.laid(k:∀b u,h.get? b=a_ u->h'.get? b=a_ u)(hp:h.objs.size<=a)(hn:H a=b_):Un fs ex H (upd H a o) h h' where
 keep:=λb u q _ _ _=>k b u q
 slot:=λb u q _ _ _=>⟨u.slots,k b u q⟩
 free:=λb u q n _=>by rw[bE (Zt (Zz (Zl q) hp))];exact n
 there:=λb u q _=>⟨u,k b u q⟩
 tups:=λb xs q=>by rw[bE (fP q hn)];exact q
 frzs:=λb u xs q=>by rw[bE (fP q hn)];exact q
 tbls:=λb ps q=>⟨#[],by rw[bE (fP q hn),q];simp⟩
theorem Un.write(mu:Mut (H x))(he:e=x\/H e=a_ (.own x))(k:∀b u,b≠e->h.get? b=a_ u->h'.get? b=a_ u)(kn:∃u,h'.get? e=a_ u):Un fs ex H (upd H x o) h h':=by
 have hx:∀b,H b=b_->b≠x:=λb n z=>by subst z;rw[n]at mu;exact mu
 have hb:∀b,H b=b_->b≠e:=λb n z=>by
  subst z;rcases he with r|r
  ·exact hx b n r
  ·rw[n]at r;cases r
 have hm:∀b u,H b=a_ u->¬ Mut (a_ u)->b≠x:=λb u q nm z=>by subst z;rw[q]at mu;exact nm mu
 refine⟨λb u q n _ _=>k b u (hb b n) q,λb u q n _ _=>⟨u.slots,k b u (hb b n) q⟩,λb u q n _=>by rw[bE (hx b n)];exact n,λb u q _=>?_,
  λb xs q=>by rw[bE (hm b _ q λz=>z)];exact q,λb u xs q=>by rw[bE (hm b _ q λz=>z)];exact q,λb ps q=>⟨#[],by rw[bE (hm b _ q λz=>z),q];simp⟩⟩
 by_cases hbe:b=e
 ·subst hbe;exact kn
 ·exact⟨u,k b u hbe q⟩
end
def trk(h:x_)(H:Hp):C_ u_:=(ZD h.objs.size).filter λa=>(H a).isSome
def DX(h:x_)(H:Hp):x_:=PySem.W.hideAll h (trk h H)
def JA(h:x_)(H:Hp):(DX h H).objs.size=h.objs.size:=PySem.W.hideAll_size _ _
def KY{h:x_}(e:h.get? b=a_ o)(n:H b=b_):(DX h H).get? b=a_ o:=PySem.W.hideAll_get _ e λhm=>by have q:(H b).isSome=true:=(y2q.mp hm).2;rw[n]at q;simp at q
def Ox{h:x_}(e:(DX h H).get? b=a_ o):h.get? b=a_ o/\H b=b_:=by
 have e':h.get? b=a_ o:=PySem.W.of_hideAll (trk h H) e;refine⟨e',?_⟩;cases q:H b with
 |none=>rfl
 |some x=>have hm:b∈trk h H:=y2q.mpr ⟨y2i.mpr (Zl e'),by simp[q]⟩;have z:(DX h H).get? b=b_:=PySem.W.hideAll_none (trk h H) hm;rw[z]at e;cases e
def Oy(g h:x_)(L:u_):g_ 0:=(ZD h.objs.size).filterMap λa=>if a=L\/(g.get? a).isSome=true then b_ else(h.get? a).map λo=>(a,o)
def rest(g h:x_)(L d:u_):g_ 0:=(Oy g h L).filter λp=>decide (p.1≠d)
structure Mod(K:Zf)(mg:o_ 0)(base:x_):Prop where
 kin:K.In base
 glob:base.Ns y0t mg
 blt:∃mb,base.Ns builtinsNs mb/\∀x:Str,x≠"__name__" -> mb x=y1t x
 nolimit:base.NoLimit
structure Cx where
 prog:z_
 w:y_
 K:Zf
 mg:o_ 0
 base:x_
 A:w_
 N:C_ Str
 s₀:t_
 H₀:Hp
 env:Env
 outer:C_ Env
 stack:C_ Env
 ex:C_ u_
 fn:Str->Bool
 calm:Bool
 pn:g_ 0
 xe:f_ 0
def frs(l:C_ Env):C_ u_:=l.filterMap (·.frame)
abbrev Cx.fs(X:Cx):C_ u_:=frs X.outer
def Vis(sc:Scope)(x:Str):Prop:=sc.names.lookup x=a_ .local\/sc.names.lookup x=a_ .cell\/sc.names.lookup x=a_ .free
def Loc(sc:Scope)(x:Str):Prop:=sc.names.lookup x=a_ .local\/sc.names.lookup x=a_ .cell
def Look(env:Env)(h:x_)(m:o_ 0)(x:Str)(u:s_):Prop:=(env.kindOf x=a_ .local/\m x=a_ u)\/((env.kindOf x=a_ .cell\/env.kindOf x=a_ .free)/\∃c,env.cells.lookup x=a_ c/\h.IsCell c (a_ u))
structure Cx.Ok(X:Cx):Prop where
 mod:Mod X.K X.mg X.base
 kind:X.env.scope.kind=.function
 glob:X.env.globals=y0t
 blt:X.env.builtins=builtinsNs
 above:X.s₀.heap.objs.size<=X.env.locals
 inj:∀x y c,X.env.cells.lookup x=some c->X.env.cells.lookup y=some c->x=y
 has:∀x,(X.env.kindOf x=some .cell\/X.env.kindOf x=some .free)->∃c,X.env.cells.lookup x=some c
 cab:∀x c,X.fn x=true->X.env.cells.lookup x=some c->X.s₀.heap.objs.size<=c
 hd:X.calm=true->X.A.handled=none
 frames:X.A.frames=some X.stack
 stk:X.stack=X.outer\/(X.stack=X.env::X.outer/\X.env.frame=some X.env.locals)
 exf:∀b∈X.ex,b≠X.env.locals/\∀x c,X.env.cells.lookup x=some c->c≠b
 bs:∀b o,X.base.get? b=some o->X.s₀.heap.get? b=some o/\X.H₀ b=none
 bsz:X.base.objs.size<=X.s₀.heap.objs.size
 noex:∀b o,X.base.get? b=some o->b∉X.ex
 exfs:∀b∈X.ex,b∉X.fs
 funs:X.s₀.heap.FunFrames X.base X.outer
 frf:∀b∈X.fs,X.H₀ b=none
structure Inv(X:Cx)(FR:g_ 0)(σ:C_ (D_ V))(H:Hp)(s:t_):Prop where
 ok:X.Ok
 os:s.os=X.s₀.os
 bare:AllBare s.gens
 base:Un X.fs X.ex X.H₀ H X.s₀.heap s.heap
 loc:∃m,s.heap.Ns X.env.locals m/\∀(i:Nat)(x:Str)(v:V),X.N[i]?=some x->σ[i]?=some (some v)->Vis X.env.scope x->∃u,RelV v u/\Look X.env s.heap m x u
 cell:∀x c,X.env.cells.lookup x=some c->∃v,s.heap.IsCell c v
 free:H X.env.locals=none
 freeC:∀x c,X.env.cells.lookup x=some c->H c=none
 pin:∀p∈X.pn++FR,s.heap.get? p.1=some p.2/\H p.1=none/\p.1≠X.env.locals/\p.1∉X.fs/\∀v,p.2.data≠.cell v
 hok:HOk X.prog X.w H s.heap
 len:σ.length=X.N.length
section
variable{X:Cx}{FR:g_ 0}{σ:C_ (D_ V)}{H H':Hp}{s:t_}{h':x_}
theorem Cx.Ok.nofr(ok:X.Ok)(e:X.base.get? b=a_ o):b∉X.fs:=λhb=>by have:=(ok.funs.mem hb).1;rw[e]at this;cases this
theorem Inv.bs(I:Inv X FR σ H s):∀b o,X.base.get? b=a_ o->s.heap.get? b=a_ o/\H b=b_:=λb o e=>⟨I.base.keep b o (I.ok.bs b o e).1 (I.ok.bs b o e).2 (I.ok.nofr e) (I.ok.noex b o e),I.base.free b o (I.ok.bs b o e).1 (I.ok.bs b o e).2 (I.ok.noex b o e)⟩
theorem Inv.bk(I:Inv X FR σ H s):∀b o,X.base.get? b=a_ o->s.heap.get? b=a_ o:=λb o e=>(I.bs b o e).1
theorem Inv.mod(I:Inv X FR σ H s):Mod X.K X.mg X.base:=I.ok.mod
theorem Inv.kIn(I:Inv X FR σ H s):X.K.In s.heap:=I.ok.mod.kin.keeps I.bk
theorem Inv.lt(I:Inv X FR σ H s):X.env.locals<(e_ s):=let ⟨_,hn,_⟩:=I.loc;hn.lt
theorem Inv.sz(I:Inv X FR σ H s):X.s₀.heap.objs.size<=(e_ s):=y0e I.ok.above (y1J I.lt)
theorem Inv.nofs(I:Inv X FR σ H s){a:u_}(h:(e_ s)<=a):a∉X.fs:=λhb=>by let⟨_,o,ho,_⟩:=I.ok.funs.mem hb;exact absurd (Zz (Zl ho) (y0e I.sz h)) (y0A _)
theorem Inv.cne(I:Inv X FR σ H s):∀x c,X.env.cells.lookup x=a_ c->c≠X.env.locals:=λx c e z=>by let⟨v,o,ho,hd⟩:=I.cell x c e;let⟨m,⟨o',es,ep,bw,bx,_⟩,_⟩:=I.loc;rw[z,bw]at ho;cases ho;rw[bx]at hd;cases hd
theorem Inv.funs(I:Inv X FR σ H s):s.heap.FunFrames X.base X.outer:=by
 have all:∀(l:C_ Env),(∀b∈frs l,b∈X.fs)->X.s₀.heap.FunFrames X.base l->s.heap.FunFrames X.base l:=by
  intro l
  induction l with
  |nil=>intro _ _;trivial
  |cons env r ih=>intro hs hl;let⟨hk,⟨L,o,hf,hn,ho,hd⟩,hr⟩:=hl;have hL:L∈X.fs:=hs L (by unfold frs;rw[y1B,hf];exact Zn);let⟨sl,e⟩:=I.base.slot L o ho (I.ok.frf L hL) hL λz=>I.ok.exfs L z hL;exact⟨hk,⟨L,_,hf,hn,e,hd⟩,ih (λb hb=>hs b (by unfold frs;rw[y1B,hf];exact Zh _ hb)) hr⟩
 exact all X.outer (λ_ hb=>hb) I.ok.funs
theorem Inv.stack(I:Inv X FR σ H s):s.heap.FunFrames X.base X.stack:=by
 rcases I.ok.stk with e|⟨e,hf⟩
 ·rw[e];exact I.funs
 ·rw[e];let⟨m,hn,_⟩:=I.loc;refine .cons (by rw[I.ok.kind];decide) hf hn ?_ I.funs;exact Heap.get?_none_of_le (y0e I.ok.bsz I.ok.above)
theorem Inv.stkSub(I:Inv X FR σ H s):∀b∈frs X.stack,b∈X.env.locals::X.fs:=λb hb=>by
 rcases I.ok.stk with e|⟨e,hf⟩
 ·rw[e]at hb;exact Zh _ hb
 ·rw[e]at hb;unfold frs at hb;rw[y1B,hf]at hb;exact hb
theorem Inv.stkFree(I:Inv X FR σ H s):∀b∈frs X.stack,H b=b_:=λb hb=>by
 rcases Zs.mp (I.stkSub b hb) with e|hb
 ·rw[e];exact I.free
 ·let⟨_,o,ho,_⟩:=I.ok.funs.mem hb;exact I.base.free b o ho (I.ok.frf b hb) λz=>I.ok.exfs b z hb
theorem Inv.step{g':Array GenState}{t':Nat}{d':Drawn}{ch:C_ u_}(I:Inv X FR σ H s)
  (f6:∀b∈ch,(b∈X.ex\/X.s₀.heap.objs.size<=b)/\b≠X.env.locals/\(∀x c,X.env.cells.lookup x=a_ c->c≠b)/\∀p∈X.pn++FR,p.1≠b)
  (keep:∀b o,b≠X.env.locals->b∉X.fs->b∉ch->s.heap.get? b=a_ o->H b=b_->h'.get? b=a_ o)
  (slot:∀b o,b≠X.env.locals->b∈X.fs->b∉ch->s.heap.get? b=a_ o->H b=b_->∃sl,h'.get? b=a_ { o with slots:=sl}) (free:∀b o,b∉ch->s.heap.get? b=a_ o->H b=b_->H' b=b_)
  (there:∀b o,b∉ch->s.heap.get? b=a_ o->∃o',h'.get? b=a_ o')
  (tups:∀b xs,H b=a_ (.tup xs)->H' b=a_ (.tup xs)) (frzs:∀b o u,H b=a_ (.frz o u)->H' b=a_ (.frz o u)) (tbls:∀b ps,H b=a_ (.tbl ps)->∃more,H' b=a_ (.tbl (ps++more)))
  (ns:∀m,s.heap.Ns X.env.locals m->h'.Ns X.env.locals m) (hok:HOk X.prog X.w H' h') (hg:AllBare g'):
  Inv X FR σ H' {s with heap:=h',gens:=g',drawn:=d',toks:=t'}:=by
 have ya:∀b o,X.s₀.heap.get? b=a_ o->b≠X.env.locals:=λb o e=>Zt (Zz (Zl e) I.ok.above);have qv:∀b o,X.s₀.heap.get? b=a_ o->b∉X.ex->b∉ch:=λb o e hx hb=>by
  rcases(f6 b hb).1 with z|z
  ·exact hx z
  ·exact absurd (Zz (Zl e) z) (y0A _)
 have cellK:∀x c,X.env.cells.lookup x=a_ c->∀v,s.heap.IsCell c v->h'.IsCell c v:=λx c e v ⟨o,ho,hd⟩=>by
  have o9:c∉ch:=λz=>(f6 c z).2.2.1 x c e rfl;by_cases hc:c∈X.fs
  ·let⟨sl,q⟩:=slot c o (I.cne x c e) hc o9 ho (I.freeC x c e);exact⟨_,q,hd⟩
  ·exact⟨o,keep c o (I.cne x c e) hc o9 ho (I.freeC x c e),hd⟩
 refine⟨I.ok,I.os,hg,⟨λb o e n hb hx=>?_,λb o e n hb hx=>?_,λb o e n hx=>?_,λb o e hx=>?_,λb xs e=>tups b xs (I.base.tups b xs e),λb o xs e=>frzs b o xs (I.base.frzs b o xs e),λb ps e=>?_⟩,?_,λx c e=>?_,?_,λx c e=>?_,λp hp=>?_,hok,I.len⟩
 ·exact keep b o (ya b o e) hb (qv b o e hx) (I.base.keep b o e n hb hx) (I.base.free b o e n hx)
 ·let⟨sl,e1⟩:=I.base.slot b o e n hb hx;let⟨jq,e2⟩:=slot b _ (ya b o e) hb (qv b o e hx) e1 (I.base.free b o e n hx);exact⟨jq,e2⟩
 ·let⟨o',e1⟩:=I.base.there b o e hx;exact free b o' (qv b o e hx) e1 (I.base.free b o e n hx)
 ·let⟨o',e1⟩:=I.base.there b o e hx;exact there b o' (qv b o e hx) e1
 ·let⟨m1,e1⟩:=I.base.tbls b ps e;let⟨m2,e2⟩:=tbls b _ e1;exact⟨m1++m2,by rw[e2,Array.append_assoc]⟩
 ·let⟨m,hn,hl⟩:=I.loc;refine⟨m,ns m hn,λi x v e1 e2 e3=>?_⟩;let⟨u,r,l⟩:=hl i x v e1 e2 e3;refine⟨u,r,?_⟩;rcases l with l|⟨k,c,e,z⟩
  ·exact .inl l
  ·exact .inr ⟨k,c,e,cellK x c e _ z⟩
 ·let⟨v,z⟩:=I.cell x c e;exact⟨v,cellK x c e v z⟩
 ·let⟨m,⟨o,_,_,ho,_⟩,_⟩:=I.loc;exact free _ o (λz=>(f6 _ z).2.1 rfl) ho I.free
 ·let⟨v,o,ho,hd⟩:=I.cell x c e;exact free c o (λz=>(f6 c z).2.2.1 x c e rfl) ho (I.freeC x c e)
 ·let⟨e,n,ne,nf,d⟩:=I.pin p hp;have o9:p.1∉ch:=λz=>(f6 p.1 z).2.2.2 p hp rfl;exact⟨keep p.1 p.2 ne nf o9 e n,free p.1 p.2 o9 e n,ne,nf,d⟩
theorem Inv.un{t':Nat}(I:Inv X FR σ H s)(u:Un X.fs [] H H' s.heap h')(hok:HOk X.prog X.w H' h'):Inv X FR σ H' {s with heap:=h',toks:=t'}:=by let⟨m,⟨o,es,ep,ho,r⟩,_⟩:=id I.loc;let⟨sl,hL⟩:=u.any ho I.free (by simp);exact I.step (g':=s.gens) (d':=s.drawn) (ch:=[]) (λ_ z=>nomatch z) (λb o _ hb _ e n=>u.keep b o e n hb (by simp)) (λb o _ hb _ e n=>u.slot b o e n hb (by simp)) (λb o _ e n=>u.free b o e n (by simp)) (λb o _ e=>u.there b o e (by simp)) u.tups u.frzs u.tbls (λm' hm=>by let⟨o',es',c5,bw,r'⟩:=hm;rw[ho]at bw;cases bw;exact⟨_,es',c5,hL,r'⟩) hok I.bare
theorem Inv.call{g':Array GenState}{t':Nat}{d':Drawn}{ch:C_ u_}(I:Inv X FR σ H s)(u:Un (frs X.stack) ch H H' s.heap h')(hok:HOk X.prog X.w H' h')(hg:AllBare g')
  (f6:∀b∈ch,(b∈X.ex\/X.s₀.heap.objs.size<=b)/\b≠X.env.locals/\(∀x c,X.env.cells.lookup x=a_ c->c≠b)/\∀p∈X.pn++FR,p.1≠b):
  Inv X FR σ H' {s with heap:=h',gens:=g',drawn:=d',toks:=t'}:=by
 let⟨m,⟨o,es,ep,ho,r⟩,_⟩:=id I.loc;let⟨sl,hL⟩:=u.any ho I.free λz=>(f6 _ z).2.1 rfl;exact I.step (ch:=ch) f6 (λb o hL hb hc e n=>u.keep b o e n (λz=>(Zs.mp (I.stkSub b z)).elim hL hb) hc) (λb o _ _ hc e n=>u.any e n hc) (λb o hc e n=>u.free b o e n hc) (λb o hc e=>u.there b o e hc) u.tups u.frzs u.tbls (λm' hm=>by let⟨o',es',c5,bw,r'⟩:=hm;rw[ho]at bw;cases bw;exact⟨_,es',c5,hL,r'⟩) hok hg
theorem Inv.turned{t':Nat}{it:u_}(I:Inv X FR σ H s)(k:∀b o,b≠it->s.heap.get? b=a_ o->h'.get? b=a_ o)(hn:H it=b_)(hL:it≠X.env.locals)
  (h1:it∈X.ex\/X.s₀.heap.objs.size<=it) (h2:∀x c,X.env.cells.lookup x=a_ c->c≠it) (h3:∀p∈X.pn++FR,p.1≠it):Inv X FR σ H {s with heap:=h',toks:=t'}:=by
 have dt:∀b u,H b=a_ u->b≠it:=λb u e z=>by rw[z,hn]at e;cases e
 refine I.step (g':=s.gens) (d':=s.drawn) (ch:=[it]) (λb hb=>?_) (λb o _ _ hc e _=>k b o (λz=>hc (by simp[z])) e) (λb o _ _ hc e _=>⟨o.slots,k b o (λz=>hc (by simp[z])) e⟩) (λ_ _ _ _ n=>n)
  (λb o hc e=>⟨o,k b o (λz=>hc (by simp[z])) e⟩) (λ_ _ e=>e) (λ_ _ _ e=>e) (λb ps e=>⟨#[],by rw[e];simp⟩) (λm hm=>?_) (λb u e=>?_) I.bare
 ·have e:b=it:=by simpa using hb
  subst e;exact⟨h1,hL,h2,h3⟩
 ·let⟨o,es,ep,ho,r⟩:=hm;exact⟨o,es,ep,k _ o (ZV hL) ho,r⟩
 ·refine(I.hok b u e).stay (λc v hc q=>k c v ?_ q) (λ_ q=>q) λ_ _ q=>q;rcases hc with z|z
  ·rw[z];exact dt b u e
  ·exact dt c _ z
theorem Inv.tok(I:Inv X FR σ H s)(t:Nat):Inv X FR σ H { s with toks:=t}:=I.un (h':=s.heap) (t':=t) Un.refl I.hok
theorem Inv.kept(I:Inv X FR σ H s)(k:∀b u,s.heap.get? b=a_ u->h'.get? b=a_ u):Inv X FR σ H {s with heap:=h',toks:=t'}:=I.un (Un.kept k) (I.hok.kept k)
theorem Inv.laid{a:u_}{o:HO}{t':Nat}(I:Inv X FR σ H s)(k:∀b u,s.heap.get? b=a_ u->h'.get? b=a_ u)(hp:(e_ s)<=a)(new:eB X.prog X.w (upd H a o) h' a o):
  Inv X FR σ (upd H a o) {s with heap:=h',toks:=t'}:=I.un (Un.laid k hp (I.hok.fresh hp)) (I.hok.laid k hp new)
theorem Inv.write(I:Inv X FR σ H s)(mu:Mut (H x))(he:e=x\/H e=a_ (.own x))(k:∀b u,b≠e->s.heap.get? b=a_ u->h'.get? b=a_ u)(kn:∃u,h'.get? e=a_ u)(new:eB X.prog X.w (upd H x o) h' x o):Inv X FR σ (upd H x o) {s with heap:=h',toks:=t'}:=I.un (Un.write mu he k kn) (I.hok.write mu he k kn new)
theorem Inv.pins_of(I:Inv X FR σ H s)(h:∀p∈cq,s.heap.get? p.1=a_ p.2/\H p.1=b_/\p.1≠X.env.locals/\p.1∉X.fs/\∀v,p.2.data≠.cell v):Inv X cq σ H s:=⟨I.ok,I.os,I.bare,I.base,I.loc,I.cell,I.free,I.freeC,λp hp=>(ZQ.mp hp).elim (λz=>I.pin p (Z5 _ z)) (h p),I.hok,I.len⟩
def Fo{N:C_ Str}(hN:N.Nodup){i j:Nat}{x:Str}(a:N[i]?=a_ x)(b:N[j]?=a_ x):i=j:=by let⟨h1,e1⟩:=Zc.mp a;let⟨h2,e2⟩:=Zc.mp b;exact(List.getElem_inj hN).mp (e1.trans e2.symm)
def D7{M:Model}{A:w_}{E:f_ 0}{i:Nat}{x:Str}{v:V}{u:s_}{Q:j_ Unit}(I:Inv X FR σ H s)(hN:X.N.Nodup)(hi:X.N[i]?=a_ x)(hx:Loc X.env.scope x)(r:RelV v u)
  (h:∀s',Inv X FR (σ.set i (a_ v)) H s'->(∃a,y0z a s.heap s'.heap/\(a=X.env.locals\/X.env.cells.lookup x=a_ a))->Q () s') (hf:X.fn x=true\/X.env.scope.names.lookup x=a_ .local:=by first|exact .inl rfl|exact .inr rfl|assumption):wpAny M A (storeName X.env x u) Q E s:=by
 let⟨m,hn,hl⟩:=id I.loc;have ug:(X.env.scope.kind == .class || (X.env.scope.kind == .module&&X.env.locals != X.env.globals))=false:=by rw[I.ok.kind];rfl
 have Xg:i<σ.length:=by rw[I.len];exact(Zc.mp hi).1
 have cne:=I.cne;have tracked:∀{a:u_}{h':x_},(∃o,s.heap.get? a=a_ o/\H a=b_)->y0z a s.heap h'->HOk X.prog X.w H h':=λ{a h'} ha hs b ob e=>by
  let⟨_,_,iy⟩:=ha;refine(I.hok b ob e).stay (λc w' hc q=>(hs.2 c ?_).trans q) (λ_ q=>q) λ_ _ q=>q;rintro rfl;rcases hc with rfl|hc
  ·rw[iy]at e;cases e
  ·rw[iy]at hc;cases hc
 rcases hx with hk|hk
 ·refine wpAny_storeName_local hk hn (λh' ko hs=>?_) ug;let⟨oL,_,_,ia,_⟩:=id hn;refine h _ ⟨I.ok,I.os,I.bare,⟨λb o e n hb hx=>?_,λb o e n hb hx=>?_,I.base.free,λb o e hx=>?_,I.base.tups,I.base.frzs,I.base.tbls⟩,⟨_,ko,λj y v' e1 e2 e3=>?_⟩,λy c e=>?_,I.free,I.freeC,λp hp=>?_,tracked ⟨oL,ia,I.free⟩ hs,l_ I.len⟩ ⟨_,hs,.inl rfl⟩
  ·exact(hs.2 b (Zt (Zz (Zl e) I.ok.above))).trans (I.base.keep b o e n hb hx)
  ·let⟨sl,e1⟩:=I.base.slot b o e n hb hx;exact⟨sl,(hs.2 b (Zt (Zz (Zl e) I.ok.above))).trans e1⟩
  ·let⟨o',e1⟩:=I.base.there b o e hx;exact⟨o',(hs.2 b (Zt (Zz (Zl e) I.ok.above))).trans e1⟩
  ·by_cases hj:j=i
   ·subst hj;rw[hi]at e1;cases e1;rw[y09 Xg]at e2;cases e2
    exact⟨u,r,.inl ⟨hk,by simp⟩⟩
   ·rw[Zk (ZV hj)]at e2;let⟨u',r',q⟩:=hl j y v' e1 e2 e3;refine⟨u',r',?_⟩;rcases q with⟨k,e⟩|⟨k,c,e,z⟩
    ·refine .inl ⟨k,?_⟩;have:y≠x:=λe=>hj (Fo hN e1 (e▸hi));simp[this,e]
    ·exact .inr ⟨k,c,e,z.sameBut hs (cne y c e)⟩
  ·let⟨w',z⟩:=I.cell y c e;exact⟨w',z.sameBut hs (cne y c e)⟩
  ·let⟨e,n,ne,nf,d⟩:=I.pin p hp;exact⟨(hs.2 p.1 ne).trans e,n,ne,nf,d⟩
 ·have ue:X.fn x=true:=by
   rcases hf with z|z
   ·exact z
   ·rw[z]at hk;cases hk
  let⟨c,hc⟩:=I.ok.has x (.inl hk);let⟨w',z⟩:=I.cell x c hc;refine wpAny_storeName_cell I.ok.kind hk hc z (λh' ae hs=>?_);let⟨oc,y0,vk⟩:=id z;refine h {s with heap:=h'} ⟨I.ok,I.os,I.bare,⟨λb o e n hb hx=>?_,λb o e n hb hx=>?_,I.base.free,λb o e hx=>?_,I.base.tups,I.base.frzs,I.base.tbls⟩,⟨m,hn.sameBut hs (ZV (cne x c hc)),λj y v' e1 e2 e3=>?_⟩,λy c' e=>?_,I.free,I.freeC,λp hp=>?_,tracked ⟨oc,y0,I.freeC x c hc⟩ hs,l_ I.len⟩ ⟨c,hs,.inr hc⟩
  ·exact(hs.2 b (Zt (Zz (Zl e) (I.ok.cab x c ue hc)))).trans (I.base.keep b o e n hb hx)
  ·let⟨sl,e1⟩:=I.base.slot b o e n hb hx;exact⟨sl,(hs.2 b (Zt (Zz (Zl e) (I.ok.cab x c ue hc)))).trans e1⟩
  ·let⟨o',e1⟩:=I.base.there b o e hx;exact⟨o',(hs.2 b (Zt (Zz (Zl e) (I.ok.cab x c ue hc)))).trans e1⟩
  ·by_cases hj:j=i
   ·subst hj;rw[hi]at e1;cases e1;rw[y09 Xg]at e2;cases e2
    exact⟨u,r,.inr ⟨.inl hk,c,hc,ae⟩⟩
   ·rw[Zk (ZV hj)]at e2;let⟨u',r',q⟩:=hl j y v' e1 e2 e3;refine⟨u',r',?_⟩;rcases q with q|⟨k,c',e,z'⟩
    ·exact .inl q
    ·refine .inr ⟨k,c',e,z'.sameBut hs ?_⟩;rintro rfl;exact hj (Fo hN e1 (I.ok.inj _ _ _ e hc▸hi))
  ·by_cases hcc:c'=c
   ·subst hcc;exact⟨_,ae⟩
   ·let⟨w2,z2⟩:=I.cell y c' e;exact⟨w2,z2.sameBut hs hcc⟩
  ·let⟨e,n,ne,nf,d⟩:=I.pin p hp;refine⟨(hs.2 p.1 ?_).trans e,n,ne,nf,d⟩;intro q;rw[q,y0]at e;have q':oc=p.2:=ZI e;exact d w' (by rw[<-q'];exact vk)
def Fp{E:f_ 0}{Q:j_ Unit}(I:Inv X FR σ H s)(hN:X.N.Nodup)(hi:X.N[i]?=a_ x)(hx:Loc X.env.scope x)(r:RelV v u)(h:∀s',Inv X FR (σ.set i (a_ v)) H s'->Q () s')(hf:X.fn x=true\/X.env.scope.names.lookup x=a_ .local:=by first|exact .inl rfl|exact .inr rfl|assumption):wpAny M A (storeName X.env x u) Q E s:=D7 I hN hi hx r (λs' I' _=>h s' I') hf
theorem Inv.call'{s':t_}(I:Inv X FR σ H s)(ho:s'.os=s.os)(u:Un (frs X.stack) ch H H' s.heap s'.heap)(hok:HOk X.prog X.w H' s'.heap)(hg:AllBare s'.gens)(f6:∀b∈ch,(b∈X.ex\/X.s₀.heap.objs.size<=b)/\b≠X.env.locals/\(∀x c,X.env.cells.lookup x=a_ c->c≠b)/\∀p∈X.pn++FR,p.1≠b):Inv X FR σ H' s':=by let⟨h',g',d',t',o'⟩:=s';have e:o'=s.os:=ho;subst e;exact I.call (g':=g') (t':=t') (d':=d') u hok hg f6
end
abbrev XK:=s_->D_ u_->Hp->Prop
abbrev St:=C_ (D_ V)
abbrev VK:=V->Hp->Prop
abbrev TE:=St->Hp->VK->Prop
abbrev TT:=St->Hp->(Bool->Hp->Prop)->Prop
abbrev TA:=St->Hp->(C_ V->Hp->Prop)->Prop
structure Ends where
 nx:St->Hp->Prop
 rt:VK
 bk:St->Hp->Prop:=λ_ _=>False
 ct:St->Hp->Prop:=λ_ _=>False
abbrev TS:=Ends->St->Hp->Prop
def EP(X:Cx)(FR:g_ 0)(σ:St)(Q:VK)(u:s_)(s':t_):Prop:=∃v H',Inv X FR σ H' s'/\RelV v u/\Q v H'
def TP(X:Cx)(FR:g_ 0)(σ:St)(Q:Bool->Hp->Prop)(b:Bool)(s':t_):Prop:=∃H',Inv X FR σ H' s'/\Q b H'
def AP(X:Cx)(FR:g_ 0)(σ:St)(Q:C_ V->Hp->Prop)(us:C_ s_)(s':t_):Prop:=∃vs H',Inv X FR σ H' s'/\bN vs us/\Q vs H'
def SP(X:Cx)(FR:g_ 0)(D:Ends)(f:Flow)(s':t_):Prop:=
 match f with
 |.next=>∃σ' H',Inv X FR σ' H' s'/\D.nx σ' H'
 |.brk=>∃σ' H',Inv X FR σ' H' s'/\D.bk σ' H'
 |.cont=>∃σ' H',Inv X FR σ' H' s'/\D.ct σ' H'
 |.ret u=>∃v σ' H',Inv X FR σ' H' s'/\RelV v u/\D.rt v H'
def PE(X:Cx)(e:A_)(t:TE):Prop:=
 ∀(FR:g_ 0)(s:t_)(σ:St)(H:Hp)(Q:VK),Inv X FR σ H s->t σ H Q->wpAny (h_ X) X.A (eval e X.env) (EP X FR σ Q) X.xe s
def PT(X:Cx)(e:A_)(t:TT):Prop:=
 ∀(FR:g_ 0)(s:t_)(σ:St)(H:Hp)(Q:Bool->Hp->Prop),Inv X FR σ H s->t σ H Q->wpAny (h_ X) X.A (isTrue e X.env (eval e X.env)) (TP X FR σ Q) X.xe s
def PW(X:Cx)(e:A_)(t:TT):Prop:=
 ∀(whole:Sem s_)(FR:g_ 0)(s:t_)(σ:St)(H:Hp)(Q:Bool->Hp->Prop),Inv X FR σ H s->t σ H Q->wpAny (h_ X) X.A (isTrue e X.env whole) (TP X FR σ Q) X.xe s
theorem PW.pt(h:PW X e t):PT X e t:=h _
def PA(X:Cx)(es:C_ A_)(t:TA):Prop:=
 ∀(pos:Pos)(FR:g_ 0)(s:t_)(σ:St)(H:Hp)(Q:C_ V->Hp->Prop),Inv X FR σ H s->t σ H Q->wpAny (h_ X) X.A (spliced (backTo pos (Zx es X.env))) (AP X FR σ Q) X.xe s
def PS(X:Cx)(st:B_)(t:TS):Prop:=
 ∀(FR:g_ 0)(s:t_)(σ:St)(H:Hp)(D:Ends),Inv X FR σ H s->t D σ H->wpAny (h_ X) X.A (exec st X.env) (SP X FR D) X.xe s
def PSs(X:Cx)(st:C_ B_)(t:TS):Prop:=
 ∀(FR:g_ 0)(s:t_)(σ:St)(H:Hp)(D:Ends),Inv X FR σ H s->t D σ H->wpAny (h_ X) X.A (execs st X.env) (SP X FR D) X.xe s
def thn{α:Type}{t:Sem α}{Q Q':α->t_->Prop}{M:Model}{A:w_}{E:f_ 0}{s:t_}(h:wpAny M A t Q E s)(hQ:∀a s,Q a s->Q' a s):wpAny M A t Q' E s:=y0I h hQ λ_ _ x=>x
section
variable{X:Cx}
def VZ(i:Nat):TE:=λσ H Q=>∃v,σ[i]?=a_ (a_ v)/\Q v H
def tC(v:V):TE:=λ_ H Q=>Q v H
def KZ{i:Nat}{x:Str}{pos:Pos}(hN:X.N[i]?=a_ x)(hv:Vis X.env.scope x)(hd:(x == ("__debug__" : Str))=false:=by decide)(dv:(x == ("__classdict__" : Str))=false:=by decide):PE X (.Name x pos) (VZ i):=by
 intro FR s σ H Q I h;let⟨v,e,h⟩:=h;let⟨m,hn,hl⟩:=I.loc;let⟨u,r,l⟩:=hl i x v hN e hv;have fin:EP X FR σ Q u s:=⟨v,H,I,r,h⟩;rcases l with⟨hk,hm⟩|⟨hk,c,hc,dk⟩
 ·exact wpAny_Name (wpAny_loadName_local I.ok.kind hk hn hm fin) hd
 ·rcases hk with hk|hk
  ·exact wpAny_Name (wpAny_loadName_cell I.ok.kind hk hc dk fin) hd
  ·exact wpAny_Name (wpAny_loadName_free I.ok.kind hk hc dk fin dv) hd
def Rg{i j pos}:PE X (.Constant (.int i) j pos) (tC (.int i)):=λ_ _ _ H _ I h=>wpAny_Constant_int ⟨.int i,H,I.tok _,⟨_,rfl⟩,h⟩
def TU{b j pos}:PE X (.Constant (.bool b) j pos) (tC (.bl b)):=λ_ _ _ H _ I h=>Constant_bool ⟨.bl b,H,I,rfl,h⟩
def Rh{x j pos}:PE X (.Constant (.str x) j pos) (tC (.str x)):=λ_ _ _ H _ I h=>Calls.Constant_str ⟨.str x,H,I.tok _,⟨_,rfl⟩,h⟩
def Gl(X:Cx)(x:Str):Prop:=X.env.kindOf x=a_ .globalImplicit
def Ax{E:f_ 0}{FR:g_ 0}{s:t_}{σ:St}{H:Hp}{x:Str}{u:s_}{pos:Pos}{Q:f_ 0}(I:Inv X FR σ H s)(hg:Gl X x)(hm:X.mg x=a_ u)(h:Q u s)
  (hd:(x == ("__debug__" : Str))=false:=by decide):wpAny (h_ X) X.A (eval (.Name x pos) X.env) Q E s:=
 Calls.Name_function_global I.ok.kind hg (Calls.loadGlobal_global (by rw[I.ok.glob];exact I.mod.glob.keeps I.bk) hm h) hd
def rG{E:f_ 0}{FR:g_ 0}{s:t_}{σ:St}{H:Hp}{x:Str}{u:s_}{pos:Pos}{Q:f_ 0}(I:Inv X FR σ H s)(hg:Gl X x)(hm:X.mg x=b_)(hv:y1t x=a_ u)(h:Q u s)
  (hn:x≠"__name__" := by decide) (hd:(x == ("__debug__" : Str))=false:=by decide):wpAny (h_ X) X.A (eval (.Name x pos) X.env) Q E s:=by
 let⟨mb,h1,h2⟩:=I.mod.blt;exact Calls.Name_function_global I.ok.kind hg (Calls.loadGlobal_builtin (by rw[I.ok.glob];exact I.mod.glob.keeps I.bk) hm (by rw[I.ok.blt];exact h1.keeps I.bk) ((h2 x hn).trans hv) h) hd
def Oz(hg:Gl X x)(hm:X.mg x=a_ u)(r:RelV v u)(hd:(x == ("__debug__" : Str))=false:=by decide):PE X (.Name x pos) (tC v):=
 λ_ _ _ H _ I h=>Ax I hg hm ⟨v,H,I,r,h⟩ hd
def OA{x:Str}{v:V}{u:s_}{pos:Pos}(hg:Gl X x)(hm:X.mg x=b_)(hv:y1t x=a_ u)(r:RelV v u)(hn:x≠"__name__" := by decide)(hd:(x == ("__debug__" : Str))=false:=by decide):PE X (.Name x pos) (tC v):=
 λ_ _ _ H _ I h=>rG I hg hm hv ⟨v,H,I,r,h⟩ hn hd
variable{a b:A_}{ta tb:TE}{pos:Pos}
variable{tA qo:TT}{rest:C_ A_}
def W0(t u:TT):TT:=λσ H Q=>t σ H λc H1=>if c=true then u σ H1 Q else Q false H1
def tOr(t u:TT):TT:=λσ H Q=>t σ H λc H1=>if c=true then Q true H1 else u σ H1 Q
def W1(t:TT):TT:=λσ H Q=>t σ H λc H1=>Q (!c) H1
def OB(ha:PT X a tA):PW X (.BoolOp .And [a] pos) tA:=by
 intro wh FR s σ H Q I h;refine isTrue_and (thn (ha FR s σ H Q I h) λc s1 e=>?_);cases c with
 |true=>exact isTrue_and_nil e
 |false=>exact e
def Ri(ha:PT X a tA):PW X (.BoolOp .Or [a] pos) tA:=by
 intro wh FR s σ H Q I h;refine isTrue_or (thn (ha FR s σ H Q I h) λc s1 e=>?_);cases c with
 |false=>exact isTrue_or_nil e
 |true=>exact e
def Rj(ha:PT X a tA)(hb:PW X (.BoolOp .And (b::rest) pos) qo):PW X (.BoolOp .And (a::b::rest) pos) (W0 tA qo):=by
 intro wh FR s σ H Q I h;refine isTrue_and (thn (ha FR s σ H _ I h) λc s1 ⟨H1,I1,q1⟩=>?_);cases c with
 |true=>exact hb wh FR s1 σ H1 Q I1 q1
 |false=>exact⟨H1,I1,q1⟩
def TV(ha:PT X a tA)(hb:PW X (.BoolOp .Or (b::rest) pos) qo):PW X (.BoolOp .Or (a::b::rest) pos) (tOr tA qo):=by
 intro wh FR s σ H Q I h;refine isTrue_or (thn (ha FR s σ H _ I h) λc s1 ⟨H1,I1,q1⟩=>?_);cases c with
 |true=>exact⟨H1,I1,q1⟩
 |false=>exact hb wh FR s1 σ H1 Q I1 q1
def Rl(ha:PT X a tA):PT X (.UnaryOp .Not a pos) (W1 tA):=by intro FR s σ H Q I h;exact isTrue_not (ha FR s σ H (λc H1=>Q (!c) H1) I h)
def Rm{op}(h:PE X a t):PE X (.BoolOp op [a] pos) t:=λFR s σ H Q I hw=>BoolOp_one (h FR s σ H Q I hw)
end
def SqL(K:Zf)(H:Hp)(a:u_)(xs:C_ V):Prop:=
 Rd H a (.lst xs)\/
  ∃(o:Obj)(its:Array s_)(n:Nat),K.lookup a=a_ o/\o.cls=.type "list" /\ o.dict=b_/\o.data=.seq its n/\its.size<=Zq/\bN xs its.toList
def SqT(K:Zf)(H:Hp)(a:u_)(xs:C_ V):Prop:=
 Rd H a (.tup xs)\/
  ∃(o:Obj)(its:Array s_)(n:Nat),K.lookup a=a_ o/\o.cls=.type "tuple" /\ o.data=.seq its n/\its.size<=Zq/\bN xs its.toList/\o.dict=b_
def W2:s_->D_ V
 |.none=>a_ .non
 |.bool b=>a_ (.bl b)
 |.int i _=>d_ i
 |.str x _=>a_ (.str x)
 |.bytes b _=>a_ (.byt b)
 |.float b _=>a_ (.flt b)
 |.ref a=>c_ a
 |.type n=>a_ (.ty n)
 |_=>b_
theorem RelV.abs(r:RelV x u):W2 u=a_ x:=by
 cases x with
 |non=>cases r;rfl
 |bl _=>cases r;rfl
 |int _=>let⟨t,rfl⟩:=r;rfl
 |str _=>let⟨t,rfl⟩:=r;rfl
 |byt _=>let⟨t,rfl⟩:=r;rfl
 |flt _=>let⟨t,rfl⟩:=r;rfl
 |ref _=>cases r;rfl
 |ty _=>cases r;rfl
theorem RelV.inj(r:RelV x u)(q:RelV y u):x=y:=ZI (r.abs.symm.trans q.abs)
theorem bN.inj:∀{xs ys:C_ V}{us:C_ s_},bN xs us->bN ys us->xs=ys
 |_,_,_,.nil,.nil=>rfl
 |_,_,_,.cons r t,.cons r' t'=>by rw[r.inj r',bN.inj t t']
section
variable{X:Cx}{FR:g_ 0}{σ:St}{H:Hp}{s:t_}{a:u_}{xs ys:C_ V}
theorem SqL.of{K:Zf}(h:H a=a_ (.lst xs)):SqL K H a xs:=.inl (.inl h)
theorem SqT.of{K:Zf}(h:H a=a_ (.tup xs)):SqT K H a xs:=.inl (.inl h)
theorem Inv.list(I:Inv X FR σ H s)(h:SqL X.K H a xs):∃its:C_ s_,bN xs its/\PlainL s.heap a its.toArray/\xs.length<=Zq:=by
 rcases h with h|⟨o,its,n,hk,hc,hd,hs,hz,r⟩
 ·let⟨z,its,n,r,e⟩:=h.ok I.hok;exact⟨its,r,⟨_,n,e,rfl,rfl,rfl⟩,z⟩
 ·refine⟨its.toList,r,⟨o,n,I.kIn a o hk,hc,hd,l_ hs⟩,?_⟩;have e:=r.length;simp only[y18]at e;omega
theorem Inv.tuple(I:Inv X FR σ H s)(h:SqT X.K H a xs):∃its:C_ s_,bN xs its/\IsTup s.heap a its.toArray/\xs.length<=Zq:=by
 rcases h with h|⟨o,its,n,hk,hc,hs,hz,r,_⟩
 ·let⟨z,its,r,p⟩:=h.ok I.hok;exact⟨its,r,p.is,z⟩
 ·refine⟨its.toList,r,⟨o,I.kIn a o hk,hc,n,l_ hs⟩,?_⟩;have e:=r.length;simp only[y18]at e;omega
theorem Inv.list_inj(I:Inv X FR σ H s)(h:SqL X.K H a xs)(h':SqL X.K H a ys):xs=ys:=by
 let⟨its,r,⟨o,n,e,_,_,d⟩,_⟩:=I.list h;let⟨its',r',⟨o',n',e',_,_,d'⟩,_⟩:=I.list h';rw[e]at e';cases e';rw[d]at d';injection d' with d1 _;have:its=its':=by simpa using congrArg Array.toList d1
 subst this;exact r.inj r'
theorem Inv.tuple_inj(I:Inv X FR σ H s)(h:SqT X.K H a xs)(h':SqT X.K H a ys):xs=ys:=by
 let⟨its,r,⟨o,e,_,n,d⟩,_⟩:=I.tuple h;let⟨its',r',⟨o',e',_,n',d'⟩,_⟩:=I.tuple h';rw[e]at e';cases e';rw[d]at d';injection d' with d1 _;have:its=its':=by simpa using congrArg Array.toList d1
 subst this;exact r.inj r'
end
abbrev Cx.wish(X:Cx)(E:f_ 0):Cx:={ X with xe:=E}
abbrev Cx.nox(X:Cx):Cx:=X.wish λ_ _=>False
theorem Cx.Ok.wish{X:Cx}(ok:X.Ok)(E:f_ 0):(X.wish E).Ok:=⟨ok.mod,ok.kind,ok.glob,ok.blt,ok.above,ok.inj,ok.has,ok.cab,ok.hd,ok.frames,ok.stk,ok.exf,ok.bs,ok.bsz,ok.noex,ok.exfs,ok.funs,ok.frf⟩
theorem Cx.Ok.unwish{X:Cx}{E:f_ 0}(ok:(X.wish E).Ok):X.Ok:=⟨ok.mod,ok.kind,ok.glob,ok.blt,ok.above,ok.inj,ok.has,ok.cab,ok.hd,ok.frames,ok.stk,ok.exf,ok.bs,ok.bsz,ok.noex,ok.exfs,ok.funs,ok.frf⟩
section
variable{X:Cx}{FR:g_ 0}{σ:St}{H:Hp}{s:t_}{E:f_ 0}
theorem Inv.wish(I:Inv X FR σ H s)(E:f_ 0):Inv (X.wish E) FR σ H s:=⟨I.ok.wish E,I.os,I.bare,I.base,I.loc,I.cell,I.free,I.freeC,I.pin,I.hok,I.len⟩
theorem Inv.unwish(I:Inv (X.wish E) FR σ H s):Inv X FR σ H s:=⟨I.ok.unwish,I.os,I.bare,I.base,I.loc,I.cell,I.free,I.freeC,I.pin,I.hok,I.len⟩
theorem SP.unwish(h:SP (X.wish E) FR D f s'):SP X FR D f s':=by
 cases f with
 |next=>let⟨σ',H',I,q⟩:=h;exact⟨σ',H',I.unwish,q⟩
 |brk=>let⟨σ',H',I,q⟩:=h;exact⟨σ',H',I.unwish,q⟩
 |cont=>let⟨σ',H',I,q⟩:=h;exact⟨σ',H',I.unwish,q⟩
 |ret u=>let⟨v,σ',H',I,r,q⟩:=h;exact⟨v,σ',H',I.unwish,r,q⟩
theorem PSs.nox{st:C_ B_}{t:TS}(h:PSs X.nox st t):PSs X st t:=λFR s σ H D I hw=>y0I (h FR s σ H D (I.wish _) hw) (λ_ _ q=>q.unwish) λ_ _ z=>y1a z
end
section
variable{X:Cx}{st:B_}{rest:C_ B_}{t u:TS}{e:A_}{te:TE}{pos:Pos}
def TX:TS:=λD σ H=>D.nx σ H
def W4(t u:TS):TS:=λD σ H=>t { D with nx:=u D} σ H
def OC:PSs X [] TX:=λ_ _ σ H _ I h=>wpAny_execs_nil ⟨σ,H,I,h⟩
def L0(h1:PS X st t)(h2:PSs X rest u):PSs X (st::rest) (W4 t u):=by
 intro FR s σ H D I h;refine wpAny_execs_cons (thn (h1 FR s σ H { D with nx:=u D} I h) λf s1 q=>?_);cases f with
 |next=>let⟨σ',H',I',q⟩:=q;exact h2 FR s1 σ' H' D I' q
 |ret v=>exact q
 |brk=>exact q
 |cont=>exact q
def OD(h1:PS X st t):PSs X [st] t:=by
 intro FR s σ H D I h;refine wpAny_execs_cons (thn (h1 FR s σ H D I h) λf s1 q=>?_);cases f with
 |next=>exact wpAny_execs_nil q
 |ret v=>exact q
 |brk=>exact q
 |cont=>exact q
theorem Inv.quiet{FR:g_ 0}{σ:St}{H:Hp}{s:t_}(I:Inv X FR σ H s):interactive X.env=false:=by simp[interactive,I.ok.kind]
def TY(te:TE):TS:=λD σ H=>te σ H λ_ H1=>D.nx σ H1
def OF(he:PE X e te)(hs:swapsWith e b_ pos.line X.env=pure false:=by rfl):PS X (.Expr e pos) (TY te):=by intro FR s σ H D I h;exact wpAny_Expr_any (thn (he FR s σ H _ I h) λv s1 ⟨x,H1,I1,r1,q1⟩=>⟨σ,H1,I1,q1⟩) I.quiet hs
def W5(te:TE):TS:=λD σ H=>te σ H D.rt
def Rn(he:PE X e te):PS X (.Return (a_ e) pos) (W5 te):=by intro FR s σ H D I h;exact wpAny_Return_some (thn (he FR s σ H _ I h) λv s1 ⟨x,H1,I1,r1,q1⟩=>⟨x,σ,H1,I1,r1,q1⟩)
def W6(c:TT)(t u:TS):TS:=λD σ H=>c σ H λb H1=>if b=true then t D σ H1 else u D σ H1
def TZ{c:A_}{a b:C_ B_}{tc:TT}(hc:PT X c tc)(ha:PSs X a t)(hb:PSs X b u):PS X (.If c a b pos) (W6 tc t u):=by
 intro FR s σ H D I h;refine wpAny_If (thn (hc FR s σ H _ I h) λd s1 ⟨H1,I1,q1⟩=>?_);cases d with
 |true=>exact ha FR s1 σ H1 D I1 q1
 |false=>exact hb FR s1 σ H1 D I1 q1
end
abbrev TG:=V->St->Hp->(St->Hp->Prop)->Prop
abbrev TGs:=C_ V->St->Hp->(St->Hp->Prop)->Prop
def PG(X:Cx)(target:A_)(t:TG):Prop:=
 ∀(FR:g_ 0)(s:t_)(σ:St)(H:Hp)(v:V)(u:s_)(Q:St->Hp->Prop),Inv X FR σ H s->RelV v u->t v σ H Q->
  wpAny (h_ X) X.A (assign target X.env u) (λ_ s'=>∃σ' H',Inv X FR σ' H' s'/\Q σ' H') X.xe s
def PGs(X:Cx)(ts:C_ A_)(t:TGs):Prop:=
 ∀(FR:g_ 0)(s:t_)(σ:St)(H:Hp)(vs:C_ V)(us:C_ s_)(Q:St->Hp->Prop),Inv X FR σ H s->bN vs us->t vs σ H Q->
  wpAny (h_ X) X.A (assignInOrder ((y1G ts X.env).map (·.2)) us) (λ_ s'=>∃σ' H',Inv X FR σ' H' s'/\Q σ' H') X.xe s
abbrev W7:=V->V->V->Hp->(Hp->Prop)->Prop
def W8(X:Cx)(t:W7):Prop:=
 ∀(FR:g_ 0)(s:t_)(σ:St)(H:Hp)(o i v:V)(ov iv u:s_)(Q:Hp->Prop),Inv X FR σ H s->RelV o ov->RelV i iv->RelV v u->t o i v H Q->
  wpAny (h_ X) X.A (setItem ov iv u) (λ_ s'=>∃H',Inv X FR σ H' s'/\Q H') X.xe s
section
variable{X:Cx}{pos:Pos}
def L1(i:Nat):TG:=λv σ H Q=>Q (σ.set i (a_ v)) H
def OG(hN:X.N.Nodup)(hi:X.N[i]?=a_ x)(hx:Loc X.env.scope x)(hf:X.fn x=true\/X.env.scope.names.lookup x=a_ .local:=by first|exact .inl rfl|exact .inr rfl|assumption):PG X (.Name x pos) (L1 i):=by intro FR s σ H v u Q I r h;exact wpAny_assign_Name (Fp I hN hi hx r (λs' I'=>⟨_,H,I',h⟩) hf)
def W9:TGs:=λvs σ H Q=>vs=[]/\Q σ H
def U0(t:TG)(u:TGs):TGs:=λvs σ H Q=>∃v r,vs=v::r/\t v σ H λσ' H'=>u r σ' H' Q
def OH:PGs X [] W9:=by
 intro FR s σ H vs us Q I r h;let⟨e,h⟩:=h;subst e;cases r
 exact assignInOrder_nil ⟨σ,H,I,h⟩
def L3{e:A_}{es:C_ A_}{t:TG}{u:TGs}(h1:PG X e t)(h2:PGs X es u)
  (hs:(y1G (e::es) X.env).map (·.2)=assign e X.env::(y1G es X.env).map (·.2):=by rfl):PGs X (e::es) (U0 t u):=by
 intro FR s σ H vs us Q I r h;let⟨v,vr,e1,h⟩:=h;subst e1;cases r with
 |cons r rr=>rw[hs];refine assignInOrder_cons (thn (h1 FR s σ H _ _ _ I r h) λ_ s1 ⟨σ1,H1,I1,q1⟩=>?_);exact h2 FR s1 σ1 H1 _ _ Q I1 rr q1
def U1(K:Zf)(n:Nat)(t:TGs):TG:=λv σ H Q=>∃a xs,v=.ref a/\SqT K H a xs/\xs.length=n/\t xs σ H Q
def Rp{es:C_ A_}{k:Nat}{t:TGs}{n:Nat}(hc:X.calm=true)(h:PGs X es t)
  (hn:(y1G es X.env).length=n:=by rfl) (bc:(y1G es X.env).findIdx? (·.1)=b_:=by rfl):PG X (.Tuple es k pos) (U1 X.K n t):=by
 intro FR s σ H v u Q I r hw;let⟨a,xs,e1,hq,hl,hw⟩:=hw;subst e1;cases r
 let⟨its,rv,ht,hz⟩:=I.tuple hq;refine assign_Tuple_tuple (I.ok.hd hc) ht (by simp[hn,<-hl,rv.length]) bc λh' hx=>?_;have I1:Inv X FR σ H {s with heap:=h'}:=I.kept (t':=s.toks) λb o e=>hx b o (Zt (Zl e)) e;exact h FR _ σ H xs _ Q I1 (l_ rv) hw
def Rq(te:TE)(g:TG):TS:=λD σ H=>te σ H λx H1=>g x σ H1 D.nx
def Rr{tg e:A_}{te:TE}{g:TG}(he:PE X e te)(hg:PG X tg g)(hs:swapsWithSole [tg] e pos.line X.env=pure false:=by rfl)(hw:swappedStores [tg] e X.env=pure b_:=by rfl)
  (h1:(y1G [tg] X.env).map (·.2)=[assign tg X.env]:=by rfl):PS X (.Assign [tg] e pos) (Rq te g):=by
 intro FR s σ H D I h;refine wpAny_Assign_stores (thn (he FR s σ H _ I h) λv s1 hz=>?_) hs hw;let⟨x,H1,I1,r1,q1⟩:=hz;rw[h1];exact thn (hg FR s1 σ H1 x v _ I1 r1 q1) λ_ s2 q=>q
def Rt{i:Nat}{x:Str}{e:A_}{te:TE}{pos':Pos}(hN:X.N.Nodup)(hi:X.N[i]?=a_ x)(hx:Loc X.env.scope x)(he:PE X e te)(hs:swapsWith e (a_ (.Name x pos')) pos.line X.env=pure false:=by rfl)(hf:X.fn x=true\/X.env.scope.names.lookup x=a_ .local:=by first|exact .inl rfl|exact .inr rfl|assumption):
  PS X (.Assign [.Name x pos'] e pos) (Rq te (L1 i)):=by
 intro FR s σ H D I h;refine wpAny_Assign_Name (thn (he FR s σ H _ I h) λv s1 hz=>?_) hs;let⟨y,H1,I1,r1,q1⟩:=hz;exact Fp I1 hN hi hx r1 (λs2 I2=>⟨_,H1,I2,q1⟩) hf
end
structure It where
 go:Nat->Hp->Prop
 yld:Nat->Hp->V->Hp->Prop
 stop:Nat->Hp->Prop
def Fq(X:Cx)(FR:g_ 0)(H:Hp)(b:u_):Prop:=H b=b_/\b≠X.env.locals/\b∉X.fs/\(b∈X.ex\/X.s₀.heap.objs.size<=b)/\(∀x c,X.env.cells.lookup x=a_ c->c≠b)/\∀p∈X.pn++FR,p.1≠b
theorem Inv.fpOk{X:Cx}{FR:g_ 0}{σ:St}{H H':Hp}{s:t_}{b:u_}(I:Inv X FR σ H s)(hb:(e_ s)<=b)(hn:H' b=b_):Fq X FR H' b:=by
 refine⟨hn,y0a (Zz I.lt hb),I.nofs hb,.inr (y0e I.sz hb),λx c e z=>?_,λp hp z=>?_⟩
 ·let⟨v,q⟩:=I.cell x c e;exact absurd (Zz q.lt (by rw[z];exact hb)) (y0A _)
 ·exact absurd (Zz (Zl (I.pin p hp).1) (by rw[z];exact hb)) (y0A _)
structure Turn(P:z_)(w:y_)(K:Zf)(tg:A_)(J:It)(fp:C_ u_)(it:u_)(tn:Nat->x_->Prop):Prop where
 mem:it∈fp
 obj:∀i h,tn i h->∀b∈fp,∃o,h.get? b=some o/\∀v,o.data≠.cell v
 keep:∀i h h',tn i h->(∀b∈fp,∀o,h.get? b=some o->h'.get? b=some o)->tn i h'
 item:∀(X:Cx),X.prog=P->X.w=w->X.K=K->X.calm=true->∀(i:Nat)(FR:g_ 0)(s:t_)(σ:St)(H:Hp)(E:f_ 0),Inv X FR σ H s->(∀b∈fp,Fq X FR H b)->tn i s.heap->J.go i H->
  wpAny (model P w) X.A (pyNext (.ref it)) (λr s1=>∃u,r=some u/\
   wpAny (model P w) X.A (letOwnedTupleGo tg (.ref it) u) (λ_ s2=>∃x H',Inv X FR σ H' s2/\RelV x u/\J.yld i H x H'/\tn (i+1) s2.heap/\∀b∈fp,H' b=none) E s1) E s
 done:∀(X:Cx),X.prog=P->X.w=w->X.K=K->X.calm=true->∀(i:Nat)(FR:g_ 0)(s:t_)(σ:St)(H:Hp)(E:f_ 0),Inv X FR σ H s->(∀b∈fp,Fq X FR H b)->tn i s.heap->J.stop i H->
  wpAny (model P w) X.A (pyNext (.ref it)) (λr s1=>r=none/\Inv X FR σ H s1) E s
 self:∀(A:w_)(i:Nat)(s:t_)(Q:f_ 0)(E:f_ 0),tn i s.heap->Q (.ref it) s->wpAny (model P w) A (pyIter (.ref it)) Q E s
abbrev TI:=St->Hp->(It->Hp->Prop)->Prop
def PIE(X:Cx)(FR:g_ 0)(σ:St)(tg:A_)(R:It->Hp->Prop)(u1:s_)(s2:t_):Prop:=
 ∃(it:u_)(fp:C_ u_)(tn:Nat->x_->Prop)(J:It)(H':Hp),u1=.ref it/\Inv X FR σ H' s2/\Turn X.prog X.w X.K tg J fp it tn/\tn 0 s2.heap/\(∀b∈fp,Fq X FR H' b)/\R J H'
def PI(X:Cx)(tg iter:A_)(wi:TI):Prop:=
 ∀(FR:g_ 0)(s:t_)(σ:St)(H:Hp)(R:It->Hp->Prop),Inv X FR σ H s->wi σ H R->
  wpAny (h_ X) X.A (eval iter X.env) (λv s1=>wpAny (h_ X) X.A (pyIter v) (PIE X FR σ tg R) X.xe s1) X.xe s
def L4{E:f_ 0}{s:t_}{o:Obj}{Q:j_ Unit}(ho:s.heap.get? it=a_ o)(hc:o.cls=.type n)(hd:o.data=.fields vs)(hn:["enumerate","zip","dict_itemiterator","dict_reverseitemiterator","odict_iterator","itertools.zip_longest","itertools.pairwise"].contains n=false)(hQ:Q () s):wpAny M A (letOwnedTupleGo tg (.ref it) u) Q E s:=by
 unfold letOwnedTupleGo;cases tg <;> first
  |exact Zd hQ
  | (cases u <;> first
    |exact Zd hQ
    | (refine Zb (wpAny_load ho ?_)
       rw[hc,hd]
       show wpAny M A (if(["enumerate","zip","dict_itemiterator","dict_reverseitemiterator","odict_iterator","itertools.zip_longest","itertools.pairwise"].contains n&&vs[0]? == a_ (rawInt _))=true then _ else _) Q E s
       rw[if_neg (by intro h;rw[hn,Bool.false_and]at h;cases h)];exact Zd hQ))
def Itl(K:Zf)(a:u_):It:=⟨λi H=>∃xs x,SqL K H a xs/\xs[i]?=a_ x,λi H x H'=>H'=H/\∀xs,SqL K H a xs->xs[i]?=a_ x,λi H=>∃xs,SqL K H a xs/\xs.length<=i⟩
def Itt(K:Zf)(a:u_):It:=⟨λi H=>∃xs x,SqT K H a xs/\xs[i]?=a_ x,λi H x H'=>H'=H/\∀xs,SqT K H a xs->xs[i]?=a_ x,λi H=>∃xs,SqT K H a xs/\xs.length<=i⟩
def Itr(lo:Int)(n:Nat):It:=⟨λi _=>i<n,λi H x H'=>H'=H/\x=.int (lo+i),λi _=>n<=i⟩
def D8{P:z_}{w:y_}{K:Zf}{tg:A_}(a it:u_):Turn P w K tg (Itl K a) [it] it (λi h=>h.IsListIter it a i) where
 mem:=by simp
 obj:=λi h st b hb=>by
  have e:b=it:=by simpa using hb
  subst e;let⟨o,e,c,d⟩:=st;exact⟨o,e,λv z=>by rw[d]at z;cases z⟩
 keep:=λi h h' st k=>st.at λo e=>k it (by simp) o e
 item:=by
  intro X hP hw hK hc i FR s σ H E I hf st hg;subst hP hw hK;let⟨xs,x,hq,hx⟩:=hg;let⟨its,rv,p,hz⟩:=I.list hq;let⟨u,hu,ru⟩:=rv.get hx;let⟨f0,f1,f2,f3,f4,f5⟩:=hf it (by simp);refine wpAny_pyNext_list_item st p.isList (x:=u) (l_ hu) λh' b8 sb=>?_;have I1:Inv X FR σ H {s with heap:=h'}:=I.turned (t':=s.toks) (λb o hb e=>(sb.2 b hb).trans e) f0 f1 f3 f4 f5;let⟨o,e,c,d⟩:=id b8;exact⟨u,rfl,L4 (s:={s with heap:=h'}) e c d nofun ⟨x,H,I1,ru,⟨rfl,λys hy=>by rw[I.list_inj hy hq];exact hx⟩,b8,λb hb=>(hf b hb).1⟩⟩
 done:=by intro X hP hw hK hc i FR s σ H E I hf st hg;subst hP hw hK;let⟨xs,hq,hx⟩:=hg;let⟨its,rv,p,hz⟩:=I.list hq;let⟨f0,f1,f2,f3,f4,f5⟩:=hf it (by simp);have hl:=rv.length;exact wpAny_pyNext_list_end (I.ok.hd hc) st p.isList (by simp;omega) λh' eb=>⟨rfl,I.turned (t':=s.toks) (λb o hb e=>eb b o hb e) f0 f1 f3 f4 f5⟩
 self:=λ_ _ _ _ _ st h=>wpAny_pyIter_listiter st h
def GY{P:z_}{w:y_}{K:Zf}{tg:A_}(a it:u_):Turn P w K tg (Itt K a) [it] it (λi h=>h.IsTupleIter it a i) where
 mem:=by simp
 obj:=λi h st b hb=>by
  have e:b=it:=by simpa using hb
  subst e;let⟨o,e,c,d⟩:=st;exact⟨o,e,λv z=>by rw[d]at z;cases z⟩
 keep:=λi h h' st k=>st.at λo e=>k it (by simp) o e
 item:=by
  intro X hP hw hK hc i FR s σ H E I hf st hg;subst hP hw hK;let⟨xs,x,hq,hx⟩:=hg;let⟨its,rv,p,hz⟩:=I.tuple hq;let⟨u,hu,ru⟩:=rv.get hx;let⟨f0,f1,f2,f3,f4,f5⟩:=hf it (by simp);refine wpAny_pyNext_tuple_item st (show s.heap.IsTuple a its.toArray from p) (x:=u) (l_ hu) λh' b8 sb=>?_
  have I1:Inv X FR σ H {s with heap:=h'}:=I.turned (t':=s.toks) (λb o hb e=>(sb.2 b hb).trans e) f0 f1 f3 f4 f5;let⟨o,e,c,d⟩:=id b8;exact⟨u,rfl,L4 (s:={s with heap:=h'}) e c d nofun ⟨x,H,I1,ru,⟨rfl,λys hy=>by rw[I.tuple_inj hy hq];exact hx⟩,b8,λb hb=>(hf b hb).1⟩⟩
 done:=by intro X hP hw hK hc i FR s σ H E I hf st hg;subst hP hw hK;let⟨xs,hq,hx⟩:=hg;let⟨its,rv,p,hz⟩:=I.tuple hq;let⟨f0,f1,f2,f3,f4,f5⟩:=hf it (by simp);have hl:=rv.length;exact wpAny_pyNext_tuple_end (I.ok.hd hc) st (show s.heap.IsTuple a its.toArray from p) (by simp;omega) λh' eb=>⟨rfl,I.turned (t':=s.toks) (λb o hb e=>eb b o hb e) f0 f1 f3 f4 f5⟩
 self:=λ_ _ _ _ _ st h=>wpAny_pyIter_tupleiter st h
def GZ{P:z_}{w:y_}{K:Zf}{tg:A_}(it:u_)(lo:Int)(n:Nat):Turn P w K tg (Itr lo n) [it] it (λi h=>IsRangeIter h it (lo+(i:Nat)*1) ((n:Int)-(i:Nat)) 1) where
 mem:=by simp
 obj:=λi h st b hb=>by
  have e:b=it:=by simpa using hb
  subst e;exact⟨_,st,λv z=>by have z':Data.fields _=Data.cell v:=z;cases z'⟩
 keep:=λi h h' st k=>k it (by simp) _ st
 item:=by
  intro X hP hw hK hc i FR s σ H E I hf st hg;subst hP hw hK;let⟨f0,f1,f2,f3,f4,f5⟩:=hf it (by simp);have W:=Walks.range (prog:=X.prog) (w:=X.w) (I.ok.hd hc) it lo 1 n;refine W.item i s _ _ hg st λv h' tk hv b8 kk=>?_;let⟨t,rfl⟩:=hv;have I1:Inv X FR σ H {s with heap:=h',toks:=tk}:=I.turned (λb o hb e=>kk b o (l_ hb) e) f0 f1 f3 f4 f5;refine⟨_,rfl,L4 (s:={s with heap:=h',toks:=tk}) (n:="range_iterator") b8 rfl rfl nofun ⟨.int (lo+i),H,I1,⟨t,?_⟩,⟨rfl,rfl⟩,b8,λb hb=>(hf b hb).1⟩⟩;rw[Int.mul_one]
 done:=by intro X hP hw hK hc i FR s σ H E I hf st hg;subst hP hw hK;let⟨f0,f1,f2,f3,f4,f5⟩:=hf it (by simp);exact wpAny_pyNext_range_end (I.ok.hd hc) st (by have:n<=i:=hg;omega) λh' eb=>⟨rfl,I.turned (t':=s.toks) (λb o hb e=>eb b o hb e) f0 f1 f3 f4 f5⟩
 self:=λ_ _ _ _ _ st h=>wpAny_pyIter_rangeiter st h
section
variable{X:Cx}{tg:A_}
def Fs{FR:g_ 0}{σ:St}{H:Hp}{s:t_}{R:It->Hp->Prop}{E:f_ 0}{lo hi:Int}{t u v:Tok}{tk:Nat}(I:Inv X FR σ H s)(h1:-(2 ^ 62)<=lo)(h2:lo<2 ^ 62)(h3:-(2 ^ 62)<=hi)(h4:hi<2 ^ 62)
  (q:R (Itr lo (hi-lo).toNat) H):wpAny (h_ X) X.A (pyIter (.ref (e_ s))) (PIE X FR σ tg R) E {s with heap:=s.heap.push {cls:=.type "range",data:=.fields #[.int lo t,.int hi u,.int 1 v]},toks:=tk}:=by
 refine wpAny_pyIter_range (IsRange.new ..) (small_one h1 h2 h3 h4) ?_;have I1:Inv X FR σ H {s with heap:=s.heap.push {cls:=.type "range",data:=.fields #[.int lo t,.int hi u,.int 1 v]},toks:=tk}:=I.kept λb o e=>Ze _ e;refine⟨(s.heap.push {cls:=.type "range",data:=.fields #[.int lo t,.int hi u,.int 1 v]}).objs.size,[(s.heap.push {cls:=.type "range",data:=.fields #[.int lo t,.int hi u,.int 1 v]}).objs.size],_,_,H,rfl,
  I1.kept (t':=tk) λb o e=>Ze _ e,GZ _ lo (hi-lo).toNat,?_,λb hb=>?_,q⟩
 ·have e1:lo+((0:Nat):Int)*1=lo:=by simp
  have e2:(((hi-lo).toNat:Nat):Int)-((0:Nat):Int)=Builtin.Range.rangeSize lo hi 1:=by rw[rangeSize_one];split <;> omega
  show IsRangeIter _ _ (lo+((0:Nat):Int)*1) ((((hi-lo).toNat:Nat):Int)-((0:Nat):Int)) 1
  rw[e1,e2];exact Zj _ rfl
 ·have e:b=(s.heap.push {cls:=.type "range",data:=.fields #[.int lo t,.int hi u,.int 1 v]}).objs.size:=by simpa using hb
  subst e;exact I1.fpOk (Zi _) (I1.hok.fresh (Zi _))
def W'(wi:TI)(g:TG)(tb:TS):TS:=λD σ H=>wi σ H λJ H1=>∃W:Nat->Nat->St->Hp->Prop,(∃m,W 0 m σ H1)/\∀i m σ H,W i m σ H->
 (J.stop i H/\D.nx σ H)\/(J.go i H/\∃N:St->Hp->Prop,(∀σ' H',N σ' H'->∃m',m'<m/\W (i+1) m' σ' H')/\∀x H',J.yld i H x H'->g x σ H' λσ2 H2=>tb { D with nx:=N,ct:=N,bk:=D.nx} σ2 H2)
def AN(fp:C_ u_)(h:x_):g_ 0:=fp.filterMap λb=>(h.get? b).map λo=>(b,o)
def oT{h:x_}(hb:b∈fp)(e:h.get? b=a_ o):(b,o)∈AN fp h:=List.mem_filterMap.mpr ⟨b,hb,by rw[e];rfl⟩
def JB{h:x_}(hp:p∈AN fp h):p.1∈fp/\h.get? p.1=a_ p.2:=by
 let⟨b,hb,e⟩:=List.mem_filterMap.mp hp;cases q:h.get? b with
 |none=>rw[q]at e;cases e
 |some o=>rw[q]at e;have e':(b,o)=p:=ZI e;subst e';exact⟨hb,q⟩
theorem Inv.pinned{FR:g_ 0}{σ:St}{H:Hp}{s:t_}{fp:C_ u_}(I:Inv X FR σ H s)(hf:∀b∈fp,Fq X FR H b)(ho:∀b∈fp,∃o,s.heap.get? b=a_ o/\∀v,o.data≠.cell v):Inv X (FR++AN fp s.heap) σ H s:=I.pins_of λp hp=>(ZQ.mp hp).elim (λz=>I.pin p (Zo _ z)) λz=>by let⟨hb,e⟩:=JB z;let⟨f0,f1,f2,_⟩:=hf p.1 hb;let⟨o,e',d⟩:=ho p.1 hb;rw[e]at e';cases e';exact⟨e,f0,f1,f2,d⟩
theorem Inv.unpinned{FR pl:g_ 0}{σ:St}{H:Hp}{s:t_}(I:Inv X (FR++pl) σ H s):Inv X FR σ H s:=I.pins_of λp hp=>I.pin p (Zo _ (Z5 _ hp))
def Ru(hp:PassesOwn (h_ X) X.A X.env X.xe)(hc:X.calm=true)(hi:PI X tg iter wi)(hg:PG X tg g)(hb:PSs X body tb)(hs:∀x,y1w iter X.env x=pure x:=by intro _;rfl):PS X (.For tg iter body [] pos) (W' wi g tb):=by
 intro FR s σ H D I h;refine wpAny_For (thn (hi FR s σ H _ I h) λv s1 h1=>thn h1 λu1 s2 h2=>?_) hs;let⟨it,fp,tn,J,H2,e,I2,T,ku,f2,W,⟨m0,w0⟩,turn⟩:=h2;subst e
 -- what stays true of the iterator's objects through the loop
 have jg:∀{H':Hp},(∀b∈fp,H' b=b_)->∀b∈fp,Fq X FR H' b:=λhn b hb=>⟨hn b hb,(f2 b hb).2⟩;refine codeAny_forLoop_any (λn s'=>∃i σ' H',Inv X FR σ' H' s'/\tn i s'.heap/\(∀b∈fp,H' b=b_)/\W i n σ' H') ?_ m0 ⟨0,σ,H2,I2,ku,λb hb=>(f2 b hb).1,w0⟩;rintro n s3 ⟨i,σ3,H3,I3,mx,ja,w3⟩;rcases turn i n σ3 H3 w3 with⟨stop,qn⟩|⟨go,N,hN,step⟩
 ·refine wpAny_passesOwn hp (thn (T.done X rfl rfl rfl hc i FR s3 σ3 H3 X.xe I3 (jg ja) mx stop) λr s4 ⟨hr,I4⟩=>?_);subst hr;exact wpAny_execs_nil ⟨σ3,H3,I4,qn⟩
 ·refine wpAny_passesOwn hp (thn (T.item X rfl rfl rfl hc i FR s3 σ3 H3 X.xe I3 (jg ja) mx go) λr s4 ⟨u,hr,h4⟩=>?_);subst hr;refine wpAny_passesOwn hp (thn h4 λ_ s5 hz=>?_);let⟨x,H5,I5,r5,y5,lj,sk⟩:=hz;have YB:=I5.pinned (jg sk) (T.obj _ _ lj);refine wpAny_passesOwn hp (thn (hg _ s5 σ3 H5 x u _ YB r5 (step x H5 y5)) λ_ s6 ⟨σ6,H6,I6,q6⟩=>?_);refine wpAny_passesOwn hp (thn (hb _ s6 σ6 H6 _ I6 q6) λf s7 q7=>?_);have again:∀{σ7:St}{H7:Hp},Inv X (FR++AN fp s5.heap) σ7 H7 s7->N σ7 H7->∃m,m<n/\∃i σ' H',Inv X FR σ' H' s7/\tn i s7.heap/\(∀b∈fp,H' b=b_)/\W i m σ' H':=λ{σ7 H7} I7 n7=>by let⟨m',hm,w7⟩:=hN σ7 H7 n7;refine⟨m',hm,i+1,σ7,H7,I7.unpinned,T.keep _ _ _ lj λb hb o e=>(I7.pin (b,o) (Zo _ (Zo _ (oT hb e)))).1,λb hb=>?_,w7⟩;let⟨o,e,d⟩:=T.obj _ _ lj b hb;exact(I7.pin (b,o) (Zo _ (Zo _ (oT hb e)))).2.1
  cases f with
  |next=>let⟨σ7,H7,I7,n7⟩:=q7;exact again I7 n7
  |cont=>let⟨σ7,H7,I7,n7⟩:=q7;exact again I7 n7
  |brk=>let⟨σ7,H7,I7,q7⟩:=q7;exact⟨σ7,H7,I7.unpinned,q7⟩
  |ret v=>let⟨x7,σ7,H7,I7,r7,q7⟩:=q7;exact⟨x7,σ7,H7,I7.unpinned,r7,q7⟩
end
abbrev R2:=V->V->Hp->VK->Prop
def OpR(X:Cx)(f:s_->s_->Sem s_)(r:R2):Prop:=
 ∀(FR:g_ 0)(s:t_)(σ:St)(H:Hp)(x y:V)(v u:s_)(Q:VK),Inv X FR σ H s->RelV x v->RelV y u->r x y H Q->
  wpAny (h_ X) X.A (f v u) (EP X FR σ Q) X.xe s
def eD(X:Cx)(f:s_)(r:C_ V->Hp->VK->Prop):Prop:=
 ∀(FR:g_ 0)(s:t_)(σ:St)(H:Hp)(xs:C_ V)(us:C_ s_)(Q:VK),Inv X FR σ H s->bN xs us->r xs H Q->
  wpAny (h_ X) X.A (call f us) (EP X FR σ Q) X.xe s
def Wa(X:Cx)(r:V->Hp->(Bool->Hp->Prop)->Prop):Prop:=
 ∀(FR:g_ 0)(s:t_)(σ:St)(H:Hp)(x:V)(v:s_)(Q:Bool->Hp->Prop),Inv X FR σ H s->RelV x v->r x H Q->
  wpAny (h_ X) X.A (truthy v) (TP X FR σ Q) X.xe s
def tOp(r:R2)(ta tb:TE):TE:=λσ H Q=>ta σ H λx H1=>tb σ H1 λy H2=>r x y H2 Q
def rI(C:Int->Int->Prop)(g:Int->Int->V):R2:=λx y H Q=>∃i j,x=.int i/\y=.int j/\C i j/\Q (g i j) H
def rI0(g:Int->Int->V):R2:=λx y H Q=>∃i j,x=.int i/\y=.int j/\Q (g i j) H
section
variable{X:Cx}{a b c:A_}{ta tb tc:TE}{pos:Pos}
def Rv(ha:PE X a ta)(hb:PE X b tb){FR:g_ 0}{s:t_}{σ:St}{H:Hp}{R:V->V->Hp->Prop}(I:Inv X FR σ H s)
  (h:ta σ H λx H1=>tb σ H1 λy H2=>R x y H2) {Q:f_ 0} {f:s_->s_->Sem s_}
  (hf:∀v u s2 x y H2,Inv X FR σ H2 s2->RelV x v->RelV y u->R x y H2->wpAny (h_ X) X.A (f v u) Q X.xe s2):
  wpAny (h_ X) X.A (eval a X.env) (λv s₁=>wpAny (h_ X) X.A (eval b X.env) (λu s₂=>wpAny (h_ X) X.A (f v u) Q X.xe s₂) X.xe s₁) X.xe s:=by
 refine thn (ha FR s σ H _ I h) λv s1 hz=>?_;let⟨x,H1,I1,r1,q1⟩:=hz;refine thn (hb FR s1 σ H1 _ I1 q1) λu s2 hz=>?_;let⟨y,H2,I2,r2,q2⟩:=hz;exact hf v u s2 x y H2 I2 r1 r2 q2
def U2(ho:OpR X (y0Q op) r)(ha:PE X a ta)(hb:PE X b tb):PE X (.BinOp a op b pos) (tOp r ta tb):=by intro FR s σ H Q I h;exact wpAny_BinOp (Rv ha hb I h λv u s2 x y H2 I2 rx ry q=>ho FR s2 σ H2 x y v u Q I2 rx ry q)
def opI{f:s_->s_->Sem s_}{C:Int->Int->Prop}{g:Int->Int->Int}
  (rule:∀(i j:Int)(t u:Tok)(s:t_)(Q:f_ 0)(E:f_ 0),C i j->Q (.int (g i j) s.toks) { s with toks:=s.toks+1}->wpAny (h_ X) X.A (f (.int i t) (.int j u)) Q E s):
  OpR X f (rI C λi j=>.int (g i j)):=by
 intro FR s σ H x y v u Q I rx ry h;let⟨i,j,rfl,rfl,hc,q⟩:=h;let⟨t,rfl⟩:=rx;let⟨t',rfl⟩:=ry;exact rule i j t t' s _ _ hc ⟨.int (g i j),H,I.tok _,⟨_,rfl⟩,q⟩
def U3{f:s_->s_->Sem s_}{g:Int->Int->Int}
  (rule:∀(i j:Int)(t u:Tok)(s:t_)(Q:f_ 0)(E:f_ 0),Q (.int (g i j) s.toks) { s with toks:=s.toks+1}->wpAny (h_ X) X.A (f (.int i t) (.int j u)) Q E s):
  OpR X f (rI0 λi j=>.int (g i j)):=by
 intro FR s σ H x y v u Q I rx ry h;let⟨i,j,rfl,rfl,q⟩:=h;let⟨t,rfl⟩:=rx;let⟨t',rfl⟩:=ry;exact rule i j t t' s _ _ ⟨.int (g i j),H,I.tok _,⟨_,rfl⟩,q⟩
def Rw{f:s_->s_->Sem s_}{g:Int->Int->Bool}
  (rule:∀(i j:Int)(t u:Tok)(s:t_)(Q:f_ 0)(E:f_ 0),Q (.bool (g i j)) s->wpAny (h_ X) X.A (f (.int i t) (.int j u)) Q E s):
  OpR X f (rI0 λi j=>.bl (g i j)):=by
 intro FR s σ H x y v u Q I rx ry h;let⟨i,j,rfl,rfl,q⟩:=h;let⟨t,rfl⟩:=rx;let⟨t',rfl⟩:=ry;exact rule i j t t' s _ _ ⟨.bl (g i j),H,I,rfl,q⟩
def L5(i j:Int):Prop:=0<j/\j<1073741824
def JC(i j:Int):Prop:=0<=j/\j<=1000000/\i.natAbs<2 ^ 64
def Ft(i j:Int):Prop:=(-(2 ^ 64)<i/\i<2 ^ 64)\/(-(2 ^ 64)<j/\j<2 ^ 64)
theorem Ft.ok(h:Ft i j):IntMulOk i j:=by
 rcases h with⟨h1,h2⟩|⟨h1,h2⟩
 ·exact .of_left (intBits_le_64 h1 h2)
 ·exact .of_right (intBits_le_64 h1 h2)
def Rx:OpR X (y0Q .Add) (rI0 λi j=>.int (i+j)):=U3 λ_ _ _ _ _ _ _ q=>add_int q
def Ry:OpR X (y0Q .Sub) (rI0 λi j=>.int (i-j)):=U3 λ_ _ _ _ _ _ _ q=>sub_int q
def Rz:OpR X (y0Q .Mult) (rI Ft λi j=>.int (i*j)):=opI λ_ _ _ _ _ _ _ hc q=>mul_int q hc.ok
def OI:OpR X (y0Q .FloorDiv) (rI L5 λi j=>.int (i/j)):=opI λi j _ _ _ _ _ hc q=>by have h1:(0:Int)<j:=hc.1;have h2:j<1073741824:=hc.2;exact floordiv_int ⋯ (by rw[Int.fdiv_eq_ediv_of_nonneg i ⋯];exact q) (.inl (PyProof.noPylong_small ⋯))
def RA:OpR X (y0Q .Mod) (rI (λ_ j=>0<j) λi j=>.int (i%j)):=opI λi j _ _ _ _ _ hc q=>by have h1:(0:Int)<j:=hc;exact mod_int' ⋯ (by rw[Int.fmod_eq_emod_of_nonneg i ⋯];exact q)
def RB:OpR X (y0Q .Pow) (rI JC λi j=>.int (i ^ j.toNat)):=opI λ_ _ _ _ _ _ _ hc q=>pow_int_small hc.1 hc.2.1 hc.2.2 q
end
section
variable{X:Cx}{a b c:A_}{ta tb tc:TE}{pos:Pos}
def Ha{FR:g_ 0}{σ:St}{H:Hp}{s:t_}{Q:VK}{k k':Bool}(I:Inv X FR σ H s)(q:Q (.bl k) H)(e:k=k'):EP X FR σ Q (.bool k') s:=by subst e;exact⟨.bl k,H,I,rfl,q⟩
def U4:OpR X (ZZ .Lt) (rI0 λi j=>.bl (decide (i<j))):=Rw λ_ _ _ _ _ _ _ q=>lt_int q
def U5:OpR X (ZZ .LtE) (rI0 λi j=>.bl (decide (i<=j))):=Rw λ_ _ _ _ _ _ _ q=>le_int q
def U6:OpR X (ZZ .Gt) (rI0 λi j=>.bl (decide (j<i))):=Rw λ_ _ _ _ _ _ _ q=>gt_int q
def JD:OpR X (ZZ .Lt) (λx y H Q=>∃i j,x=.str i/\y=.str j/\Q (.bl (decide (i.cps.toList<j.cps.toList))) H):=by intro FR s σ H x y v u Q I rx ry h;let⟨i,j,rfl,rfl,q⟩:=h;let⟨t,rfl⟩:=rx;let⟨t',rfl⟩:=ry;exact lt_str (Ha I q rfl)
theorem OpR.or{f:s_->s_->Sem s_}(h:OpR X f r)(h':OpR X f r'):OpR X f (λx y H Q=>r x y H Q\/r' x y H Q):=by
 intro FR s σ H x y v u Q I rx ry q;rcases q with q|q
 ·exact h FR s σ H x y v u Q I rx ry q
 ·exact h' FR s σ H x y v u Q I rx ry q
def L6(b:A_)(h:op≠.In:=by decide)(h2:op≠.NotIn:=by decide):behindInMarks op b=false:=by
 have e1:(op == CmpOp.In)=false:=by cases op <;> first|rfl|exact absurd rfl h
 have e2:(op == CmpOp.NotIn)=false:=by cases op <;> first|rfl|exact absurd rfl h2
 cases b <;> simp[behindInMarks,e1,e2]
def OJ(ho:OpR X (ZZ op) r)(ha:PE X a ta)(hb:PE X b tb)(hm:behindInMarks op b=false):PE X (.Compare a [op] [b] pos) (tOp r ta tb):=by intro FR s σ H Q I h;exact wpAny_Compare1 (Rv ha hb I h λv u s2 x y H2 I2 rx ry q=>ho FR s2 σ H2 x y v u Q I2 rx ry q) hm
def L7(r r':R2)(ta tb tc:TE):TE:=λσ H Q=>ta σ H λx H1=>tb σ H1 λy H2=>r x y H2 λz H3=>∃k,z=.bl k/\
 (if k=true then tc σ H3 λw' H4=>r' y w' H4 Q else Q (.bl false) H3)
def L8(ho:OpR X (ZZ op) r)(bw:OpR X (ZZ i8) r')(ha:PE X a ta)(hb:PE X b tb)(hc:PE X c tc)(hm:lastMarks [op,i8] [b,c]=false:=by with_unfolding_all rfl):PE X (.Compare a [op,i8] [b,c] pos) (L7 r r' ta tb tc):=by
 intro FR s σ H Q I h;refine Compare_chain (thn (ha FR s σ H _ I h) λv s1 ⟨x,H1,I1,r1,q1⟩=>chain_link (thn (hb FR s1 σ H1 _ I1 q1) λu s2 ⟨y,H2,I2,r2,q2⟩=>thn (ho FR s2 σ H2 x y v u _ I2 r1 r2 q2) λd s3 ⟨z,H3,I3,r3,k,e,q3⟩=>?_)) hm;subst e;cases r3
 refine y1x ?_;cases k with
 |false=>exact ite_ff ⟨.bl false,H3,I3,rfl,q3⟩
 |true=>exact ite_tt (chain_last (thn (hc FR s3 σ H3 _ I3 q3) λw' s4 ⟨z',H4,I4,r4,q4⟩=>bw FR s4 σ H4 y z' u w' Q I4 r2 r4 q4))
def OK(K:Zf)(x:V)(H:Hp)(k:Bool):Prop:=
 match x with
 |.non=>k=false
 |.bl b=>k=b
 |.int i=>k=(i != 0)
 |.str y=>y.length<=Zq/\k=((y.length:Int) != 0)
 |.byt y=>y.size<=Zq/\k=((y.size:Int) != 0)
 |.ref p=>(∃xs,SqL K H p xs/\k=!xs.isEmpty)\/(∃xs,SqT K H p xs/\k=!xs.isEmpty)\/∃kvs,H p=a_ (.dK kvs)/\k=!kvs.isEmpty
 |_=>False
def Hb{κ:Type}{kvs:C_ (κ×V)}{vs:C_ (κ×s_)}(r:KV kvs vs):(!vs.isEmpty)=!kvs.isEmpty:=by cases r <;> rfl
def AO{xs:C_ V}{its:C_ s_}(r:bN xs its):(!its.toArray.isEmpty)=!xs.isEmpty:=by cases r <;> simp
def uH:(Zq:Nat)<2 ^ 63:=by rw[y0b];decide
def L9:Wa X (λx H Q=>∃k,OK X.K x H k/\Q k H):=by
 intro FR s σ H x v Q I rx h;let⟨k,e,q⟩:=h;have hl:=uH;have hs:Zq=16777216:=y0b;cases x with
 |non=>
  cases rx
  have e':k=false:=e;subst e';exact truthy_none ⟨H,I,q⟩
 |bl b=>
  cases rx
  have e':k=b:=e;subst e';exact y1x ⟨H,I,q⟩
 |int i=>let⟨t,rfl⟩:=rx;have e':k=(i != 0):=e;subst e';exact PySem.P.truthy_int ⟨H,I,q⟩
 |str y=>let⟨t,rfl⟩:=rx;obtain⟨hy,e'⟩:y.length<=Zq/\k=((y.length:Int) != 0):=e;subst e';exact PySem.P.truthy_str ⋯ ⟨H,I.tok _,q⟩
 |byt y=>let⟨t,rfl⟩:=rx;obtain⟨hy,e'⟩:y.size<=Zq/\k=((y.size:Int) != 0):=e;subst e';exact PySem.W.truthy_bytes ⋯ ⟨H,I.tok _,q⟩
 |ref p=>
  cases rx
  have e':(∃xs,SqL X.K H p xs/\k=!xs.isEmpty)\/(∃xs,SqT X.K H p xs/\k=!xs.isEmpty)\/∃kvs,H p=a_ (.dK kvs)/\k=!kvs.isEmpty:=e;rcases e' with⟨xs,hx,e'⟩|⟨xs,hx,e'⟩|⟨kvs,hx,e'⟩
  ·subst e';let⟨its,r,pl,hz⟩:=I.list hx;have hlen:=r.length;exact wpAny_truthy_list pl.isList (by simp only[Zp];omega) ⟨H,I.tok _,by rw[AO r];exact q⟩
  ·subst e';let⟨its,r,pl,hz⟩:=I.tuple hx;have hlen:=r.length;exact truthy_tuple pl (by simp only[Zp];omega) ⟨H,I.tok _,by rw[AO r];exact q⟩
  ·subst e';obtain⟨hz,hS,vs,r,m⟩:kvs.length<=Zq/\(p == y0p)=false/\∃vs,KV kvs vs/\s.heap.DictOf (fC X.prog X.w) p vs:=I.hok p _ hx;have hlen:kvs.length=vs.length:=Z0 r;exact wpAny_truthy_dict hS m ⋯ ⟨H,I.tok _,by rw[Hb r];exact q⟩
 |_=>exact(show False from e).elim
def L'(ha:PE X a ta)(he:∀whole,isTrue a X.env whole=(do let v <-whole;standAt a.pos;holding [v] (truthy v))):
  PT X a (λσ H Q=>ta σ H λx H'=>∃k,OK X.K x H' k/\Q k H'):=by
 intro FR s σ H Q I h
 exact isTrue_plain (thn (ha FR s σ H _ I h) λv s1 ⟨x,H1,I1,r1,q1⟩=>L9 FR s1 σ H1 x v Q I1 r1 q1) (he _)
def Hc:OpR X (y0Q .Add) (λx y H Q=>∃i j,x=.str i/\y=.str j/\i.length+j.length<=Zq/\Q (.str (i++j)) H):=by intro FR s σ H x y v u Q I rx ry h;let⟨i,j,rfl,rfl,hz,q⟩:=h;let⟨t,rfl⟩:=rx;let⟨t',rfl⟩:=ry;exact add_str (λt' tk=>⟨.str (i++j),H,I.tok _,⟨_,rfl⟩,q⟩) hz
def vals1(r:bN [x] us):∃u,us=[u]/\RelV x u:=by
 cases r with
 |cons r1 r2=>cases r2;exact⟨_,rfl,r1⟩
def vals2(r:bN [x,y] us):∃u w',us=[u,w']/\RelV x u/\RelV y w':=by
 cases r with
 |cons r1 r2=>
  cases r2 with
  |cons r3 r4=>cases r4;exact⟨_,_,rfl,r1,r3⟩
def JE(hc:X.calm=true):eD X (.builtin "min") (λxs H Q=>∃i j,xs=[.int i,.int j]/\Q (.int (if j<i then j else i)) H):=by
 intro FR s σ H xs us Q I r h;let⟨i,j,rfl,q⟩:=h;let⟨u,w',rfl,⟨t,rfl⟩,⟨t',rfl⟩⟩:=vals2 r;refine min_two_ints (I.ok.hd hc) λh' tk k=>⟨_,H,I.kept k,?_,q⟩;by_cases hj:j<i
 ·rw[if_pos hj,if_pos hj];exact⟨_,rfl⟩
 ·rw[if_neg hj,if_neg hj];exact⟨_,rfl⟩
def Wb(K:Zf)(x:V)(H:Hp)(n:Nat):Prop:=
 match x with
 |.str y=>y.length<=Zq/\n=y.length
 |.byt y=>y.size<=Zq/\n=y.size
 |.ref p=>(∃xs,SqL K H p xs/\n=xs.length)\/∃xs,SqT K H p xs/\n=xs.length
 |_=>False
def La:eD X (.builtin "len") (λxs H Q=>∃x n,xs=[x]/\Wb X.K x H n/\Q (.int n) H):=by
 intro FR s σ H xs us Q I r h;let⟨x,n,rfl,e,q⟩:=h;let⟨u,rfl,rx⟩:=vals1 r;have hl:=uH;have hs:Zq=16777216:=y0b;cases x with
 |str y=>let⟨t,rfl⟩:=rx;obtain⟨hy,e'⟩:y.length<=Zq/\n=y.length:=e;subst e';exact len_str ⋯ ⟨.int _,H,I.tok _,⟨_,rfl⟩,q⟩
 |byt y=>let⟨t,rfl⟩:=rx;obtain⟨hy,e'⟩:y.size<=Zq/\n=y.size:=e;subst e';exact PySem.W.len_bytes ⋯ ⟨.int _,H,I.tok _,⟨_,rfl⟩,q⟩
 |ref p=>
  cases rx
  have e':(∃xs,SqL X.K H p xs/\n=xs.length)\/∃xs,SqT X.K H p xs/\n=xs.length:=e;rcases e' with⟨xs,hx,e'⟩|⟨xs,hx,e'⟩
  ·subst e';let⟨its,r',pl,hz⟩:=I.list hx;have hlen:=r'.length;exact Calls.call_len_list pl.isList (by simp only[Zp];omega) ⟨.int xs.length,H,I.tok _,⟨_,by simp only[Zp];rw[hlen]⟩,q⟩
  ·subst e';let⟨its,r',pl,hz⟩:=I.tuple hx;have hlen:=r'.length;exact len_tuple pl (by simp only[Zp];omega) ⟨.int xs.length,H,I.tok _,⟨_,by simp only[Zp];rw[hlen]⟩,q⟩
 |_=>exact(show False from e).elim
end
structure Hd(h:x_)(x dx C:u_)(mA:o_ 0):Prop where
 obj:h.get? x=some (y1A C dx)
 ns:h.Ns1 dx mA
 ne:dx≠x
def JF{h:x_}{mA:o_ 0}(n:h.Ns1 dx mA):∃od,h.get? dx=a_ od/\∀name,PySem.W.lookIn name od=a_ (mA name):=by
 let⟨o,es,ep,ho,hd,hk,_,hm⟩:=n;refine⟨o,ho,λname=>?_⟩;have e:=hm name;unfold nsFind findBy at e;rw[<-Array.find?_toList]at e;unfold PySem.W.lookIn;rw[hd];dsimp only;split
 ·rename_i y q;rw[q]at e;exact congrArg a_ e
 ·rename_i q;rw[q]at e;have a:es.toList.any (·.refKey)=false:=by rw[List.any_eq_false];intro y hy;let⟨z,t,ah⟩:=hk y (Array.mem_toList_iff.mp hy);simp[DictEntry.refKey,ah]
  have a':¬ es.toList.any (·.refKey)=true:=by rw[a];exact Zv
  rw[if_neg a'];exact congrArg a_ e
theorem Hd.look{mA:o_ 0}(I:Hd h x dx C mA):∃od,PySem.W.InstAt h x (y1A C dx) C (a_ od)/\∀name,PySem.W.lookIn name od=a_ (mA name):=
 let ⟨od,ho,hl⟩:=JF I.ns
 ⟨od,⟨I.obj,rfl,rfl,ho⟩,hl⟩
section
variable{prog:z_}{w:y_}{A:w_}{E:f_ 0}{s:t_}{K:Zf}{x dx C f:u_}{mA:o_ 0}{name:Str}{v:s_}
def get_map{Q:f_ 0}(X:K.In s.heap)(I:Hd s.heap x dx C mA)(hg:y1H K C name=true)(hh:y11 K C=true)(ha:ZF K (.ref C) name=a_ b_)(hv:mA name=a_ v)(kz:PySem.W.handedIn v=true)(h:Q v { s with toks:=s.toks+1}):
  m_ prog w A (getAttr (.ref x) name expr) Q E s:=by
 let⟨od,J,hl⟩:=I.look;exact PySem.W.get_value X J (PySem.W.plainGet_of hg).1 (PySem.W.findObj_own hh ha rfl (by rw[hl,hv])) kz h
def Lb{Q:s_×C_ s_->t_->Prop}(X:K.In s.heap)(I:Hd s.heap x dx C mA)(hg:y1H K C name=true)(hf:ZF K (.ref C) name=a_ (c_ f))(ht:PySem.W.isFn K (.ref f)=true)(hv:mA name=b_)(h:Q (.ref f,[.ref x]) s):
  m_ prog w A (getMethod (.ref x) name pl) Q E s:=by
 let⟨od,J,hl⟩:=I.look;exact PySem.W.method_fn X J (PySem.W.plainGet_of hg).1 (PySem.W.plainGet_of hg).2 hf (beq_iff_eq.mp ht) (by show(PySem.W.lookIn name od).map (·.isSome)=a_ false;rw[hl,hv];rfl) h
def OL{ns:C_ Str}{Q:j_ Unit}(X:K.In s.heap)(I:Hd s.heap x dx C mA)
  (hs:ZF K (.ref C) "__setattr__" = a_ (a_ (.builtin "object.__setattr__"))) (hp:y2H K C=true) (ht:PySem.W.takerIn K C name=a_ b_) (hh:y11 K C=true)
  (hw:PySem.Within mA ns) (hsz:ns.length<=Zq)
  (h:∀h',Hd h' x dx C (λy=>if y=name then a_ v else mA y)->y0z dx s.heap h'->Q () {s with heap:=h',toks:=s.toks+2}):
  m_ prog w A (setAttr (.ref x) name v) Q E s:=by
 let⟨od,J,hl⟩:=I.look;refine PySem.W.set_plain X J hs (PySem.W.osa_open (s:={ s with toks:=s.toks+1}) (r:=b_) X J hp ht λb=>?_);let⟨cd,hc,bx⟩:=PySem.W.any_some hh;have hx:s.heap.get? x=a_ ⟨.ref C,a_ dx,.plain,#[]⟩:=I.obj;refine Zb (Zd (Zb (Zb (wpAny_loadPart hx (Zb (PySem.W.Looks.here (s:={ s with toks:=s.toks+1}) (PySem.W.looks_clsIn X hc) ?_))))));rw[bx];refine Zd (a:=a_ dx) (Zb (Zd (Zb ?_)));refine wpAny_nsSet1 (s:={ s with toks:=s.toks+1}) I.ns λh' r9 bz=>?_;let⟨oD,esD,epD,Yg,YO,hcD⟩:=r9.count (PySem.Within.cons name v hw);refine Zb (wpAny_lookBehind Yg (by rw[YO];exact pastItsLine_dict (y0e hcD (by rw[ZY];omega))) ?_);exact Zd (h _ ⟨(bz.2 _ (ZV I.ne)).trans I.obj,r9,I.ne⟩ bz)
def Lc{R:j_ Result}(X:K.In s.heap)(hm:y12 K C=true)(hi:ZF K (.ref C) "__init__" = a_ (c_ f))(hf:PySem.W.typeIn K (.ref f)=a_ (.type "function"))(h:codeAny (model prog w) (A.under (.builtin "type.__call__" ⟨.ref C::vs,kw⟩)) (.call (.ref f) ⟨.ref (s.heap.objs.size+1)::vs,kw⟩) (PySem.W.InitBack (s.heap.objs.size+1) R)
   {s with heap:=(s.heap.push y0Z).push (y1A C (e_ s))}):
  codeAny (model prog w) A (.call (.ref C) ⟨vs,kw⟩) R s:=by
 let⟨hh,g,d,t,os⟩:=s;exact PySem.W.make_core (PySem.W.makes_of X hm) (PySem.W.looks_findIn X hi) (λself=>PySem.W.bind_fn X self hf) (.inl rfl) h
end
def oB(f:Str)(v:V):C_ (Str×V)->C_ (Str×V)
 |[]=>[(f,v)]
 |(g,x)::r=>if g=f then(g,v)::r else(g,x)::oB f v r
theorem zW(f g:Str)(v:V):∀fs:C_ (Str×V),(oB f v fs).lookup g=if g=f then a_ v else fs.lookup g
 |[]=>by
  show y2r g [(f,v)]=_
  by_cases h:g=f
  ·have hb:(g == f)=true:=beq_iff_eq.mpr h;simp only[y2r,hb,if_pos h]
  ·have hb:(g == f)=false:=beq_eq_false_iff_ne.mpr h;simp only[y2r,hb,if_neg h]
 |(k,x)::r=>by
  have ih:=zW f g v r;rw[show oB f v ((k,x)::r)=(if k=f then(k,v)::r else(k,x)::oB f v r) from rfl]
  by_cases hk:k=f
  ·rw[if_pos hk];by_cases h:g=k
   ·have hb:(g == k)=true:=beq_iff_eq.mpr h;simp only[y2r,hb,if_pos (h.trans hk)]
   ·have hb:(g == k)=false:=beq_eq_false_iff_ne.mpr h;simp only[y2r,hb,if_neg (λe:g=f=>h (e.trans hk.symm))]
  ·rw[if_neg hk];by_cases h:g=k
   ·have hb:(g == k)=true:=beq_iff_eq.mpr h;simp only[y2r,hb,if_neg (λe:g=f=>hk (h.symm.trans e))]
   ·have hb:(g == k)=false:=beq_eq_false_iff_ne.mpr h;simp only[y2r,hb];exact ih
theorem yI(f:Str)(v:V):∀fs:C_ (Str×V),f∈(oB f v fs).map (·.1)/\∀g,g∈fs.map (·.1)->g∈(oB f v fs).map (·.1)
 |[]=>⟨by simp[oB],λg h=>by simp at h⟩
 |(k,x)::r=>by
  let⟨i1,i2⟩:=yI f v r;rw[show oB f v ((k,x)::r)=(if k=f then(k,v)::r else(k,x)::oB f v r) from rfl]
  by_cases hk:k=f
  ·rw[if_pos hk];subst hk;exact⟨by simp,λg h=>by simpa using h⟩
  ·rw[if_neg hk];refine⟨?_,λg h=>?_⟩
   ·rw[ZM];exact Zh _ i1
   ·rw[ZM]at h⊢;rcases Zs.mp h with e|e
    ·exact Zs.mpr (.inl e)
    ·exact Zh _ (i2 g e)
theorem zX(f:Str)(v:V):∀fs:C_ (Str×V),(oB f v fs).length<=fs.length+1
 |[]=>by simp[oB]
 |(k,x)::r=>by
  have ih:=zX f v r;rw[show oB f v ((k,x)::r)=(if k=f then(k,v)::r else(k,x)::oB f v r) from rfl]
  by_cases hk:k=f
  ·rw[if_pos hk,ZY,ZY];omega
  ·rw[if_neg hk,ZY,ZY];omega
theorem tX.some_of(r:tX (a_ v) o):∃u,o=a_ u/\RelV v u:=by
 cases o with
 |none=>exact(show False from r).elim
 |some u=>exact⟨u,rfl,r⟩
theorem tX.none_of(r:tX b_ o):o=b_:=by
 cases o with
 |none=>rfl
 |some u=>exact(show False from r).elim
def JG(r:RelV v u):PySem.W.handedIn u=true:=by
 cases v with
 |non=>cases(show u=ZE from r);rfl
 |bl b=>cases(show u=Value.bool b from r);rfl
 |int i=>let⟨t,e⟩:=(show ∃t,u=y10 i t from r);cases e;rfl
 |str x=>let⟨t,e⟩:=(show ∃t,u=y0Y x t from r);cases e;rfl
 |byt b=>let⟨t,e⟩:=(show ∃t,u=Value.bytes b t from r);cases e;rfl
 |flt b=>let⟨t,e⟩:=(show ∃t,u=Value.float b t from r);cases e;rfl
 |ref a=>cases(show u=ZC a from r);rfl
 |ty n=>cases(show u=y1v n from r);rfl
section
variable{P:z_}{w:y_}{H H':Hp}{h h':x_}{a C dx:u_}{fs wg:C_ (Str×V)}
def Ay(hok:HOk P w H h)(e:H a=a_ (.ins C dx fs)):∃mA,Hd h a dx C mA/\(∀f,tX (fs.lookup f) (mA f))/\PySem.Within mA (fs.map (·.1))/\fs.length<=1000/\H dx=a_ (.own a):=by
 let⟨d,z,ne,ob,mA,n,r,q⟩:=(show eB P w H h a (.ins C dx fs) from hok a _ e)
 exact⟨mA,⟨ob,n,ne⟩,r,q,z,d⟩
end
structure Cls(K:Zf)(C:u_):Prop where
 pg:y1H K C Str.empty=true
 hd:y11 K C=true
 po:y2H K C=true
 sa:ZF K (.ref C) "__setattr__" = some (some (.builtin "object.__setattr__"))
theorem Cls.get{K:Zf}{C:u_}(c:Cls K C)(f:Str):y1H K C f=true:=c.pg
def rH(K:Zf)(C:u_)(f:Str):Prop:=ZF K (.ref C) f=a_ b_
theorem rH.taker{K:Zf}{C:u_}{f:Str}(n:rH K C f):PySem.W.takerIn K C f=a_ b_:=by
 unfold PySem.W.takerIn;rw[show ZF K (.ref C) f=a_ b_ from n]
 rfl
structure Con(K:Zf)(C:u_)(f:Str)(v:V)(u:s_):Prop where
 at_:ZF K (.ref C) f=some (some u)
 rel:RelV v u
 get:PySem.W.specialIn K u "__get__" = some none
 cp:PySem.W.copiedNames.contains f=false
structure DY(K:Zf)(C:u_)(m:Str)(f:u_):Prop where
 at_:ZF K (.ref C) m=some (c_ f)
 fn:PySem.W.isFn K (.ref f)=true
 kp:y0G K (.ref f)=true
section
variable{X:Cx}{FR:g_ 0}{σ:St}{H:Hp}{s:t_}{a C dx:u_}{fs:C_ (Str×V)}{f:Str}{v:V}{A:w_}{E:f_ 0}
def He{Q:f_ 0}(I:Inv X FR σ H s)(e:H a=a_ (.ins C dx fs))(c:Cls X.K C)(n:rH X.K C f)(l:fs.lookup f=a_ v)(h:∀u s',Inv X FR σ H s'->RelV v u->Q u s'):wpAny (h_ X) A (getAttr (.ref a) f b) Q E s:=by let⟨mA,O,r,_,_,_⟩:=Ay I.hok e;let⟨u,hu,ru⟩:=tX.some_of (v:=v) (o:=mA f) (by rw[<-l];exact r f);exact get_map I.kIn O (c.get f) c.hd n hu (JG ru) (h u _ (I.tok _) ru)
def AQ{Q:s_×C_ s_->t_->Prop}(I:Inv X FR σ H s)(e:H a=a_ (.ins C dx fs))(c:Cls X.K C)(k:DY X.K C m g)(l:fs.lookup m=b_)(h:Q (.ref g,[.ref a]) s):wpAny (h_ X) A (getMethod (.ref a) m pl) Q E s:=by let⟨mA,O,r,_,_,_⟩:=Ay I.hok e;have hn:mA m=b_:=tX.none_of (by rw[<-l];exact r m);exact Lb I.kIn O (c.get m) k.at_ k.fn hn h
def Hf{Q:j_ Unit}(I:Inv X FR σ H s)(e:H a=a_ (.ins C dx fs))(c:Cls X.K C)(n:rH X.K C f)(hl:fs.length<1000)(ry:RelV y u)(h:∀s',Inv X FR σ (upd H a (.ins C dx (oB f y fs))) s'->Q () s'):wpAny (h_ X) A (setAttr (.ref a) f u) Q E s:=by
 let⟨mA,O,r,wi,_,ho⟩:=Ay I.hok e;have hz:(fs.map (·.1)).length<=Zq:=by rw[Zg,y0b];omega
 refine OL I.kIn O c.sa c.po n.taker c.hd wi hz λh' O' sb=>h _ ?_;have hd:∃o,h'.get? dx=a_ o:=let ⟨o,_,_,e',_⟩:=O'.ns;⟨o,e'⟩;refine I.write (x:=a) (e:=dx) (by rw[e];exact y00) (.inr ho) (λb q hb z=>(sb.2 b hb).trans z) hd ?_;refine⟨by rw[bE O.ne];exact ho,?_,O.ne,O'.obj,_,O'.ns,λg=>?_,λg hg=>?_⟩
 ·have:=zX f y fs;omega
 ·show tX ((oB f y fs).lookup g) (if g=f then a_ u else mA g)
  rw[zW];by_cases q:g=f
  ·rw[if_pos q,if_pos q];exact ry
  ·rw[if_neg q,if_neg q];exact r g
 ·by_cases q:g=f
  ·rw[q];exact(yI f y fs).1
  ·refine(yI f y fs).2 g (wi g λz=>hg ?_)
   show(if g=f then a_ u else mA g)=b_
   rw[if_neg q];exact z
theorem Inv.made(I:Inv X FR σ H s):Inv X FR σ (upd (upd H (e_ s) (.own (s.heap.objs.size+1))) (s.heap.objs.size+1) (.ins C (e_ s) []))
  {s with heap:=(s.heap.push y0Z).push (y1A C (e_ s))}:=by
 have e1:(s.heap.push y0Z).get? (e_ s)=a_ y0Z:=Zj s.heap rfl;have e2:((s.heap.push y0Z).push (y1A C (e_ s))).get? (s.heap.objs.size+1)=a_ (y1A C (e_ s)):=by
  have:=Zj (s.heap.push y0Z) (o:=y1A C (e_ s)) rfl
  rwa[y0m]at this
 have e3:(s.heap.push y0Z).Ns (e_ s) (λ_=>b_):=⟨y0Z,#[],_,e1,rfl,(λe he=>absurd he (by simp)),λ_=>rfl⟩;have I1:=I.laid (a:=(e_ s)) (o:=.own (s.heap.objs.size+1)) (h':=s.heap.push y0Z) (t':=s.toks) (λb u q=>Ze _ q) (Zi _) ⟨_,e1⟩;refine I1.laid (a:=(e_ s)+1) (o:=.ins C (e_ s) []) (t':=s.toks) (λb u q=>Ze _ q) (Nat.le_of_eq (y0m _ _)) ?_;have ne:(e_ s)≠(e_ s)+1:=Zt (y2g _);refine⟨by rw[bE ne,bX],ZO _,ne,e2,λ_=>b_,(Heap.Ns1.of_empty e3).at λo q=>Ze _ q,λ_=>y00,λy hy=>absurd rfl hy⟩
def OM{Q:f_ 0}(hb:y1c e f env (eval e env)=eval e env)(h:m_ prog w A (eval e env) (λo s₁=>m_ prog w A (getAttr o f true) Q E s₁) E s):m_ prog w A (eval (.Attribute e f pos) env) Q E s:=Attribute_any_ h (by rw[arm_eval_Attribute,hb])
end
def Wc(K:Zf)(ta:TE)(f:Str):TE:=λσ H Q=>ta σ H λx H1=>∃a C dx fs v,x=.ref a/\H1 a=a_ (.ins C dx fs)/\Cls K C/\rH K C f/\fs.lookup f=a_ v/\Q v H1
def Wd(K:Zf)(ta tv:TE)(f:Str):TS:=λD σ H=>tv σ H λy H1=>ta σ H1 λx H2=>∃a C dx fs,x=.ref a/\H2 a=a_ (.ins C dx fs)/\Cls K C/\rH K C f/\fs.length<1000/\
 D.nx σ (upd H2 a (.ins C dx (oB f y fs)))
section
variable{X:Cx}{o e value:A_}{f:Str}{pos pos' nh:Pos}{ta tv:TE}
def RC(he:PE X e ta)(hb:y1c e f X.env (eval e X.env)=eval e X.env):PE X (.Attribute e f pos) (Wc X.K ta f):=by intro FR s σ H Q I h;refine OM hb (thn (he FR s σ H _ I h) λu s1 hz=>?_);let⟨x,H1,I1,rx,a,C,dx,fs,v,ex,ea,c,n,l,q⟩:=hz;subst ex;obtain rfl:u=ZC a:=rx;exact He I1 ea c n l λu' s2 I2 ru=>⟨v,H1,I2,ru,q⟩
def RD(ha:PE X o ta)(hv:PE X value tv)(hs:swapsWith value (a_ (.Attribute o f pos')) pos.line X.env=pure false):PS X (.Assign [.Attribute o f pos'] value pos) (Wd X.K ta tv f):=by intro FR s σ H D I h;refine plainObj_wpAny_Assign_Attribute (thn (hv FR s σ H _ I h) λu s1 ⟨y,H1,I1,ry,q⟩=>thn (ha FR s1 σ H1 _ I1 q) λov s2 hz=>?_) hs;let⟨x,H2,I2,rx,a,C,dx,fs,ex,ea,c,n,l,q2⟩:=hz;subst ex;obtain rfl:ov=ZC a:=rx;exact Hf I2 ea c n l ry λs3 I3=>⟨σ,_,I3,q2⟩
end
section
variable{X:Cx}{FR:g_ 0}{σ:St}{H:Hp}{s:t_}{A:w_}{E:f_ 0}{Q:f_ 0}{c:s_}{b:Bool}
inductive yJ(K:Zf)(H:Hp):V->Value->Prop where
 |non:yJ K H .non (.type "NoneType")
 |bl (x:Bool):yJ K H (.bl x) (.type "bool")
 |int (i:Int):yJ K H (.int i) (.type "int")
 |str (x:Str):yJ K H (.str x) (.type "str")
 |flt (x:UInt64):yJ K H (.flt x) (.type "float")
 |lst {a:Addr} {xs:C_ V} (e:H a=some (.lst xs)):yJ K H (.ref a) (.type "list")
 |frz {a:Addr} {o:Obj} {xs:C_ V} (e:H a=some (.frz o (.lst xs))):yJ K H (.ref a) (.type "list")
 |tup {a:Addr} {xs:C_ V} (e:H a=some (.tup xs)):yJ K H (.ref a) (.type "tuple")
 |dK {a:Addr} {kvs:C_ (Key×V)} (e:H a=some (.dK kvs)):yJ K H (.ref a) (.type "dict")
 |dT {a:Addr} {kvs:C_ (C_ Key×V)} (e:H a=some (.dT kvs)):yJ K H (.ref a) (.type "dict")
 | ins {a C dx:Addr} {fs:C_ (Str×V)} (e:H a=some (.ins C dx fs)) (cl:Cls K C) (ha:ZF K (.ref C) "__class__" = some (some (.builtin "object.__class__")))
   (hn:PySem.W.specialIn K (.builtin "object.__class__") "__get__" = some (some (.builtin "getset_descriptor.__get__"))) (htk:PySem.W.takesIn K (.builtin "object.__class__")=some true)
   (hm:PySem.W.mroIn K C (.type "object")=some true):yJ K H (.ref a) (.ref C)
def D9(I:Inv X FR σ H s)(rx:RelV x u)(ty:yJ X.K H x t)(e:y2j X.K t c=a_ b)(h:∀tk,Q (.bool b) { s with toks:=tk}):
  wpAny (h_ X) A (call (.builtin "isinstance") [u,c]) Q E s:=by
 cases ty with
 |non=>cases(show u=ZE from rx);exact y0u PySem.W.kitx_none I.kIn y00 e (λz=>nomatch z) h
 |bl y=>cases(show u=Value.bool y from rx);exact y0u PySem.W.kitx_bool I.kIn y00 e (λz=>nomatch z) h
 |int i=>let⟨t,q⟩:=(show ∃t,u=y10 i t from rx);cases q;exact y0u PySem.W.kitx_int I.kIn y00 e (λz=>nomatch z) h
 |str y=>let⟨t,q⟩:=(show ∃t,u=y0Y y t from rx);cases q;exact y0u PySem.W.kitx_str I.kIn y00 e (λz=>nomatch z) h
 |flt y=>let⟨t,q⟩:=(show ∃t,u=Value.float y t from rx);cases q;exact y0u PySem.W.kitx_float I.kIn y00 e (λz=>nomatch z) h
 | @lst a xs ea=>
  cases(show u=ZC a from rx)
  let⟨_,_,n,_,h1⟩:=(show eB X.prog X.w H s.heap a (.lst xs) from I.hok a _ ea)
  exact y0u PySem.W.kitx_list I.kIn ⟨_,h1,rfl⟩ e (λz=>nomatch z) h
 | @frz a ob xs ea=>
  cases(show u=ZC a from rx)
  let⟨_,_,_,n,_,h1⟩:=(show eB X.prog X.w H s.heap a (.frz ob (.lst xs)) from I.hok a _ ea)
  exact y0u PySem.W.kitx_list I.kIn ⟨_,h1,rfl⟩ e (λz=>nomatch z) h
 | @tup a xs ea=>
  cases(show u=ZC a from rx)
  let⟨_,_,_,p⟩:=(show eB X.prog X.w H s.heap a (.tup xs) from I.hok a _ ea)
  let⟨o,h1,h2,_⟩:=p;exact y0u PySem.W.kitx_tuple I.kIn ⟨o,h1,h2⟩ e (λz=>nomatch z) h
 | @dK a kvs ea=>
  cases(show u=ZC a from rx)
  let⟨_,_,vs,_,p⟩:=(show eB X.prog X.w H s.heap a (.dK kvs) from I.hok a _ ea)
  let⟨o,es,ep,h1,h2,_⟩:=p;exact y0u PySem.W.kitx_dict I.kIn ⟨o,h1,h2.1⟩ e (λz=>nomatch z) h
 | @dT a kvs ea=>
  cases(show u=ZC a from rx)
  let⟨_,_,xs,_,o,es,ep,h1,h2,_⟩:=(show eB X.prog X.w H s.heap a (.dT kvs) from I.hok a _ ea)
  exact y0u PySem.W.kitx_dict I.kIn ⟨o,h1,h2.1⟩ e (λz=>nomatch z) h
 | @ins a C dx fs ea cl ha hn htk hm=>
  cases(show u=ZC a from rx)
  let⟨mA,O,_⟩:=Ay I.hok ea;let⟨od,J,_⟩:=O.look;exact y0u (PySem.W.kitx_own (cl.get _) cl.hd ha hn htk hm) I.kIn J e (λz=>nomatch z) h
end
structure iW(k:Nat)(A:w_):Prop where
 hd:A.handled=none
 dp:A.depth+3*k+5<recursionLimit
 un:A.units+16*k+200<cLine
theorem iW.mono(r:iW k A)(h:j<=k):iW j A:=⟨r.hd,by have:=r.dp;omega,by have:=r.un;omega⟩
theorem iW.deeper{A:w_}(r:iW (k+1) A)(env:Env):iW k (A.deeper env):=⟨r.hd,by have:=r.dp;show A.depth+1+3*k+5<_;omega,by have:=r.un;show A.units+3+16*k+200<_;omega⟩
theorem iW.in1{A:w_}(r:iW (k+1) A):iW k A.in1:=⟨r.hd,by have:=r.dp;show A.depth+3*k+5<_;omega,by have:=r.un;show A.units+1+16*k+200<_;omega⟩
def Hg{A:w_}:(A.under (.builtin "type.__call__" ⟨.ref C::us,kw⟩)).depth=A.depth+1:=by first|rfl|simp[Around.under,Code.weight,Code.isCreation,Code.isGuard,Code.isCaller,Code.frames,Code.isFrame,guardIds]
def Hh{A:w_}:(A.under (.builtin "type.__call__" ⟨.ref C::us,kw⟩)).units=A.units+1:=by first|rfl|simp[Around.under,Code.cUnits,Code.frames,Code.isFrame]
theorem iW.make{A:w_}(r:iW (k+1) A)(C:u_)(us:C_ s_)(kw:C_ (Str×s_)):iW k (A.under (.builtin "type.__call__" ⟨.ref C::us,kw⟩)):=⟨r.hd,by have:=r.dp;rw[Hg];omega,by have:=r.un;rw[Hh];omega⟩
theorem iW.depth{A:w_}(r:iW k A):A.depth<recursionLimit:=by have:=r.dp;omega
theorem iW.units{A:w_}(r:iW k A):A.units+64<cLine:=by have:=r.un;omega
def RF:TA:=λ_ H Q=>Q [] H
def QK(ta:TE)(tr:TA):TA:=λσ H Q=>ta σ H λx H1=>tr σ H1 λxs H2=>Q (x::xs) H2
section
variable{X:Cx}{e:A_}{es:C_ A_}{te:TE}{t:TA}{pos:Pos}
def AR:PA X [] RF:=λ_ _ _ _ H Q I h=>Calls.spliced_nil ⟨[],H,I,.nil,h⟩
def tD(ha:PE X e te)(hr:PA X es t)(hs:Zx (e::es) X.env=(false,eval e X.env)::Zx es X.env:=by rfl):PA X (e::es) (QK te t):=by
 intro pos FR s σ H Q I h;rw[hs]
 show wpAny _ _ (spliced ((false,eval e X.env)::backTo pos (Zx es X.env))) _ _ s
 refine Calls.spliced_cons (thn (ha FR s σ H _ I h) λu s1 hz=>?_);let⟨x,H1,I1,r1,q1⟩:=hz;exact thn (hr pos FR s1 σ H1 _ I1 q1) λus s2 ⟨xs,H2,I2,r2,q2⟩=>⟨x::xs,H2,I2,.cons r1 r2,q2⟩
def We(t:TA):TE:=λσ H Q=>t σ H λxs H1=>xs.length<=Zq/\∀p,H1 p=b_->Q (.ref p) (upd H1 p (.tup xs))
def Wf(t:TA):TE:=λσ H Q=>t σ H λxs H1=>xs.length<=Zq/\∀p,H1 p=b_->Q (.ref p) (upd H1 p (.lst xs))
def RG{x1}(h:PA X es t):PE X (.Tuple es x1 pos) (We t):=by intro FR s σ H Q I hq;refine wpAny_Tuple_spliced (thn (h pos FR s σ H _ I hq) λus s1 ⟨xs,H1,I1,r,z,q⟩=>⟨by rw[<-r.length];exact z,?_⟩);have hf:H1 (e_ s1)=b_:=I1.hok.fresh (Zi _);refine⟨.ref (e_ s1),upd H1 (e_ s1) (.tup xs),I1.laid (t':=s1.toks) (λb u e=>Ze _ e) (Zi _) ?_,rfl,q _ hf⟩;exact⟨z,us,r,⟨_,Zj _ rfl,rfl,⟨_,rfl⟩,rfl⟩⟩
def RI(h:PA X es t):PE X (.List es pos) (Wf t):=by intro FR s σ H Q I hq;refine wpAny_List_spliced (thn (h pos FR s σ H _ I hq) λus s1 ⟨xs,H1,I1,r,z,q⟩=>⟨by rw[<-r.length];exact z,?_⟩);have hf:H1 (e_ s1)=b_:=I1.hok.fresh (Zi _);refine⟨.ref (e_ s1),upd H1 (e_ s1) (.lst xs),I1.laid (t':=s1.toks) (λb u e=>Ze _ e) (Zi _) ?_,rfl,q _ hf⟩;exact⟨z,us,0,r,Zj _ rfl⟩
end
abbrev Sp:=C_ V->Hp->VK->XK->Prop
abbrev CXT:=C_ Env->Hp->t_->XK->f_ 0
structure Cu(P:z_)(w:y_)(K:Zf)(mg:o_ 0)(base:x_)(A:w_)(outer:C_ Env)(s:t_)(H:Hp):Prop where
 frames:A.frames=some outer
 mod:Mod K mg base
 bs:∀b o,base.get? b=some o->s.heap.get? b=some o/\H b=none
 bsz:base.objs.size<=(e_ s)
 funs:s.heap.FunFrames base outer
 frf:∀b∈frs outer,H b=none
 hok:HOk P w H s.heap
 bare:AllBare s.gens
def CE(outer:C_ Env)(P:z_)(w:y_)(H:Hp)(s:t_)(Q:VK)(u:s_)(s':t_):Prop:=
 ∃v H',s'.os=s.os/\AllBare s'.gens/\Un (frs outer) [] H H' s.heap s'.heap/\HOk P w H' s'.heap/\RelV v u/\Q v H'
def CR(CX:CXT)(outer:C_ Env)(P:z_)(w:y_)(H:Hp)(s:t_)(Q:VK)(E:XK)(r:Result)(s':t_):Prop:=
 match r with
 |.ok (.ret u)=>CE outer P w H s Q u s'
 |.ok _=>False
 |.error e=>CX outer H s E e s'
structure bR(P:z_)(w:y_)(K:Zf)(mg:o_ 0)(base:x_)(CX:CXT)(k:Nat)(f:u_)(fd:ZL)(ps:C_ Str)(sp:Sp):Prop where
 len:∀vs H Q E,sp vs H Q E->vs.length=ps.length
 run:∀(A:w_)(outer:C_ Env)(s:t_)(H:Hp)(args:Args)(us:C_ s_)(vs:C_ V)(Q:VK)(E:XK),iW k A->Cu P w K mg base A outer s H->BindsTo s fd args (ps.zip us)->bN vs us->sp vs H Q E->
  codeAny (model P w) A (.call (.ref f) args) (CR CX outer P w H s Q E) s
theorem bR.imp{P:z_}{w:y_}{K:Zf}{mg:o_ 0}{base:x_}{CX:CXT}{k:Nat}{f:u_}{fd:ZL}{ps:C_ Str}{sp y9:Sp}(F:bR P w K mg base CX k f fd ps sp)
  (h:∀vs H Q E,y9 vs H Q E->sp vs H Q E):bR P w K mg base CX k f fd ps y9:=
 ⟨λvs H Q E q=>F.len vs H Q E (h _ _ _ _ q),λA outer s H args us vs Q E hr he hb hv hs=>F.run A outer s H args us vs Q E hr he hb hv (h _ _ _ _ hs)⟩
theorem Cu.make{P:z_}{w:y_}{K:Zf}{mg:o_ 0}{base:x_}{A:w_}{outer:C_ Env}{s:t_}{H:Hp}(e:Cu P w K mg base A outer s H)(C:u_)(us:C_ s_)(kw:C_ (Str×s_)):
  Cu P w K mg base (A.under (.builtin "type.__call__" ⟨.ref C::us,kw⟩)) outer s H:=⟨by first|exact e.frames|(simpa[Around.under,Code.envs,Code.isFrame,pushEnvs] using e.frames),e.mod,e.bs,e.bsz,e.funs,e.frf,e.hok,e.bare⟩
theorem Cu.in1{P:z_}{w:y_}{K:Zf}{mg:o_ 0}{base:x_}{A:w_}{outer:C_ Env}{s:t_}{H:Hp}(e:Cu P w K mg base A outer s H):
  Cu P w K mg base A.in1 outer s H:=⟨e.frames,e.mod,e.bs,e.bsz,e.funs,e.frf,e.hok,e.bare⟩
section
variable{X:Cx}{FR:g_ 0}{σ:St}{H:Hp}{s s':t_}
theorem Inv.env0(I:Inv X FR σ H s):Cu X.prog X.w X.K X.mg X.base X.A X.stack s H:=⟨I.ok.frames,I.ok.mod,I.bs,y0e I.ok.bsz I.sz,I.stack,I.stkFree,I.hok,I.bare⟩
theorem Inv.after(I:Inv X FR σ H s)(h:CE X.stack X.prog X.w H s Q u s'):EP X FR σ Q u s':=by let⟨v,H',os,bare,un,hok,r,q⟩:=h;let⟨hh,g,d,t,p9⟩:=s';obtain rfl:p9=s.os:=os;exact⟨v,H',I.call (h':=hh) (g':=g) (d':=d) (t':=t) (ch:=[]) un hok bare (λb z=>absurd z (by simp)),r,q⟩
end
def QL(sp:Sp)(df:C_ V)(E:XK)(t:TA):TE:=λσ H Q=>t σ H λvs H1=>sp (vs++df) H1 Q E
def U7(C:u_)(sp:Sp)(df:C_ V)(E:XK)(t:TA):TE:=λσ H Q=>t σ H λvs H1=>∀x dx,H1 x=b_->H1 dx=b_->dx≠x->
 sp (.ref x::(vs++df)) (upd (upd H1 dx (.own x)) x (.ins C dx [])) (λv H2=>v=.non/\Q (.ref x) H2) E
def Binds(K:Zf)(fd:ZL)(ps:C_ Str)(ds:C_ s_):Prop:=
 ∀(s:t_)(us:C_ s_),K.In s.heap->(us++ds).length=ps.length->BindsTo s fd ⟨us,[]⟩ (ps.zip (us++ds))
theorem Binds.all{K:Zf}{fd:ZL}{ps:C_ Str}(h:∀us:C_ s_,us.length=ps.length->bindArgs fd ⟨us,[]⟩=pure (ps.zip us)):Binds K fd ps []:=λs us _ hl=>by rw[y1h]at hl⊢;exact .of_eq (h us hl)
def AS(CX:CXT)(X:Cx)(E:XK):Prop:=∀(FR:g_ 0)(σ:St)(H:Hp)(s:t_)(e:s_)(s':t_),Inv X FR σ H s->CX X.stack H s E e s'->X.xe e s'
section
variable{X:Cx}{CX:CXT}{k:Nat}{f C:u_}{fd:ZL}{ps:C_ Str}{sp:Sp}{df:C_ V}{ds:C_ s_}{E:XK}{x m:Str}{p pos apos:Pos}{e o:A_}{es:C_ A_}{ta:TE}{t:TA}
def Hi{FR:g_ 0}{σ:St}{H:Hp}{s:t_}{Q:VK}{us:C_ s_}{vs:C_ V}(F:bR X.prog X.w X.K X.mg X.base CX k f fd ps sp)(hr:iW k X.A)(hb:Binds X.K fd ps ds)(hd:bN df ds)(hx:AS CX X E)
  (I:Inv X FR σ H s) (r:bN vs us) (h:sp (vs++df) H Q E):wpAny (h_ X) X.A (call (.ref f) us) (EP X FR σ Q) X.xe s:=by
 have r2:bN (vs++df) (us++ds):=r.append hd;have hl:(us++ds).length=ps.length:=by rw[<-r2.length];exact F.len _ _ _ _ h
 refine wpAny_call (y2Z (F.run X.A X.stack s H ⟨us,[]⟩ (us++ds) (vs++df) Q E hr I.env0 (hb s us I.kIn hl) r2 h) λr s' hq=>?_);cases r with
 |error e=>exact hx FR σ H s e s' I hq
 |ok fl=>
  cases fl with
  |ret u=>exact I.after hq
  |next=>exact y1a hq
  |brk=>exact y1a hq
  |cont=>exact y1a hq
def ON(F:bR X.prog X.w X.K X.mg X.base CX k f fd ps sp)(hr:iW k X.A)(hg:Gl X x)(hm:X.mg x=c_ f)(hk:y0G X.K (.ref f)=true)(hb:Binds X.K fd ps ds)(hd:bN df ds)(hx:AS CX X E)
  (ha:PA X (e::es) t) (cm:(x == ("__debug__" : Str))=false:=by decide) (he:Zx (e::es) X.env=(false,eval e X.env)::Zx es X.env:=by rfl) (az:(backTo pos (Zx es X.env)).any (·.1)=false:=by rfl):
  PE X (.Call (.Name x p) (e::es) [] pos) (QL sp df E t):=by
 intro FR s σ H Q I h;refine y2m (Ax I hg hm ?_ cm);refine PySem.W.callWith_K (h₀:=X.base) I.ok.mod.kin hk (thn (ha pos FR s σ H _ I h) λus s1 ⟨vs,H1,I1,r,q⟩=>⟨I1.kIn,?_⟩) he az;exact Hi F hr hb hd hx I1 r q
structure Mk(K:Zf)(C f:u_):Prop where
 makes:y12 K C=true
 init:ZF K (.ref C) "__init__" = some (c_ f)
 fn:PySem.W.isFn K (.ref f)=true
 kp:y0G K (.ref C)=true
def Ld{FR:g_ 0}{σ:St}{H:Hp}{s:t_}{Q:VK}{us:C_ s_}{vs:C_ V}(M:Mk X.K C f)(F:bR X.prog X.w X.K X.mg X.base CX k f fd ps sp)(hr:iW (k+1) X.A)(hb:Binds X.K fd ps ds)(hd:bN df ds)
  (hx:AS CX X E) (I:Inv X FR σ H s) (r:bN vs us)
  (h:∀x dx,H x=b_->H dx=b_->dx≠x->sp (.ref x::(vs++df)) (upd (upd H dx (.own x)) x (.ins C dx [])) (λv H2=>v=.non/\Q (.ref x) H2) E):
  wpAny (h_ X) X.A (call (.ref C) us) (EP X FR σ Q) X.xe s:=by
 have hq:=h (s.heap.objs.size+1) (e_ s) (I.hok.fresh (Nat.le_succ _)) (I.hok.fresh (Zi _)) (Zt (y2g _));have I2:=Inv.made (C:=C) I;have r2:bN (V.ref (s.heap.objs.size+1)::(vs++df)) (ZC (s.heap.objs.size+1)::(us++ds)):=.cons rfl (r.append hd);have hl:(ZC (s.heap.objs.size+1)::us++ds).length=ps.length:=by have e:=r2.length;rw[F.len _ _ _ _ hq]at e;exact e.symm
 refine wpAny_call (Lc (f:=f) I.kIn M.makes M.init (beq_iff_eq.mp M.fn) (y2Z (F.run _ X.stack _ _ ⟨ZC (s.heap.objs.size+1)::us,[]⟩ (ZC (s.heap.objs.size+1)::(us++ds)) _ _ E (hr.make C us [])
  (I2.env0.make C us []) (hb _ (ZC (s.heap.objs.size+1)::us) I2.kIn hl) r2 hq) λr s' j9=>?_))
 cases r with
 |error e=>exact hx FR σ _ _ e s' I2 j9
 |ok fl=>
  cases fl with
  |ret u=>let⟨v,H',I3,rv,ev,q3⟩:=I2.after j9;subst ev;exact⟨rv,⟨V.ref (s.heap.objs.size+1),H',I3,rfl,q3⟩⟩
  |next=>exact y1a j9
  |brk=>exact y1a j9
  |cont=>exact y1a j9
def Le(M:Mk X.K C f)(F:bR X.prog X.w X.K X.mg X.base CX k f fd ps sp)(hr:iW (k+1) X.A)(hg:Gl X x)(hm:X.mg x=c_ C)(hb:Binds X.K fd ps ds)(hd:bN df ds)(hx:AS CX X E)
  (cm:(x == ("__debug__" : Str))=false:=by decide):PE X (.Call (.Name x p) [] [] pos) (U7 C sp df E RF):=by
 intro FR s σ H Q I h;refine y2m (Ax I hg hm ?_ cm);exact PySem.W.callWith_K0 I.kIn M.kp (Ld (us:=[]) M F hr hb hd hx I .nil h)
end
section
variable{X:Cx}{CX:CXT}{k:Nat}{f C:u_}{fd:ZL}{ps ks:C_ Str}{sp:Sp}{E:XK}{x m:Str}{p pos apos dz:Pos}{e o:A_}{es:C_ A_}{kws:C_ Keyword}{te ta:TE}{t tk:TA}{nm:D_ Str}
structure Wg(K:Zf)(fd:ZL)(ps ks:C_ Str)(g:C_ s_->C_ s_->C_ s_)(gV:C_ V->C_ V->C_ V):Prop where
 to:∀(s:t_)(us ws:C_ s_),K.In s.heap->(g us ws).length=ps.length->BindsTo s fd ⟨us,ks.zip ws⟩ (ps.zip (g us ws))
 rel:∀{vs:C_ V}{us:C_ s_}{zs:C_ V}{ws:C_ s_},bN vs us->bN zs ws->bN (gV vs zs) (g us ws)
variable{g:C_ s_->C_ s_->C_ s_}{gV:C_ V->C_ V->C_ V}
end
structure bF(N P:C_ Str)(sc:Scope):Prop where
 kind:sc.kind=.function
 co:sc.isCoroutine=false
 gen:sc.isGenerator=false
 nd:N.Nodup
 pre:N.take P.length=P
 par:∀x∈P,sc.names.lookup x=some .local\/sc.names.lookup x=some .cell
 nofree:∀y∈sc.names,y.2≠.free
theorem Da{kindOf:Str->D_ y2n}:∀{binds:C_ (Str×s_)}{m:o_ 0},(∀v,(x,v)∉binds)->bindL kindOf binds m x=m x
 |[],_,_=>rfl
 |(n,v)::r,m,h=>by
  unfold bindL;rw[Da λw hw=>h w (Zh _ hw)];split
  ·have:x≠n:=by rintro rfl;exact h v Zn
   simp[this]
  ·rfl
theorem Dc{kindOf:Str->D_ y2n}:∀{binds:C_ (Str×s_)}{m:o_ 0},(∀v,(x,v)∉binds)->bindC kindOf binds m x=m x
 |[],_,_=>rfl
 |(n,v)::r,m,h=>by
  unfold bindC;rw[Dc λw hw=>h w (Zh _ hw)];split
  ·rfl
  ·have:x≠n:=by rintro rfl;exact h v Zn
   simp[this]
theorem De{kindOf:Str->D_ y2n}:∀{P:C_ Str}{vs:C_ s_}{i:Nat}{m:o_ 0},P.Nodup->P[i]?=a_ x->vs[i]?=a_ v->kindOf x=a_ .local->
  bindL kindOf (P.zip vs) m x=a_ v
 |[],_,_,_,_,h,_,_=>by simp at h
 |_::_,[],_,_,_,_,h,_=>by simp at h
 |p::P,w::vs,0,m,nd,h1,h2,hk=>by
  simp at h1 h2;subst h1;subst h2
  show bindL kindOf ((p,w)::P.zip vs) m p=_
  unfold bindL;rw[Da λv hv=>(y1i.mp nd).1 (List.of_mem_zip hv).1,if_pos hk];simp
 |p::P,w::vs,i+1,m,nd,h1,h2,hk=>by
  show bindL kindOf ((p,w)::P.zip vs) m x=_
  unfold bindL;exact De (i:=i) (y1i.mp nd).2 (l_ h1) (l_ h2) hk
theorem Df{kindOf:Str->D_ y2n}:∀{P:C_ Str}{vs:C_ s_}{i:Nat}{m:o_ 0},P.Nodup->P[i]?=a_ x->vs[i]?=a_ v->kindOf x≠a_ .local->
  bindC kindOf (P.zip vs) m x=a_ v
 |[],_,_,_,_,h,_,_=>by simp at h
 |_::_,[],_,_,_,_,h,_=>by simp at h
 |p::P,w::vs,0,m,nd,h1,h2,hk=>by
  simp at h1 h2;subst h1;subst h2
  show bindC kindOf ((p,w)::P.zip vs) m p=_
  unfold bindC;rw[Dc λv hv=>(y1i.mp nd).1 (List.of_mem_zip hv).1,if_neg hk];simp
 |p::P,w::vs,i+1,m,nd,h1,h2,hk=>by
  show bindC kindOf ((p,w)::P.zip vs) m x=_
  unfold bindC;exact Df (i:=i) (y1i.mp nd).2 (l_ h1) (l_ h2) hk
def start(N:C_ Str)(vs:C_ V):St:=vs.map a_++ZW (N.length-vs.length) b_
def Hj(CX:CXT)(P:z_)(w:y_)(K:Zf)(mg:o_ 0)(base:x_)(N:C_ Str)(qual:Str)(scope:Scope)(f:u_)(cd:s_)(A:w_)(outer:C_ Env)(s:t_)(H:Hp)(E:XK):Cx where
 prog:=P
 w:=w
 K:=K
 mg:=mg
 base:=base
 A:=A.deeper (envOfC qual scope (e_ s) f cd)
 N:=N
 s₀:=s
 H₀:=H
 env:=envOfC qual scope (e_ s) f cd
 outer:=outer
 stack:=envOfC qual scope (e_ s) f cd::outer
 ex:=[]
 calm:=true
 fn:=λ_=>true
 pn:=[]
 xe:=λe s'=>wpAny (model P w) (A.deeper (envOfC qual scope (e_ s) f cd)) (leaving (envOfC qual scope (e_ s) f cd) e) (λ_ cg=>CX outer H s E e cg) (λe' cg=>CX outer H s E e' cg) s'
def Fu{sc:Scope}(h:sc.names.lookup x=a_ .cell):∃c,(y0v n sc.names []).lookup x=a_ c:=by have q:=PySem.W.cellsFrom_some sc.names n [] (.inl h);exact y13.mp q
def JH{CX:CXT}{P:z_}{w:y_}{K:Zf}{mg:o_ 0}{base:x_}{N ps:C_ Str}{qual:Str}{scope:Scope}{f:u_}{cd:s_}{A:w_}{outer:C_ Env}{s s1:t_}{H:Hp}{E:XK}{us:C_ s_}{vs:C_ V}
  (S:bF N ps scope) (hd:A.handled=b_) (e0:Cu P w K mg base A outer s H) (hl:vs.length=ps.length) (r:bN vs us)
  (x:InCallC s (e_ s) (bindL (envOfC qual scope (e_ s) f cd).kindOf (ps.zip us) λ_=>b_) (y0v (s.heap.objs.size+1) scope.names []) (bindC (envOfC qual scope (e_ s) f cd).kindOf (ps.zip us) λ_=>b_) s1):
  Inv (Hj CX P w K mg base N qual scope f cd A outer s H E) [] (start N vs) H s1:=by
 have az:ps.length<=N.length:=by have:=congrArg y1C S.pre;rw[y0R]at this;omega
 let⟨h1,tk,rfl,hk⟩:=x.done;have qd:∀b:u_,b∉(Hj CX P w K mg base N qual scope f cd A outer s H E).ex:=λb z=>absurd (show b∈([]:C_ u_) from z) (by simp)
 refine⟨⟨e0.mod,S.kind,rfl,rfl,Zi _,λy z c h1 h2=>?_,λy hy=>?_,λy c _ h=>?_,λ_=>hd,Around.frames_deeper e0.frames,.inr ⟨rfl,rfl⟩,λb z=>absurd z (qd b),e0.bs,e0.bsz,λb _ _=>qd b,λb z=>absurd z (qd b),e0.funs,e0.frf⟩,
  rfl,e0.bare,Un.kept hk,⟨_,x.toInCall.ns,λi y v h1 h2 h3=>?_⟩,λy c h=>⟨_,x.cell y c h⟩,e0.hok.fresh (Zi _),λy c h=>?_,λp hp=>absurd (show p∈([]:g_ 0) from hp) (by simp),e0.hok.kept hk,?_⟩
 ·exact name_of_addr x.apart (y19 h1) (y19 h2)
 ·have hy:scope.names.lookup y=a_ .cell\/scope.names.lookup y=a_ .free:=hy;rcases hy with hy|hy
  ·exact Fu hy
  ·exact absurd rfl (S.nofree _ (y19 hy))
 ·exact y1J (x.above y c (y19 h))
 ·have hi:i<vs.length:=by
   unfold start at h2;by_cases hi:i<vs.length
   ·exact hi
   ·rw[y1F (l_ hi)]at h2;rw[List.getElem?_replicate]at h2;split at h2 <;> cases h2
  have ha:vs[i]?=a_ v:=by
   unfold start at h2;rw[y0n (l_ hi),Zr]at h2;cases e:vs[i]? with
   |none=>rw[e]at h2;cases h2
   |some a=>rw[e]at h2;cases h2;rfl
  let⟨u,hu,rv⟩:=r.get ha;have hp:ps[i]?=a_ y:=by rw[<-S.pre,List.getElem?_take_of_lt ⋯];exact h1
  have zl:ps.Nodup:=by rw[<-S.pre];exact S.nd.sublist (List.take_sublist _ _)
  refine⟨u,rv,?_⟩;rcases S.par y (ZP hp) with k|k
  ·exact .inl ⟨k,De zl hp hu k⟩
  ·let⟨c,e⟩:=Fu (n:=(e_ s)+1) k;refine .inr ⟨.inl k,c,e,?_⟩;have q:=x.cell y c e;rw[Df zl hp hu (by show scope.names.lookup y≠_;rw[k];decide)]at q;exact q
 ·exact e0.hok.fresh (y1J (x.above y c (y19 h)))
 ·unfold start
  show _=N.length
  rw[y0h,Zg,List.length_replicate];omega
def U8{CX:CXT}{P:z_}{w:y_}{K:Zf}{mg:o_ 0}{base:x_}{k:Nat}{f:u_}{name qual:Str}{params:Arguments}{body:C_ B_}{scope:Scope}{dV kV doc pm cdv ct oc:s_}{an od:D_ u_}
  {osl:n_ 0} {N ps:C_ Str} {sp:Sp} (lk:K.lookup f=a_ ⟨oc,od,.func (y08 name qual params body scope dV kV doc pm an cdv ct),osl⟩) (dv:y2O K cdv qual=true) (S:bF N ps scope)
  (len:∀vs H Q E,sp vs H Q E->vs.length=ps.length)
  (fe:∀(A:w_)(outer:C_ Env)(s:t_)(H:Hp)(vs:C_ V)(Q:VK)(E:XK),iW k (A.deeper (envOfC qual scope (e_ s) f cdv))->sp vs H Q E->
   ∃t,PSs (Hj CX P w K mg base N qual scope f cdv A outer s H E) body t/\t { nx:=λ_ H'=>Q .non H',rt:=Q} (start N vs) H):
  bR P w K mg base CX (k+1) f (y08 name qual params body scope dV kV doc pm an cdv ct) ps sp:=by
 refine⟨len,λA outer s H args us vs Q E hr e0 hb r ix=>?_⟩;have hl:=len _ _ _ _ ix;have KX:K.In s.heap:=e0.mod.kin.keeps λb o e=>(e0.bs b o e).1;have lim:s.heap.NoLimit:=e0.mod.nolimit.keeps λb o e=>(e0.bs b o e).1;have nj:∀y∈ps.zip us,scope.names.lookup y.1=a_ .local\/(scope.names.lookup y.1=a_ .cell/\((y0v (s.heap.objs.size+1) scope.names []).lookup y.1).isSome=true):=λ⟨n,v⟩ hy=>by
  rcases S.par n (List.of_mem_zip hy).1 with q|q
  ·exact .inl q
  ·exact .inr ⟨q,PySem.W.cellsFrom_some _ _ _ (.inl q)⟩
 refine codeAny_call_function hr.depth (KX _ _ lk) rfl S.co S.gen rfl (PySem.W.codeRec_of KX dv) (hb _ _ _ _ ?_);refine wpAny_newFunctionEnv_cells S.kind nj λenv he s1 x=>?_;subst he;refine⟨lim.keeps x.toInCall.keep,codeAny_func ?_⟩;let⟨t,ht,hq⟩:=fe A outer s H vs Q E (hr.deeper _) ix;have I:Inv (Hj CX P w K mg base N qual scope f cdv A outer s H E) [] (start N vs) H s1:=JH S hr.hd e0 hl r x;refine y0I (ht [] s1 (start N vs) H _ I hq) (λfl s' hs=>?_) λe s' hs=>hs;have fin:∀{σ':St}{H':Hp}{v:V}{u:s_},Inv (Hj CX P w K mg base N qual scope f cdv A outer s H E) [] σ' H' s'->RelV v u->Q v H'->CE outer P w H s Q u s':=
  λ{σ' H' v u} J rv q=>⟨v,H',J.os,J.bare,J.base,J.hok,rv,q⟩
 cases fl with
 |ret u=>let⟨v,σ',H',J,rv,q⟩:=hs;exact fin J rv q
 |next=>let⟨σ',H',J,q⟩:=hs;exact fin (v:=V.non) (u:=ZE) J rfl q
 |brk=>let⟨_,_,_,q⟩:=hs;exact y1a q
 |cont=>let⟨_,_,_,q⟩:=hs;exact y1a q
section
variable{X:Cx}{x:Str}{p pos:Pos}{e:A_}{es:C_ A_}{t:TA}{id T:String}{r:C_ V->Hp->VK->Prop}
def tCB(r:C_ V->Hp->VK->Prop)(t:TA):TE:=λσ H Q=>t σ H λvs H1=>r vs H1 Q
def AU(hc:eD X (.builtin id) r)(hg:Gl X x)(hm:X.mg x=b_)(hv:y1t x=a_ (.builtin id))(ha:PA X (e::es) t)(hn:x≠"__name__" := by decide)(cm:(x == ("__debug__" : Str))=false:=by decide)
  (he:Zx (e::es) X.env=(false,eval e X.env)::Zx es X.env:=by rfl) (az:(backTo pos (Zx es X.env)).any (·.1)=false:=by rfl):PE X (.Call (.Name x p) (e::es) [] pos) (tCB r t):=by
 intro FR s σ H Q I h;refine y2m (rG I hg hm hv ?_ hn cm);exact PyProof.Rows.callWith_builtin1 (thn (ha pos FR s σ H _ I h) λus s1 ⟨vs,H1,I1,r1,q1⟩=>hc FR s1 σ H1 vs us Q I1 r1 q1) he az
def Dg(hc:eD X (.type T) r)(hg:Gl X x)(hm:X.mg x=b_)(hv:y1t x=a_ (.type T))(ha:PA X (e::es) t)(hn:x≠"__name__" := by decide)(cm:(x == ("__debug__" : Str))=false:=by decide)
  (he:Zx (e::es) X.env=(false,eval e X.env)::Zx es X.env:=by rfl) (az:(backTo pos (Zx es X.env)).any (·.1)=false:=by rfl):PE X (.Call (.Name x p) (e::es) [] pos) (tCB r t):=by
 intro FR s σ H Q I h;refine y2m (rG I hg hm hv ?_ hn cm);exact y04 (thn (ha pos FR s σ H _ I h) λus s1 ⟨vs,H1,I1,r1,q1⟩=>hc FR s1 σ H1 vs us Q I1 r1 q1) he az
end
end L2
namespace HT
open PySem PyProof.Rows
section
variable{prog:z_}{w:y_}{A:w_}{E:f_ 0}{s:t_}
def cat_tup{vs ws:C_ s_}{Q:f_ 0}(ht:IsTup s.heap t vs.toArray)(hb:IsTup s.heap b ws.toArray)(hv:vs≠[])(h1:ws=[]->Q (.ref t) s)(h2:ws≠[]->Q (.ref (e_ s)) {s with heap:=s.heap.push {cls:=.type "tuple",data:=.seq (vs++ws).toArray} })(hsz:vs.length+ws.length<=Zq):m_ prog w A (y0Q .Add (.ref t) (.ref b)) Q E s:=by
 let⟨⟨cls,dd,data,sl⟩,ho,hc,n,hd⟩:=id ht;let⟨⟨nr,iw,data2,iu⟩,gf,dq,n2,hd2⟩:=id hb;simp only at hc hd dq hd2;subst hc hd dq hd2;have e:vs.toArray++ws.toArray=(vs++ws).toArray:=by simp
 by_cases hw:ws=[]
 ·exact concat_meets ⟨_,ho,rfl⟩ ⟨_,gf,rfl⟩ noFill_tuple_add seq_tuple_add PySem.F.slot_tuple_add PySem.F.entry_tuple_add (PySem.F.args_tuple_add_2 _ _)
   (tuple_addW1 t b vs.toArray ws.toArray n n2 dd iw sl iu (l_ hv) (by simp[hw])) ⟨ho,gf,h1 hw⟩
 ·refine concat_meets ⟨_,ho,rfl⟩ ⟨_,gf,rfl⟩ noFill_tuple_add seq_tuple_add PySem.F.slot_tuple_add PySem.F.entry_tuple_add (PySem.F.args_tuple_add_2 _ _)
   (tuple_addW2 t b vs.toArray ws.toArray n n2 dd iw sl iu (l_ hv) (l_ hw) (by rw[Zp,Zp];exact hsz)) ⟨ho,gf,?_⟩
  rw[e];exact h2 hw
def sIx(n d:Nat):D_ Int->Nat
 |none=>d
 |some v=>if v<0 then(v+(n:Int)).toNat else min v.toNat n
def RJ(n d:Nat)(hd:d<=n)(o:D_ Int):sIx n d o<=n:=by
 cases o with
 |none=>exact hd
 |some v=>
  show(if v<0 then(v+(n:Int)).toNat else min v.toNat n)<=n
  by_cases hv:v<0
  ·rw[if_pos hv];omega
  ·rw[if_neg hv];exact Nat.min_le_right _ _
def IH(v:Int)(n d:Nat):(if v<0 then max (v+(n:Int)) 0 else min v (n:Int))=((sIx n d (a_ v):Nat):Int):=by
 show(if v<0 then max (v+(n:Int)) 0 else min v (n:Int))=(((if v<0 then(v+(n:Int)).toNat else min v.toNat n):Nat):Int)
 by_cases hv:v<0
 ·simp only[if_pos hv];omega
 ·simp only[if_neg hv];omega
def Hk(lo hi:D_ Int)(n:Nat):y2P lo hi 1 (n:Int)=(((sIx n 0 lo:Nat):Int),((sIx n n hi:Nat):Int)):=by
 have h1:¬ ((1:Int)<0):=⋯;unfold y2P;simp only[h1,if_false];refine Prod.ext ?_ ?_
 ·cases lo with
  |none=>rfl
  |some v=>exact IH v n 0
 ·cases hi with
  |none=>rfl
  |some v=>exact IH v n n
def Hl(i j:Nat):y1T (i:Int) (j:Int) 1=j-i:=by
 unfold y1T;have h1:(1:Int)>0:=⋯;simp only[h1,if_true,Int.ediv_one];split <;> omega
def AV{Q:D_ Int->t_->Prop}(p:IsPart v o)(h:Q o s):m_ prog w A (Builtin.Slice.slicePartIndex v) Q E s:=by
 cases p with
 |none=>exact slicePart_none h
 |int i t=>exact slicePart_int h
def sliceApplied_gen{sl:u_}{vl vu:s_}{lo hi:D_ Int}{n:Nat}{Q:Int×Int×Nat->t_->Prop}(hs:s.heap.IsSliceOf sl vl vu .none)(pl:IsPart vl lo)(pu:IsPart vu hi)
  (h:Q (((sIx n 0 lo:Nat):Int),1,sIx n n hi-sIx n 0 lo) s):m_ prog w A (Builtin.Slice.sliceApplied (.ref sl) (pure (n:Int))) Q E s:=by
 let⟨os,ij,qq,jv⟩:=id hs;unfold Builtin.Slice.sliceApplied Builtin.Slice.sliceFields;refine Zb (Zb (y0V ij jv (x:=vl) rfl (Zb (y0V ij jv (x:=vu) rfl (Zb (y0V ij jv (x:=.none) rfl (Zd ?_)))))));refine Zb (slicePart_none ?_)
 show wpAny _ _ (if((1:Int) == 0)=true then _ else _) _ _ s
 rw[if_neg nofun];refine Zb (AV pl (Zb (AV pu (Zb (Zd ?_)))))
 show wpAny _ _ (match y2P lo hi 1 (n:Int) with|(lo,hi)=>pure (lo,(1:Int),y1T lo hi 1)) _ _ s
 rw[Hk lo hi n]
 show wpAny _ _ (pure (((sIx n 0 lo:Nat):Int),(1:Int),y1T ((sIx n 0 lo:Nat):Int) ((sIx n n hi:Nat):Int) 1)) _ _ s
 rw[Hl];exact Zd h
def Lf(xs:Array s_)(i k:Nat):((ZD k).filterMap λ(m:Nat)=>xs[((i:Int)+(m:Int)*1).toNat]?).toArray=((xs.toList.drop i).take k).toArray:=by
 have e:(λ(m:Nat)=>xs[((i:Int)+(m:Int)*1).toNat]?)=λm=>xs[i+m]?:=by
  funext m;have:((i:Int)+(m:Int)*1).toNat=i+m:=⋯;rw[this]
 rw[e];have:=pick_run xs i k;rw[List.filterMap_map]at this;have e2:((λx=>xs[x]?)∘λx=>i+x)=λm=>xs[i+m]?:=rfl;rw[e2]at this;rw[this]
def getItem_tuple_cut{t sl:u_}{items:Array s_}{vl vu:s_}{lo hi:D_ Int}{Q:f_ 0}(ht:IsTup s.heap t items)(hs:s.heap.IsSliceOf sl vl vu .none)(pl:IsPart vl lo)(pu:IsPart vu hi)
  (hw:¬ (sIx items.size 0 lo=0/\sIx items.size items.size hi=items.size))
  (h:Q (.ref (e_ s)) {s with heap:=s.heap.push {cls:=.type "tuple",data:=.seq ((items.toList.drop (sIx items.size 0 lo)).take (sIx items.size items.size hi-sIx items.size 0 lo)).toArray} })
  (hsz:items.size<=Zq):m_ prog w A (getItem (.ref t) (.ref sl)) Q E s:=by
 have dj:sizeOk (.seq ((items.toList.drop (sIx items.size 0 lo)).take (sIx items.size items.size hi-sIx items.size 0 lo)).toArray):=by
  show((items.toList.drop (sIx items.size 0 lo)).take (sIx items.size items.size hi-sIx items.size 0 lo)).toArray.size<=Zq
  rw[Zp,y0R,List.length_drop,y18];omega
 have hj:sIx items.size items.size hi<=items.size:=RJ _ _ (Zi _) hi;let⟨os,ij,qq,jv⟩:=id hs;have uy:s.TypeIs (.ref sl) "slice" := ⟨os,ij,qq⟩;unfold getItem
 try with_reducible refine Z3 ?_
 first|refine Zb (Zd ?_)|skip
 refine Zb (wpAny_sequenceKey ht.typeIs nofun ?_);refine Zb (ZR (name:=y0i "__getitem__") ht.typeIs y0q
  (Z1 y0q ht.typeIs entry_tuple_getitem ?_ (args_tuple_getitem _ _)))
 show wpAny _ _ (y2L (.ref t) >>= _) _ _ s
 refine Zb (tupleItemsOf_ ht ?_);refine Zb (y1K uy ?_);rw[if_pos nofun];refine Zb (sliceApplied_gen hs pl pu ?_);have fu:¬ ((((sIx items.size 0 lo:Nat):Int) == 0&&(1:Int) == 1&&(sIx items.size items.size hi-sIx items.size 0 lo) == items.size)=true):=by intro q;rw[Z2,Z2]at q;have q1:((sIx items.size 0 lo:Nat):Int)=0:=eq_of_beq q.1.1;have q2:sIx items.size items.size hi-sIx items.size 0 lo=items.size:=eq_of_beq q.2;exact hw ⟨⋯,⋯⟩
 show wpAny _ _ (if(((sIx items.size 0 lo:Nat):Int) == 0&&(1:Int) == 1&&(sIx items.size items.size hi-sIx items.size 0 lo) == items.size)=true then _ else _) _ _ s
 rw[if_neg fu,Lf]
 first
  |exact Zb (m:=y14 _) (ZJ (Zd ⟨_,rfl,Zd h⟩) dj)
  |exact Zb (m:=y14 _) (ZJ (Zb (Zd (Zd ⟨_,rfl,Zd h⟩))) dj)
  |exact Zb (Zb (m:=y14 _) (ZJ (Zd (Zd ⟨_,rfl,Zd h⟩)) dj))
  |exact Zb (Zb (m:=y14 _) (ZJ (Zd ⟨_,rfl,Zd h⟩) dj))
end
end HT
namespace L2
abbrev TO:=St->Hp->(D_ Int->Hp->Prop)->Prop
def PO(X:Cx)(e:D_ A_)(t:TO):Prop:=
 ∀(FR:g_ 0)(s:t_)(σ:St)(H:Hp)(Q:D_ Int->Hp->Prop),Inv X FR σ H s->t σ H Q->
  wpAny (h_ X) X.A (evalPart e X.env) (λu s'=>∃o H',Inv X FR σ H' s'/\IsPart u o/\Q o H') X.xe s
def OO:TO:=λ_ H Q=>Q b_ H
section
variable{X:Cx}{e:A_}{te:TE}{lo hi:D_ A_}{tl th:TO}{pos p2:Pos}
def OP:PO X b_ OO:=by intro FR s σ H Q I h;rw[evalPart_none];exact Zd ⟨b_,H,I,.none,h⟩
def SlR(X:Cx)(r:V->D_ Int->D_ Int->Hp->VK->Prop):Prop:=
 ∀(FR:g_ 0)(s:t_)(σ:St)(H:Hp)(x:V)(v vl vu:s_)(lo hi:D_ Int)(sl:u_)(Q:VK),Inv X FR σ H s->RelV x v->s.heap.IsSliceOf sl vl vu .none->IsPart vl lo->IsPart vu hi->r x lo hi H Q->
  ∃T id,typeLookup (.type T) "__getitem__" = pure (a_ (.builtin id))/\s.TypeIs v T/\wpAny (h_ X) X.A (getItem v (.ref sl)) (EP X FR σ Q) X.xe s
theorem SlR.or{r r':V->D_ Int->D_ Int->Hp->VK->Prop}(h:SlR X r)(h':SlR X r'):SlR X (λx lo hi H Q=>r x lo hi H Q\/r' x lo hi H Q):=by
 intro FR s σ H x v vl vu lo hi sl Q I rx hs pl pu q;rcases q with q|q
 ·exact h FR s σ H x v vl vu lo hi sl Q I rx hs pl pu q
 ·exact h' FR s σ H x v vl vu lo hi sl Q I rx hs pl pu q
def tSl(r:V->D_ Int->D_ Int->Hp->VK->Prop)(te:TE)(tl th:TO):TE:=λσ H Q=>te σ H λx H1=>tl σ H1 λl H2=>th σ H2 λu H3=>r x l u H3 Q
def Lg{r:V->D_ Int->D_ Int->Hp->VK->Prop}(hr:SlR X r)(he:PE X e te)(hl:PO X lo tl)(hu:PO X hi th):PE X (.Subscript e (.Slice lo hi b_ p2) pos) (tSl r te tl th):=by
 intro FR s σ H Q I h;refine Subscript_ (thn (he FR s σ H _ I h) λv s1 hz=>?_);let⟨x,H1,I1,r1,q1⟩:=hz;refine wpAny_Slice (thn (hl FR s1 σ H1 _ I1 q1) λvl s2 ⟨l,H2,I2,pl,q2⟩=>thn (hu FR s2 σ H2 _ I2 q2) λvu s3 hz=>?_);let⟨u,H3,I3,pu,q3⟩:=hz;rw[evalPart_none];refine Zd ?_;have I4:Inv X FR σ H3 {s3 with heap:=s3.heap.push {cls:=.type "slice",data:=.fields #[vl,vu,.none]} }:=I3.kept (t':=s3.toks) λb ob q=>Ze _ q;let⟨T,id,hT,ht,hg⟩:=hr FR {s3 with heap:=s3.heap.push {cls:=.type "slice",data:=.fields #[vl,vu,.none]} } σ H3 x v vl vu l u (e_ s3) Q I4 r1 (Heap.IsSliceOf.new ..) pl pu q3
 show wpAny (h_ X) X.A (subscriptTail e (.Slice lo hi b_ p2) v (.ref (e_ s3))) (EP X FR σ Q) X.xe {s3 with heap:=s3.heap.push {cls:=.type "slice",data:=.fields #[vl,vu,.none]} }
 exact tail_any (ops:=[.ref (e_ s3),v]) ht hT hg (by with_unfolding_all rfl)
def Fv(xs:C_ V)(lo hi:D_ Int):C_ V:=(xs.drop (HT.sIx xs.length 0 lo)).take (HT.sIx xs.length xs.length hi-HT.sIx xs.length 0 lo)
def zY(xs:C_ V)(lo hi:D_ Int):(Fv xs lo hi).length<=xs.length:=by unfold Fv;rw[y0R,List.length_drop];omega
def U9(K:Zf):V->D_ Int->D_ Int->Hp->VK->Prop:=λx lo hi H Q=>∃a xs,x=.ref a/\SqT K H a xs/\
 ¬ (HT.sIx xs.length 0 lo=0/\HT.sIx xs.length xs.length hi=xs.length)/\∀p,H p=b_->Q (.ref p) (upd H p (.tup (Fv xs lo hi)))
def RK:SlR X (U9 X.K):=by
 intro FR s σ H x v vl vu lo hi sl Q I rx hs pl pu h;let⟨a,xs,rfl,hx,hw,q⟩:=h;cases rx
 let⟨its,r,ht,hz⟩:=I.tuple hx;have hlen:its.toArray.size=xs.length:=by rw[Zp];exact r.length.symm
 refine⟨"tuple",_,y0q.lookup,ht.typeIs,?_⟩;refine HT.getItem_tuple_cut ht hs pl pu (by rw[hlen];exact hw) ?_ (by rw[hlen];exact hz);rw[hlen];refine⟨.ref (e_ s),_,I.laid (t':=s.toks) (o:=.tup (Fv xs lo hi)) (λb ob q=>Ze _ q) (Zi _) ?_,rfl,q _ (I.hok.fresh (Zi _))⟩;exact⟨y0e (zY xs lo hi) hz,_,(r.drop (HT.sIx xs.length 0 lo)).take (HT.sIx xs.length xs.length hi-HT.sIx xs.length 0 lo),Ak.new _ _⟩
def QM(K:Zf):R2:=λx y H Q=>∃a b xs ys,x=.ref a/\y=.ref b/\SqT K H a xs/\SqT K H b ys/\xs≠[]/\xs.length+ys.length<=Zq/\
 (ys=[]->Q (.ref a) H)/\(ys≠[]->∀p,H p=b_->Q (.ref p) (upd H p (.tup (xs++ys))))
theorem bN.nil_iff(r:bN xs us):us=[]↔xs=[]:=by
 cases r with
 |nil=>simp
 |cons _ _=>simp
def OQ:OpR X (y0Q .Add) (QM X.K):=by
 intro FR s σ H x y v u Q I rx ry h;let⟨a,b,xs,ys,rfl,rfl,ha,hb,hx,hz,q1,q2⟩:=h;cases rx
 cases ry
 let⟨its,r1,p1,_⟩:=I.tuple ha;let⟨fc,r2,p2,_⟩:=I.tuple hb;refine HT.cat_tup p1 p2 (λz=>hx (r1.nil_iff.mp z)) (λz=>⟨.ref a,H,I,rfl,q1 (r2.nil_iff.mp z)⟩) (λz=>?_) (by rw[<-r1.length,<-r2.length];exact hz);refine⟨.ref (e_ s),_,I.laid (t':=s.toks) (o:=.tup (xs++ys)) (λb ob q=>Ze _ q) (Zi _) ?_,rfl,q2 (λw=>z (r2.nil_iff.mpr w)) _ (I.hok.fresh (Zi _))⟩;exact⟨by rw[y0h];exact hz,_,r1.append r2,Ak.new _ _⟩
end
def ixN(n:Nat)(i:Int):D_ Nat:=if 0<=i then(if i<n then a_ i.toNat else b_) else if -(n:Int)<=i then a_ (i+n).toNat else b_
def atI{α:Type}(xs:C_ α)(i:Int):D_ α:=(ixN xs.length i).bind λj=>xs[j]?
def II(h:ixN n i=a_ j):seqIndex? i n=a_ j/\j<n/\-(n:Int)<=i/\i<n:=by
 unfold ixN at h;by_cases h0:0<=i
 ·rw[if_pos h0]at h;by_cases h1:i<n
  ·rw[if_pos h1]at h;have e:i.toNat=j:=ZI h;exact⟨by rw[seqIndex_of h0 h1,e],⋯,⋯,h1⟩
  ·rw[if_neg h1]at h;cases h
 ·rw[if_neg h0]at h;by_cases h1:-(n:Int)<=i
  ·rw[if_pos h1]at h;have e:(i+n).toNat=j:=ZI h;exact⟨by rw[seqIndex_neg ⋯ h1,e],⋯,h1,⋯⟩
  ·rw[if_neg h1]at h;cases h
def DZ{α:Type}{xs:C_ α}{i:Int}{v:α}(h:atI xs i=a_ v):∃j,seqIndex? i xs.length=a_ j/\xs[j]?=a_ v/\j<xs.length/\-(xs.length:Int)<=i/\i<xs.length:=by
 unfold atI at h;cases e:ixN xs.length i with
 |none=>rw[e]at h;cases h
 |some j=>rw[e]at h;let⟨h1,h2,h3,h4⟩:=II e;exact⟨j,h1,h,h2,h3,h4⟩
def IJ(b:A_):Prop:=∀o i,subscripted b false o i=operate [o,i] (getItem o i)
def IxR(X:Cx)(r:R2):Prop:=
 ∀(value slice:A_)(FR:g_ 0)(s:t_)(σ:St)(H:Hp)(x y:V)(v u:s_)(Q:VK),Inv X FR σ H s->RelV x v->RelV y u->r x y H Q->
  subscripted slice false v u=operate [v,u] (getItem v u)->wpAny (h_ X) X.A (subscriptTail value slice v u) (EP X FR σ Q) X.xe s
def MtR(X:Cx)(id:String)(r:V->C_ V->Hp->VK->Prop):Prop:=
 ∀(FR:g_ 0)(s:t_)(σ:St)(H:Hp)(x:V)(xs:C_ V)(v:s_)(us:C_ s_)(Q:VK),Inv X FR σ H s->RelV x v->bN xs us->r x xs H Q->
  wpAny (h_ X) X.A (call (.builtin id) (v::us)) (EP X FR σ Q) X.xe s
section
variable{X:Cx}{a b:A_}{ta tb:TE}{pos:Pos}
theorem IxR.or(h:IxR X r)(h':IxR X r'):IxR X (λx y H Q=>r x y H Q\/r' x y H Q):=by
 intro value slice FR s σ H x y v u Q I rx ry q hs;rcases q with q|q
 ·exact h value slice FR s σ H x y v u Q I rx ry q hs
 ·exact h' value slice FR s σ H x y v u Q I rx ry q hs
def U'(hr:IxR X r)(ha:PE X a ta)(hb:PE X b tb)(hs:IJ b):PE X (.Subscript a b pos) (tOp r ta tb):=by intro FR s σ H Q I h;exact Subscript_ (Rv ha hb I h λv u s2 x y H2 I2 rx ry q=>hr a b FR s2 σ H2 x y v u Q I2 rx ry q (hs _ _))
def Wh(K:Zf):R2:=λx y H Q=>∃p xs i v,x=.ref p/\y=.int i/\SqL K H p xs/\atI xs i=a_ v/\Q v H
def Wi(K:Zf):R2:=λx y H Q=>∃p xs i v,x=.ref p/\y=.int i/\SqT K H p xs/\atI xs i=a_ v/\Q v H
def Wj:R2:=λx y H Q=>∃z i c,x=.str z/\y=.int i/\z.length<=Zq/\atI z.cps.toList i=a_ c/\Q (.str ⟨#[c]⟩) H
def OR:IxR X (Wh X.K):=by
 intro value slice FR s σ H x y v u Q I rx ry h hs;let⟨p,xs,i,z,rfl,rfl,hq,he,q⟩:=h;cases rx
 let⟨t,rfl⟩:=ry;let⟨its,r,pl,hz⟩:=I.list hq;let⟨j,h1,h2,h3,h4,h5⟩:=DZ he;let⟨w,ew,bu⟩:=r.get h2;have hl:=r.length;have hn:=uH;have fin:EP X FR σ Q w s:=⟨z,H,I,bu,q⟩;by_cases h0:0<=i
 ·have hj:i.toNat=j:=by rw[seqIndex_of h0 h5]at h1;exact ZI h1
  exact item_listR pl.isList h0 ⋯ (by rw[hj];simpa using ew) fin hs
 ·have hj:(i+(its.toArray.size:Int)).toNat=j:=by rw[seqIndex_neg ⋯ h4]at h1;rw[Zp,<-hl];exact ZI h1
  exact subscriptTail_builtinR (x:=w) pl.isList.typeIs slot_list_getitem.lookup
   (wpAny_getItem_list_neg (Q:=λr s'=>r=w/\EP X FR σ Q r s') pl.isList ⋯ (by rw[Zp] <;> omega) ⋯ (by rw[hj];simpa using ew) ⟨rfl,fin⟩) hs
def RL:IxR X (Wi X.K):=by
 intro value slice FR s σ H x y v u Q I rx ry h hs;let⟨p,xs,i,z,rfl,rfl,hq,he,q⟩:=h;cases rx
 let⟨t,rfl⟩:=ry;let⟨its,r,pl,hz⟩:=I.tuple hq;let⟨j,h1,h2,h3,h4,h5⟩:=DZ he;let⟨w,ew,bu⟩:=r.get h2;have hl:=r.length;have hn:=uH;have fin:EP X FR σ Q w s:=⟨z,H,I,bu,q⟩;exact subscriptTail_builtinR (x:=w) pl.typeIs slot_tuple_getitem.lookup
  (getItem_tuple (j:=j) (Q:=λr s'=>r=w/\EP X FR σ Q r s') pl ⋯ ⋯ (by rw[Zp,<-hl];exact h1) (l_ ew) ⟨rfl,fin⟩) hs
def RM:IxR X Wj:=by
 intro value slice FR s σ H x y v u Q I rx ry h hs;let⟨z,i,c,rfl,rfl,hz,he,q⟩:=h;let⟨t,rfl⟩:=rx;let⟨t',rfl⟩:=ry;let⟨j,h1,h2,h3,h4,h5⟩:=DZ he;have hl:z.cps.toList.length=z.length:=by simp[Str.length]
 rw[hl]at h1 h4 h5;have hn:=uH;exact tail_any (typeIs_str s z t) slot_str_getitem.lookup (getItem_str (c:=c) (by have e1:decide (i < -(2 ^ 63:Int))=false:=decide_eq_false ⋯;have e2:decide (i >= 2 ^ 63)=false:=decide_eq_false ⋯;rw[e1,e2,Bool.or_false]) (by rw[h1];simpa using h2) ⟨.str ⟨#[c]⟩,H,I.tok _,⟨_,rfl⟩,q⟩) hs
def Hm(its:C_ s_)(n j:Nat)(u:s_):ZT (·.setIfInBounds j u) {cls:=.type "list",data:=.seq its.toArray n}={cls:=.type "list",data:=.seq (its.set j u).toArray n}:=by simp[ZT]
theorem Inv.lst{FR:g_ 0}{σ:St}{H:Hp}{s:t_}{p:u_}{xs:C_ V}(I:Inv X FR σ H s)(h:H p=a_ (.lst xs)):
  ∃(its:C_ s_)(n:Nat),bN xs its/\s.heap.get? p=a_ {cls:=.type "list",data:=.seq its.toArray n}/\xs.length<=Zq:=by
 let⟨z,its,n,r,e⟩:=I.hok p _ h;exact⟨its,n,r,e,z⟩
theorem Inv.lstUpd{FR:g_ 0}{σ:St}{H:Hp}{s:t_}{p:u_}{xs ys:C_ V}{its its':C_ s_}{n n':Nat}{f:Obj->Obj}(I:Inv X FR σ H s)(h:H p=a_ (.lst xs))
  (ho:s.heap.get? p=a_ {cls:=.type "list",data:=.seq its.toArray n}) (hf:f {cls:=.type "list",data:=.seq its.toArray n}={cls:=.type "list",data:=.seq its'.toArray n'}) (r:bN ys its') (hz:ys.length<=Zq) (t:Nat):
  Inv X FR σ (upd H p (.lst ys)) {s with heap:=s.heap.update p f,toks:=t}:=by
 have e:(s.heap.update p f).get? p=a_ {cls:=.type "list",data:=.seq its'.toArray n'}:=by rw[ZX f ho (by rw[hf] <;> rfl),hf]
 refine I.write (x:=p) (e:=p) (by rw[h];trivial) (.inl rfl) (λb u hb q=>(y0c _ _ (ZV hb)).trans q) ⟨_,e⟩ ?_;exact⟨hz,its',n',r,e⟩
def Ua:V->V->V->Hp->(Hp->Prop)->Prop:=λo i v H Q=>∃p xs k j,o=.ref p/\i=.int k/\H p=a_ (.lst xs)/\ixN xs.length k=a_ j/\Q (upd H p (.lst (xs.set j v)))
def set_list:W8 X Ua:=by
 intro FR s σ H o i v ov iv u Q I ro ri rv h;let⟨p,xs,k,j,rfl,rfl,hp,hj,q⟩:=h;cases ro
 let⟨t,rfl⟩:=ri;let⟨its,n,r,ho,hz⟩:=I.lst hp;let⟨h1,h2,h3,h4⟩:=II hj;have hl:=r.length;have hn:=uH;have I':Inv X FR σ (upd H p (.lst (xs.set j v))) {s with heap:=s.heap.update p (ZT (·.setIfInBounds j u))}:=I.lstUpd hp ho (Hm its n j u) (r.set rv j) (by rw[y05];exact hz) s.toks;by_cases h0:0<=k
 ·have hk:k.toNat=j:=by rw[seqIndex_of h0 h4]at h1;exact ZI h1
  exact PySem.W.ki_setAt ho h0 ⋯ (by rw[Zp,<-hl];exact h4) (by rw[hk];exact⟨_,I',q⟩)
 ·have hk:(k+(its.toArray.size:Int)).toNat=j:=by rw[seqIndex_neg ⋯ h3]at h1;rw[Zp,<-hl];exact ZI h1
  exact PySem.W.ki_setBack ho ⋯ (by rw[Zp,<-hl];exact h3) ⋯ (by rw[hk];exact⟨_,I',q⟩)
def E1(lo hi:D_ Int)(n:Nat):(sliceBounds lo hi b_ n).1=((HT.sIx n 0 lo:Nat):Int)/\(sliceBounds lo hi b_ n).2.1=((HT.sIx n n hi:Nat):Int)/\(sliceBounds lo hi b_ n).2.2=1:=by
 refine⟨?_,?_,rfl⟩
 ·cases lo with
  |none=>simp[sliceBounds,HT.sIx]
  |some i=>
   simp only[sliceBounds,HT.sIx,Option.getD_none,show(1:Int)>0 by decide,if_true]
   by_cases h:i<0
   ·simp only[h,if_true] <;> omega
   ·simp only[h,if_false] <;> omega
 ·cases hi with
  |none=>simp[sliceBounds,HT.sIx]
  |some i=>
   simp only[sliceBounds,HT.sIx,Option.getD_none,show(1:Int)>0 by decide,if_true]
   by_cases h:i<0
   ·simp only[h,if_true] <;> omega
   ·simp only[h,if_false] <;> omega
def Cv(its:C_ s_)(lo hi:D_ Int):slicePick its.toArray lo hi b_=((its.drop (HT.sIx its.length 0 lo)).take (HT.sIx its.length its.length hi-HT.sIx its.length 0 lo)).toArray:=by let⟨h1,h2,h3⟩:=E1 lo hi its.toArray.size;unfold slicePick;rw[h1,h2,h3];simp only[sliceRange_one,pick_run,Zp] <;> rfl
def Ub(K:Zf):V->D_ Int->D_ Int->Hp->VK->Prop:=λx lo hi H Q=>∃a xs,x=.ref a/\SqL K H a xs/\∀p,H p=b_->Q (.ref p) (upd H p (.lst (Fv xs lo hi)))
def OS:SlR X (Ub X.K):=by
 intro FR s σ H x v vl vu lo hi sl Q I rx hs pl pu h;let⟨a,xs,rfl,hx,q⟩:=h;cases rx
 let⟨its,r,ht,hz⟩:=I.list hx;have hlen:=r.length;refine⟨"list",_,slot_list_getitem.lookup,ht.isList.typeIs,?_⟩;refine wpAny_getItem_list_slice ht.isList hs pl pu .none (by simp) ?_ (by rw[Zp] <;> omega);rw[Cv,<-hlen];refine⟨.ref (e_ s),_,I.laid (t':=s.toks) (o:=.lst (Fv xs lo hi)) (λb ob q=>Ze _ q) (Zi _) ?_,rfl,q _ (I.hok.fresh (Zi _))⟩;exact⟨y0e (zY xs lo hi) hz,_,0,(r.drop (HT.sIx xs.length 0 lo)).take (HT.sIx xs.length xs.length hi-HT.sIx xs.length 0 lo),Zj _ rfl⟩
def zZ:V->Bool
 |.non=>true
 |.bl _=>true
 |.int _=>true
 |.str _=>true
 |_=>false
def eqV:V->V->Bool
 |.non,.non=>true
 |.bl a,.bl b=>a == b
 |.bl a,.int b=>(if a then 1 else 0) == b
 |.int a,.bl b=>a == (if b then 1 else 0)
 |.int a,.int b=>a == b
 |.str a,.str b=>a == b
 |_,_=>false
def RN(ry:RelV y u)(rx:RelV x v)(fy:zZ y=true)(fx:zZ x=true):SeqAt.EqAt A s u v (eqV y x):=by
 cases y with
 |non=>
  cases ry
  cases x with
  |non=>cases rx;exact SeqAt.EqAt.same _
  |bl b=>cases rx;exact SeqAt.EqAt.none_bool b
  |int b=>let⟨t,rfl⟩:=rx;exact SeqAt.EqAt.none_int b t
  |str b=>let⟨t,rfl⟩:=rx;exact SeqAt.EqAt.none_str b t
  |_=>exact absurd (show false=true from fx) Zv
 |bl a=>
  cases ry
  cases x with
  |non=>cases rx;exact SeqAt.EqAt.bool_none a
  |bl b=>cases rx;exact SeqAt.EqAt.bool_bool a b
  |int b=>let⟨t,rfl⟩:=rx;exact SeqAt.EqAt.bool_int a b t
  |str b=>let⟨t,rfl⟩:=rx;exact SeqAt.EqAt.bool_str a b t
  |_=>exact absurd (show false=true from fx) Zv
 |int a=>
  let⟨t',rfl⟩:=ry;cases x with
  |non=>cases rx;exact SeqAt.EqAt.int_none a t'
  |bl b=>cases rx;exact SeqAt.EqAt.int_bool a t' b
  |int b=>let⟨t,rfl⟩:=rx;exact SeqAt.EqAt.int_int a t' b t
  |str b=>let⟨t,rfl⟩:=rx;exact SeqAt.EqAt.int_str a t' b t
  |_=>exact absurd (show false=true from fx) Zv
 |str a=>
  let⟨t',rfl⟩:=ry;cases x with
  |non=>cases rx;exact SeqAt.EqAt.str_none a t'
  |bl b=>cases rx;exact SeqAt.EqAt.str_bool a t' b
  |int b=>let⟨t,rfl⟩:=rx;exact SeqAt.EqAt.str_int a t' b t
  |str b=>let⟨t,rfl⟩:=rx;exact SeqAt.EqAt.str_str a t' b t
  |_=>exact absurd (show false=true from fx) Zv
 |_=>exact absurd (show false=true from fy) Zv
def eqU(x:V)(u:s_):Bool:=match u with
 |.none=>eqV .non x
 |.bool b=>eqV (.bl b) x
 |.int i _=>eqV (.int i) x
 |.str z _=>eqV (.str z) x
 |_=>false
def Lh(r:RelV y u)(f:zZ y=true):eqU x u=eqV y x:=by
 cases y with
 |non=>cases r;rfl
 |bl b=>cases r;rfl
 |int i=>let⟨t,rfl⟩:=r;rfl
 |str z=>let⟨t,rfl⟩:=r;rfl
 |_=>exact absurd (show false=true from f) Zv
theorem vN:∀{xs:C_ V}{us:C_ s_},bN xs us->xs.all zZ=true->us.any (eqU x)=xs.any λy=>eqV y x
 |_,_,.nil,_=>rfl
 |y::xs,u::us,.cons r t,f=>by rw[y1d,Z2]at f;rw[y2a,y2a,Lh r f.1,vN t f.2]
theorem rJ(rx:RelV x v)(fx:zZ x=true):∀{xs:C_ V}{us:C_ s_},bN xs us->xs.all zZ=true->∀u∈us,SeqAt.EqAt A s u v (eqU x u)
 |_,_,.nil,_=>λu hu=>by cases hu
 |y::xs,u::us,.cons r t,f=>λu' hu=>by
  rw[y1d,Z2]at f;rcases Zs.mp hu with rfl|hu
  ·rw[Lh r f.1];exact RN r rx f.1 fx
  ·exact rJ rx fx t f.2 u' hu
def inV(x:V)(xs:C_ V):Bool:=xs.any λy=>eqV y x
def rIn(K:Zf)(neg:Bool):R2:=λx y H Q=>∃p xs,y=.ref p/\(SqL K H p xs\/SqT K H p xs)/\zZ x=true/\xs.all zZ=true/\Q (.bl (if neg then !inV x xs else inV x xs)) H
def JI:OpR X (ZZ .In) (rIn X.K false):=by
 intro FR s σ H x y v u Q I rx ry h;let⟨p,xs,rfl,hq,fx,fs,q⟩:=h;cases ry
 rcases hq with hq|hq
 ·let⟨its,r,pl,hz⟩:=I.list hq;refine SeqAt.in_listAt (eqU x) pl.isList (λw hw=>rJ rx fx r fs w (l_ hw)) ⟨.bl _,H,I,rfl,?_⟩;rw[show its.toArray.any (eqU x)=its.any (eqU x) by simp,vN r fs];exact q
 ·let⟨its,r,pl,hz⟩:=I.tuple hq;refine SeqAt.in_tupleAt (eqU x) pl (λw hw=>rJ rx fx r fs w (l_ hw)) ⟨.bl _,H,I,rfl,?_⟩;rw[show its.toArray.any (eqU x)=its.any (eqU x) by simp,vN r fs];exact q
def E2:OpR X (ZZ .NotIn) (rIn X.K true):=by
 intro FR s σ H x y v u Q I rx ry h;let⟨p,xs,rfl,hq,fx,fs,q⟩:=h;cases ry
 rcases hq with hq|hq
 ·let⟨its,r,pl,hz⟩:=I.list hq;refine SeqAt.notIn_listAt (eqU x) pl.isList (λw hw=>rJ rx fx r fs w (l_ hw)) ⟨.bl _,H,I,rfl,?_⟩;rw[show its.toArray.any (eqU x)=its.any (eqU x) by simp,vN r fs];exact q
 ·let⟨its,r,pl,hz⟩:=I.tuple hq;refine SeqAt.notIn_tupleAt (eqU x) pl (λw hw=>rJ rx fx r fs w (l_ hw)) ⟨.bl _,H,I,rfl,?_⟩;rw[show its.toArray.any (eqU x)=its.any (eqU x) by simp,vN r fs];exact q
def E3:eD X (.builtin "len") (λxs H Q=>∃p ys,xs=[.ref p]/\(SqL X.K H p ys\/SqT X.K H p ys)/\Q (.int ys.length) H):=by
 intro FR s σ H xs us Q I r h;let⟨p,ys,rfl,hq,q⟩:=h;let⟨u,rfl,rx⟩:=vals1 r;cases rx
 have hn:=uH;rcases hq with hq|hq
 ·let⟨its,r',pl,hz⟩:=I.list hq;have hlen:=r'.length;exact Calls.call_len_list pl.isList (by simp only[Zp] <;> omega) ⟨.int ys.length,H,I.tok _,⟨s.toks+1,by rw[Zp,hlen]⟩,q⟩
 ·let⟨its,r',pl,hz⟩:=I.tuple hq;have hlen:=r'.length;exact len_tuple pl (by simp only[Zp] <;> omega) ⟨.int ys.length,H,I.tok _,⟨s.toks+1,by rw[Zp,hlen]⟩,q⟩
theorem eD.or{r r':C_ V->Hp->VK->Prop}(h:eD X f r)(h':eD X f r'):eD X f (λxs H Q=>r xs H Q\/r' xs H Q):=by
 intro FR s σ H xs us Q I rs q;rcases q with q|q
 ·exact h FR s σ H xs us Q I rs q
 ·exact h' FR s σ H xs us Q I rs q
def E4:eD X (.type "list") (λxs H Q=>∃p ys,xs=[.ref p]/\(SqL X.K H p ys\/SqT X.K H p ys)/\∀l,H l=b_->Q (.ref l) (upd H l (.lst ys))):=by
 intro FR s σ H xs us Q I r h;let⟨p,ys,rfl,hq,q⟩:=h;let⟨u,rfl,rx⟩:=vals1 r;cases rx
 have fin:∀(its:C_ s_),bN ys its->ys.length<=Zq->∀(h':x_)(c':Nat),(∀b o',s.heap.get? b=a_ o'->h'.get? b=a_ o')->
   h'.get? (e_ s)=a_ {cls:=.type "list",dict:=b_,data:=.seq its.toArray c',slots:=#[]}->EP X FR σ Q (.ref (e_ s)) {s with heap:=h'}:=λits r' hz h' c' kp e=>
  ⟨.ref (e_ s),_,I.laid (t':=s.toks) kp (Zi _) (show eB X.prog X.w _ h' _ (.lst ys) from⟨hz,its,c',r',e⟩),rfl,q _ (I.hok.fresh (Zi _))⟩
 rcases hq with hq|hq
 ·let⟨its,r',pl,hz⟩:=I.list hq;have hlen:=r'.length;let⟨o,ho,hc,n,hd⟩:=pl.isList;exact call_list_seq p (.inl rfl) ho hc hd (λh' c' kp e=>fin its r' hz h' c' kp e) (by simp only[Zp] <;> omega)
 ·let⟨its,r',pl,hz⟩:=I.tuple hq;have hlen:=r'.length;let⟨o,ho,hc,n,hd⟩:=pl;exact call_list_seq p (.inr rfl) ho hc hd (λh' c' kp e=>fin its r' hz h' c' kp e) (by simp only[Zp] <;> omega)
def Cw:eD X (.type "tuple") (λxs H Q=>∃p ys,xs=[.ref p]/\((SqL X.K H p ys/\∀l,H l=b_->Q (.ref l) (upd H l (.tup ys)))\/(SqT X.K H p ys/\Q (.ref p) H))):=by
 intro FR s σ H xs us Q I r h;let⟨p,ys,rfl,h⟩:=h;let⟨u,rfl,rx⟩:=vals1 r;cases rx
 rcases h with⟨hq,q⟩|⟨hq,q⟩
 ·let⟨its,r',pl,hz⟩:=I.list hq;have hlen:=r'.length;refine call_tuple_list pl.isList (λh' kp=>?_) (by simp only[Zp] <;> omega);have I1:Inv X FR σ H {s with heap:=h'}:=I.kept (t':=s.toks) kp;have I2:Inv X FR σ (upd H h'.objs.size (.tup ys)) {s with heap:=h'.push {cls:=.type "tuple",data:=.seq its.toArray} }:=I1.laid (t':=s.toks) (λb o e=>Ze _ e) (Zi _) (show eB X.prog X.w _ _ _ (.tup ys) from⟨hz,its,r',Ak.new _ _⟩)
  exact⟨.ref h'.objs.size,_,I2,rfl,q _ (I1.hok.fresh (Zi _))⟩
 ·let⟨its,r',pl,hz⟩:=I.tuple hq;exact call_tuple_same pl ⟨.ref p,H,I,rfl,q⟩
def tyV(K:Zf)(T:String)(x:V)(H:Hp):Prop:=match x with
 |.str _=>T="str"
 |.int _=>T="int"
 | .ref p=>(T="list" /\ ∃ xs,SqL K H p xs)\/(T="tuple" /\ ∃ o,K.lookup p=a_ o/\o.cls=.type "tuple" /\ o.dict=b_)\/
   (T="dict" /\ ((∃kvs,H p=a_ (.dK kvs))\/∃kvs,H p=a_ (.dT kvs)))\/(T="set" /\ ∃S n,H p=a_ (.set S n))
 |_=>False
def Li{FR:g_ 0}{σ:St}{H:Hp}{s:t_}{T:String}{x:V}{v:s_}(I:Inv X FR σ H s)(r:RelV x v)(ty:tyV X.K T x H):
  s.TypeIs v T/\∀a,v=.ref a->∃ob,s.heap.get? a=a_ ob/\ob.dict=b_:=by
 cases x with
 |str z=>
  let⟨t,rfl⟩:=r;cases(show T="str" from ty)
  exact⟨typeIs_str s z t,λ_ e=>nomatch e⟩
 |int i=>
  let⟨t,rfl⟩:=r;cases(show T="int" from ty)
  exact⟨typeIs_int s i t,λ_ e=>nomatch e⟩
 |ref p=>
  cases r
  rcases ty with⟨rfl,xs,hq⟩|⟨rfl,o,hk,hc,hd⟩|⟨rfl,hk⟩|⟨rfl,S,n,hk⟩
  ·let⟨its,_,pl,_⟩:=I.list hq;refine⟨pl.isList.typeIs,λa e=>?_⟩;cases e
   let⟨o,n,e,c,hd,_⟩:=pl;exact⟨o,e,hd⟩
  ·refine⟨⟨o,I.kIn p o hk,hc⟩,λa e=>?_⟩;cases e
   exact⟨o,I.kIn _ o hk,hd⟩
  ·have z:∃o,s.heap.get? p=a_ o/\o.ExactDict:=by
    rcases hk with⟨kvs,hk⟩|⟨kvs,hk⟩
    ·let⟨_,_,_,_,o,_,_,e,ex,_⟩:=I.hok p _ hk;exact⟨o,e,ex⟩
    ·let⟨_,_,_,_,o,_,_,e,ex,_⟩:=I.hok p _ hk;exact⟨o,e,ex⟩
   let⟨o,e,ex⟩:=z;refine⟨⟨o,e,ex.1⟩,λa e2=>?_⟩;cases e2
   exact⟨o,e,ex.2.1⟩
  ·let⟨o,_,_,_,e,ex,_⟩:=I.hok p _ hk;refine⟨⟨o,e,ex.1⟩,λa e2=>?_⟩;cases e2
   exact⟨o,e,ex.2.1⟩
 |_=>exact y1a ty
def Wl(K:Zf)(T:String)(r:V->C_ V->Hp->VK->Prop)(to:TE):TE:=λσ H Q=>to σ H λx H1=>tyV K T x H1/\r x [] H1 Q
def tBM(K:Zf)(T:String)(r:V->C_ V->Hp->VK->Prop)(to:TE)(t:TA):TE:=λσ H Q=>to σ H λx H1=>tyV K T x H1/\t σ H1 λxs H2=>r x xs H2 Q
variable{o e:A_}{es:C_ A_}{to:TE}{t:TA}{name:Str}{apos cpos:Pos}{T id:String}{r:V->C_ V->Hp->VK->Prop}
def RP(pa:PlainAttrs T)(slot:Slot T name id)(d8:typeOf (.builtin id)=pure (.type "method_descriptor"))(hm:MtR X id r)(ho:PE X o to)
  (ak:y1c o name X.env (eval o X.env)=eval o X.env:=by rfl) (ao:(apos.endLine == cpos.line)=true:=by rfl):PE X (.Call (.Attribute o name apos) [] [] cpos) (Wl X.K T r to):=by
 intro FR s σ H Q I h;refine wpAny_Call_method0_late ak ao (thn (ho FR s σ H _ I h) λv s1 hz=>?_);let⟨x,H1,I1,r1,ty,q1⟩:=hz;let⟨h1,h2⟩:=Li I1 r1 ty;exact⟨T,id,pa,slot,d8,h1,h2,y2k rfl (PySem.evalArgs_none (hm FR s1 σ H1 x [] v [] Q I1 r1 .nil q1))⟩
def Uc(pa:PlainAttrs T)(slot:Slot T name id)(d8:typeOf (.builtin id)=pure (.type "method_descriptor"))(hm:MtR X id r)(ho:PE X o to)(ha:PA X (e::es) t)
  (ak:y1c o name X.env (eval o X.env)=eval o X.env:=by rfl)
  (fh:((backTo cpos (Zx (e::es) X.env)).all (λx=>!x.1)&&(backToKw cpos (keywordEach [] X.env)).all (λx=>x.1.isSome)
   && decide ((e::es).length+([]:C_ Keyword).length+(if([]:C_ Keyword).isEmpty then 0 else 1)<30))=true:=by rfl)
  (ao:(apos.endLine == cpos.line)=true:=by rfl) (hs:Zx (e::es) X.env=(false,eval e X.env)::Zx es X.env:=by rfl) (bo:(backTo cpos (Zx es X.env)).any (·.1)=false:=by rfl):
  PE X (.Call (.Attribute o name apos) (e::es) [] cpos) (tBM X.K T r to t):=by
 intro FR s σ H Q I h;refine wpAny_Call_method_late ak fh ao rfl (thn (ho FR s σ H _ I h) λv s1 hz=>?_);let⟨x,H1,I1,r1,ty,q1⟩:=hz;let⟨h1,h2⟩:=Li I1 r1 ty;refine⟨T,id,pa,slot,d8,h1,h2,?_⟩;have hA:=ha cpos FR s1 σ H1 _ I1 q1;rw[hs]at hA⊢;refine y2k (by show(false || (backTo cpos (Zx es X.env)).any (·.1))=false;rw[bo] <;> rfl) (Calls.evalArgs_plain ?_);exact thn hA λus s2 ⟨vs,H2,I2,r2,q2⟩=>hm FR s2 σ H2 x vs v us Q I2 r1 r2 q2
end
def MtM(X:Cx)(id:String)(r:V->C_ V->Hp->VK->Prop):Prop:=
 ∀(FR:g_ 0)(s:t_)(σ:St)(H:Hp)(x:V)(xs:C_ V)(v:s_)(us:C_ s_)(Q:VK),Inv X FR σ H s->RelV x v->bN xs us->r x xs H Q->
  wpAny (h_ X) X.A (call (.builtin id) (v::us)) (EP X FR σ Q) X.xe s
theorem bN.one:∀{x:V}{us:C_ s_},bN [x] us->∃u,us=[u]/\RelV x u
 |_,_,.cons r .nil=>⟨_,rfl,r⟩
theorem bN.zero:∀{us:C_ s_},bN [] us->us=[]
 |_,.nil=>rfl
section
variable{X:Cx}{FR:g_ 0}{σ:St}{H:Hp}{s:t_}{l b:u_}{xs ys zs:C_ V}
theorem Inv.lset{its its':C_ s_}{f:Array s_->Array s_}(I:Inv X FR σ H s)(hH:H l=a_ (.lst xs))(e:s.heap.get? l=a_ {cls:=.type "list",data:=.seq its.toArray n})(hf:f its.toArray=its'.toArray)(hv:bN ys its')(hz:ys.length<=Zq):
  Inv X FR σ (upd H l (.lst ys)) {s with heap:=s.heap.update l (ZT f),toks:=t'}:=by
 have q:=PySem.IsL.update e f;rw[hf]at q;refine I.write (x:=l) (e:=l) (by rw[hH];exact trivial) (.inl rfl) (λb' u hb hu=>(y0c s.heap (ZT f) (ZV hb)).trans hu) ⟨_,q⟩ ?_;exact⟨hz,its',_,hv,q⟩
theorem Inv.lnew{its:C_ s_}{t':Nat}(I:Inv X FR σ H s)(hv:bN ys its)(hz:ys.length<=Zq):
  Inv X FR σ (upd H (e_ s) (.lst ys)) {s with heap:=s.heap.push {cls:=.type "list",data:=.seq its.toArray},toks:=t'}:=
 I.laid (λ_ _ q=>Ze _ q) (Zi _) ⟨hz,its,0,hv,Zj _ rfl⟩
theorem Inv.fresh(I:Inv X FR σ H s):H (e_ s)=b_:=I.hok.fresh (Zi _)
theorem Inv.lstM(I:Inv X FR σ H s)(hH:H l=a_ (.lst xs)):xs.length<=Zq/\∃(its:C_ s_)(n:Nat),bN xs its/\xs.length=its.length/\s.heap.get? l=a_ {cls:=.type "list",data:=.seq its.toArray n}:=by let⟨z,its,n,r,e⟩:=I.hok l _ hH;exact⟨z,its,n,r,r.length,e⟩
end
section
variable{X:Cx}
def IK:V->C_ V->Hp->VK->Prop:=λx vs H Q=>∃l xs y,x=.ref l/\vs=[y]/\H l=a_ (.lst xs)/\xs.length<Zq/\Q .non (upd H l (.lst (xs++[y])))
def Dh:MtM X "list.append" IK:=by
 intro FR s σ H x vs v us Q I rx rv h;let⟨l,xs,y,rfl,rfl,hH,hz,q⟩:=h;cases rx
 let⟨u,rfl,ru⟩:=rv.one;let⟨z,its,n,r,hl,e⟩:=I.lstM hH;refine call_meets F.slot_list_append ⟨_,e,rfl⟩ F.entry_list_append (F.args_list_append_2 _ _) (PySem.list_append l its.toArray n u (by rw[Zp];omega)) ⟨e,?_⟩;refine⟨.non,_,I.lset (its':=its++[u]) hH e (by simp) (r.append (.cons ru .nil)) ?_,rfl,q⟩;rw[y0h,List.length_singleton];omega
def Lj:V->C_ V->Hp->VK->Prop:=λx vs H Q=>∃l xs,x=.ref l/\vs=[]/\H l=a_ (.lst xs)/\Q .non (upd H l (.lst []))
def Lk:MtM X "list.clear" Lj:=by
 intro FR s σ H x vs v us Q I rx rv h;let⟨l,xs,rfl,rfl,hH,q⟩:=h;cases rx
 have XR:=rv.zero;subst XR;let⟨z,its,n,r,hl,e⟩:=I.lstM hH;refine call_meets F.slot_list_clear ⟨_,e,rfl⟩ F.entry_list_clear (F.args_list_clear_1 _) (AutoSeq1.list_clear_list_0 l its.toArray n (by rw[Zp];omega)) ⟨e,?_⟩;exact⟨.non,_,I.lset (its':=[]) (ys:=[]) hH e rfl .nil (ZO _),rfl,q⟩
def Ud:R2:=λx y H Q=>∃l b xs zs,x=.ref l/\y=.ref b/\H l=a_ (.lst xs)/\H b=a_ (.lst zs)/\xs.length+zs.length<=Zq/\∀p,H p=b_->Q (.ref p) (upd H p (.lst (xs++zs)))
def RQ:OpR X (y0Q .Add) Ud:=by
 intro FR s σ H x y v u Q I rx ry h;let⟨l,b,xs,zs,rfl,rfl,hH,hB,hz,q⟩:=h;cases rx
 cases ry
 let⟨z,its,n,r,hl,e⟩:=I.lstM hH;let⟨z2,fc,n2,r2,fw,e2⟩:=I.lstM hB;refine PySem.P.add_list e e2 ?_ (by rw[Zp,Zp];omega);have ea:its.toArray++fc.toArray=(its++fc).toArray:=by simp
 rw[ea];exact⟨.ref _,_,I.lnew (t':=s.toks) (r.append r2) (by rw[y0h];omega),rfl,q _ I.fresh⟩
end
end L2
namespace Att
open PySem PySem.W PySem.Calls PyProof.Rows
def Al:∀(ns:C_ Int)(vs:C_ s_),WellAll P h vs (ns.map WData.int)->IntsAre vs ns:=by
 intro ns
 induction ns with
 |nil=>
  intro vs w;rw[List.map_nil]at w;cases w
  exact .nil
 |cons n ns ih=>
  intro vs w;rw[ZM]at w;cases w with
  |cons a b=>
   cases a
   exact .cons _ _ (ih _ b)
def JJ{l:OpenLaw}(hn:l.most=a_ n){h:x_}(ik:l.row.toRowW.claim.pre args=true)(vh:WellAll P h vals args):
  ∃a vs ns,vals=[ZC a]/\args=[WData.list (ns.map WData.int)]/\h.get? a=a_ {cls:=.type "list",data:=.seq vs.toArray}/\IntsAre vs ns/\ns.length<=n:=by
 have hsh:WShape.hasAll [] args [.list .int]=true:=(pre_splitW ik).1;have hc:l.pre.holds [] { args:=args}=true:=(pre_splitW ik).2;let⟨d,r,rfl,h1,h2⟩:=hasAllW_cons hsh;obtain rfl:=hasAllW_nil h2;let⟨xs,rfl,h3⟩:=hasW_list h1;let⟨ns,rfl⟩:=items_int h3;have hlen:ns.length<=n:=by
  unfold OpenLaw.pre at hc;have h4:(WTm.not (.lt (.lit (.int (n:Int))) (.len (.arg 0)))).holds [] { args:=[.list (ns.map .int)]}=true:=by have h4:=(holds_andW hc).1;rw[hn]at h4;exact h4
  have h5:=condW_of h4 (w_not (w_lt w_lit (w_len_list (w_arg rfl))));rw[Zg]at h5;refine Nat.le_of_not_lt λq=>?_;have q':(n:Int)<((ns.length:Nat):Int):=⋯
  first
   |(rw[decide_eq_true q']at h5;exact absurd h5 nofun)
   |(simp at h5;omega)
 cases vh with
 |cons w1 w2=>
  cases w2
  cases w1 with
  |list ho hall=>exact⟨_,_,ns,rfl,rfl,ho,Al ns _ hall,hlen⟩
def JK(l:OpenLaw)(args:C_ WData):l.row.toRowW.claim.post args (.bool true) args=true:=
 postW_of (r:=l.row.toRowW) (X:=(true == true))
  (show WShape.has [] (.bool true) .bool=true by first|rfl|decide|simp[WShape.has,WShape.arms,WShape.armsAll])
  (show(WTm.eq .res (.lit (.bool true))).value [] { args:=args,res:=a_ (.bool true),after:=args}=a_ (.bool (true == true)) from w_eq_bool (w_res rfl) w_lit) rfl
def attach_call{l:OpenLaw}{XP:(o_ 0)->x_->Prop}{YP:y_->x_->Prop}{d:DefRec}(hn:l.most=a_ n)(m8:d.params.defaults=[])(call:∀(w:y_)(s₀ s₁:t_)(mg mb:o_ 0)(fa:u_)(o:Obj)(pm cd doc:s_)(a:u_)(vs:C_ s_)(ns:C_ Int),
   Ground q loose [] XP w s₀ mg mb s₁.heap->YP w s₁.heap->
   s₁.heap.get? fa=a_ o->o.data=.func (docDef d.name d.params d.body d.scope pm cd doc)->s₁.heap.CodeRec cd d.name->mg d.name=c_ fa->
   s₁.heap.get? a=a_ {cls:=.type "list",data:=.seq vs.toArray}->IntsAre vs ns->ns.length<=n->s₁.gens=#[]->
   codeAny (model l.prog w) callerA (.call (.ref fa) ⟨[.ref a],[]⟩) (λr s'=>r=.ok (.ret (.bool true))/\OldK s₁.heap s'.heap/\s'.os=s₁.os/\AllBare s'.gens) s₁):
  WalkO q loose XP YP l.row.toRowW d [] (λf vs=>PySem.call f vs):=by
 intro w s₀ s₁ mg mb G Y fa o pm cd doc dV kV ho hd dv hD hmg hg args vals as ik hlay hrd vh hlo;obtain rfl:dV=.none:=Dflts.none hD m8;obtain rfl:kV=.none:=Dflts.noKw hD;let⟨a,vs,ns,rfl,rfl,j5,hints,hlen⟩:=JJ hn ik vh;refine enter_call (y2Z (call w s₀ s₁ mg mb fa o pm cd doc a vs ns G Y ho (fd_plain hd) dv hmg j5 hints hlen hg) λr s' hq=>?_);let⟨rfl,h2,h3,h4⟩:=hq;exact⟨.inl ⟨.bool true,.bool true,[],rfl,λ_=>rfl,.bool true,JK l _,λ_=>⟨y1y,λ_ hm=>(nomatch hm)⟩⟩,h2,h3,h4⟩
end Att
namespace L2
theorem Di:∀{vs:C_ s_}{ns:C_ Int},IntsAre vs ns->bN (ns.map V.int) vs
 |_,_,.nil=>.nil
 |_,_,.cons n t h=>.cons ⟨t,rfl⟩ (Di h)
def Ll(H:Hp):Prop:=∀b,H b=b_\/∃o xs,H b=a_ (.frz o (.lst xs))
def Lm{K:Zf}{mg mb:o_ 0}{s₁:t_}{vs:C_ s_}{ns:C_ Int}(KX:K.In s₁.heap)(yh:s₁.heap.Ns y0t mg)(hb:s₁.heap.Ns builtinsNs mb)(hbb:∀x:Str,x≠"__name__" -> mb x=y1t x)(tf:s₁.heap.NoLimit)(hg:s₁.gens=#[])(ha:s₁.heap.get? a=a_ {cls:=.type "list",data:=.seq vs.toArray})(hi:IntsAre vs ns)(hl:ns.length<=Zq)(hr:iW k callerA)(F:∀base:x_,K.In base->base.Ns y0t mg->bR P w K mg base CX k fa fd [x] sp)(qj:∀(s:t_)(u:s_),BindsTo s fd ⟨[u],[]⟩ [(x,u)])(ix:∀H:Hp,Ll H->SqL K H a (ns.map V.int)->sp [.ref a] H (λv _=>v=.bl true) λ_ _ _=>False)(ua:∀H e s',CX [] H s₁ (λ_ _ _=>False) e s'->False):
  codeAny (model P w) callerA (.call (.ref fa) ⟨[.ref a],[]⟩) (λr s'=>r=.ok (.ret (.bool true))/\OldK s₁.heap s'.heap/\s'.os=s₁.os/\AllBare s'.gens) s₁:=by
 have rv:=Di hi;have xh:=hi.length
 -- from an abstract heap in which nothing but the script may be tracked
 have core:∀H:Hp,Ll H->SqL K H a (ns.map V.int)->HOk P w H s₁.heap->(∀b,H b≠b_->b=a)->(H a≠b_->K.lookup a=b_)->
   codeAny (model P w) callerA (.call (.ref fa) ⟨[.ref a],[]⟩) (λr s'=>r=.ok (.ret (.bool true))/\OldK s₁.heap s'.heap/\s'.os=s₁.os/\AllBare s'.gens) s₁:=by
  intro H hO hS hok hA hK;have dr:∀{b:u_}{o:Obj},s₁.heap.get? b=a_ o->H b=b_->(DX s₁.heap H).get? b=a_ o:=λe n=>KY e n;have qd:∀{b:u_}{o:Obj}{es:Array y1q}{ep:Nat},s₁.heap.get? b=a_ o->o.data=.dict es ep->H b=b_:=λ{b o es ep} e d=>by
   cases q:H b with
   |none=>rfl
   |some u=>have e':b=a:=hA b (by rw[q];simp);subst e';rw[ha]at e;cases e;have d':Data.seq vs.toArray _=Data.dict es ep:=d;cases d'
  have qp:∀{b:u_}{m:o_ 0},s₁.heap.Ns b m->(DX s₁.heap H).Ns b m:=λ{b m} ⟨o,es,ep,e,d,r⟩=>⟨o,es,ep,dr e (qd e d),d,r⟩;have zr:K.In (DX s₁.heap H):=λb o e=>dr (KX b o e) (by
   cases q:H b with
   |none=>rfl
   |some u=>have e':b=a:=hA b (by rw[q];simp);subst e';rw[hK (by rw[q];simp)]at e;cases e)
  have hM:Mod K mg (DX s₁.heap H):=⟨zr,qp yh,⟨mb,qp hb,hbb⟩,let ⟨mc,h1,h2⟩:=tf;⟨mc,qp h1,h2⟩⟩;have e0:Cu P w K mg (DX s₁.heap H) callerA [] s₁ H:=⟨rfl,hM,λb o e=>Ox e,Nat.le_of_eq (JA _ _),trivial,λb hb=>absurd (show b∈([]:C_ u_) from hb) (by simp),hok,.of_eq hg⟩
  refine y2Z ((F _ zr (qp yh)).run callerA [] s₁ H ⟨[.ref a],[]⟩ [.ref a] [.ref a] _ _ hr e0 (qj s₁ (.ref a)) (.cons rfl .nil) (ix H hO hS)) λr s' h=>?_;cases r with
  |error e=>exact(ua H e s' h).elim
  |ok fl=>
   cases fl with
   |next=>exact y1a h
   |brk=>exact y1a h
   |cont=>exact y1a h
   |ret u=>
    let⟨v,H',os,bare,un,ti,r',q⟩:=h;have q':v=.bl true:=q;subst q';obtain rfl:u=Value.bool true:=r';refine⟨rfl,OldK.of_keep λb o e=>?_,os,bare⟩;cases q:H b with
    |none=>exact un.keep b o e q (by intro z;exact absurd (show b∈([]:C_ u_) from z) (by simp)) (by simp)
    |some u=>
     rcases hO b with z|⟨ob,xs,z⟩
     ·rw[q]at z;cases z
     ·have z2:=un.frzs b ob _ z;let⟨e1,_⟩:=hok b _ z;let⟨e2,_⟩:=ti b _ z2;rw[e]at e1;cases e1;exact e2
 cases hk:K.lookup a with
 |some o=>
  -- the script is one of the module's own objects
  have e:=KX a o hk;rw[ha]at e;cases e
  refine core (λ_=>b_) (λ_=>.inl rfl) (.inr ⟨_,vs.toArray,_,hk,rfl,rfl,rfl,by rw[Zp,xh];exact hl,l_ rv⟩) (λb u z=>by have z':(b_:D_ HO)=a_ u:=z;cases z') (λb z=>absurd rfl z) λz=>absurd rfl z
 |none=>
  refine core (λb=>if b=a then a_ (.frz {cls:=.type "list",data:=.seq vs.toArray} (.lst (ns.map V.int))) else b_) (λb=>?_) (.inl (.inr ⟨{cls:=.type "list",data:=.seq vs.toArray},if_pos rfl⟩)) (λb u z=>?_) (λb z=>?_) λ_=>hk
  ·by_cases hb:b=a
   ·exact .inr ⟨_,_,if_pos hb⟩
   ·exact .inl (if_neg hb)
  ·by_cases hb:b=a
   ·have z':=(if_pos hb).symm.trans z;cases z'
    subst hb;exact⟨ha,by rw[Zg];exact hl,vs,_,rv,ha⟩
   ·have z':=(if_neg hb).symm.trans z;cases z'
  ·by_cases hb:b=a
   ·exact hb
   ·exact absurd (if_neg hb) z
def walk_of{l:PySem.W.OpenLaw}{XP:(o_ 0)->x_->Prop}{YP:y_->x_->Prop}{d:DefRec}{K:Params->Zf}{CX:y_->CXT}{sp:y_->Sp}(hn:l.most=a_ n)(r9:n<=Zq)(m8:d.params.defaults=[])(hr:iW k callerA)(hY:∀(w:y_)(h:x_),YP w h->(K w.params).In h)(F:∀(w:y_)(mg:o_ 0)(fa:u_)(h:x_),(K w.params).In h->h.Ns y0t mg->mg d.name=c_ fa->
   ∃fd:ZL,(∀(s:t_)(u:s_),BindsTo s fd ⟨[u],[]⟩ [(x,u)])/\
    ∀base:x_,(K w.params).In base->base.Ns y0t mg->bR l.prog w (K w.params) mg base (CX w) k fa fd [x] (sp w))(ix:∀(w:y_)(H:Hp)(a:u_)(ns:C_ Int),ns.length<=n->Ll H->SqL (K w.params) H a (ns.map V.int)->sp w [.ref a] H (λv _=>v=.bl true) λ_ _ _=>False)(ua:∀(w:y_)(H:Hp)(s:t_)(e:s_)(s':t_),CX w [] H s (λ_ _ _=>False) e s'->False):
  PySem.W.WalkO q loose XP YP l.row.toRowW d [] (λf vs=>PySem.call f vs):=by
 refine Att.attach_call hn m8 λw s₀ s₁ mg mb fa o pm cd doc a vs ns G Y ho hd dv hmg j5 hints hlen hg=>?_;have KX:=hY w _ Y;let⟨fd,hb,hF⟩:=F w mg fa _ KX G.T.g hmg;exact Lm KX G.T.g G.T.b G.T.builtins G.T.nolimit hg j5 hints (y0e hlen r9) hr hF hb (λH hO hS=>ix w H a ns hlen hO hS) λH e s'=>ua w H s₁ e s'
def inClass(s:B_)(j:Nat):B_:=match s with
 |.ClassDef _ _ _ body _ _ _ _ _ _ _=>body.getD j (.Pass ⟨0,0,0,0⟩)
 |_=>.Pass ⟨0,0,0,0⟩
def iC(s:B_):Arguments:=match s with
 |.FunctionDef _ a _ _ _ _ _ _ _ _=>a
 |_=>{ posonlyargs:=[],args:=[],vararg:=b_,kwonlyargs:=[],kw_defaults:=[],kwarg:=b_,defaults:=[]}
def fU(s:B_):C_ B_:=match s with
 |.FunctionDef _ _ b _ _ _ _ _ _ _=>b
 |_=>[]
def aK(s:B_):Scope:=match s with
 |.FunctionDef _ _ _ _ _ _ sc _ _ _=>sc
 |_=>{ kind:=.function,names:=[],isGenerator:=false,isCoroutine:=false}
abbrev CX0:CXT:=λ_ _ _ _ _ _=>False
abbrev E0:XK:=λ_ _ _=>False
def IL:AS CX0 X E0:=λ_ _ _ _ _ _ _ h=>h.elim
structure Fun(K:Zf)(x qual:Str)(st:B_)(f:u_)(fd:ZL):Prop where
 ex:∃(oc:s_)(od:D_ u_)(kV doc pm:s_)(an:D_ u_)(cdv ct:s_)(osl:n_ 0),
  fd=y08 x qual (iC st) (fU st) (aK st) .none kV doc pm an cdv ct/\K.lookup f=some ⟨oc,od,.func fd,osl⟩/\y2O K cdv qual=true
 kp:y0G K (.ref f)=true
section
variable{P:z_}{w:y_}{K:Zf}{mg:o_ 0}{base:x_}
theorem Fun.ok{x qual:Str}{st:B_}{f:u_}{fd:ZL}{N ps:C_ Str}{k:Nat}{sp:Sp}(F:Fun K x qual st f fd)(S:bF N ps (aK st))(len:∀vs H Q E,sp vs H Q E->vs.length=ps.length)
  (fe:∀(cdv:s_)(A:w_)(outer:C_ Env)(s:t_)(H:Hp)(vs:C_ V)(Q:VK)(E:XK),iW k (A.deeper (envOfC qual (aK st) (e_ s) f cdv))->sp vs H Q E->
   ∃t,PSs (Hj CX0 P w K mg base N qual (aK st) f cdv A outer s H E).nox (fU st) t/\t { nx:=λ_ H'=>Q .non H',rt:=Q} (start N vs) H):bR P w K mg base CX0 (k+1) f fd ps sp:=by
 let⟨oc,od,kV,doc,pm,an,cdv,ct,osl,rfl,lk,dv⟩:=F.ex;refine U8 lk dv S len λA outer s H vs Q E hr ix=>?_;let⟨t,h,q⟩:=fe cdv A outer s H vs Q E hr ix;exact⟨t,h.nox,q⟩
theorem Fun.binds{x qual:Str}{st:B_}{f:u_}{fd:ZL}{ps:C_ Str}(F:Fun K x qual st f fd)
  (h:∀(kV doc pm:s_)(an:D_ u_)(cdv ct:s_)(us:C_ s_),us.length=ps.length->bindArgs (y08 x qual (iC st) (fU st) (aK st) .none kV doc pm an cdv ct) ⟨us,[]⟩=pure (ps.zip us)):Binds K fd ps []:=by
 let⟨oc,od,kV,doc,pm,an,cdv,ct,osl,rfl,lk,dv⟩:=F.ex;exact .all (h kV doc pm an cdv ct)
def AW{x qual:Str}{st:B_}{f:u_}{oc:s_}{od an:D_ u_}{osl:n_ 0}{kV doc pm cdv ct:s_}(l:K.lookup f=a_ ⟨oc,od,.func (y08 x qual (iC st) (fU st) (aK st) .none kV doc pm an cdv ct),osl⟩)
  (c:y2O K cdv qual=true) (k:y0G K (.ref f)=true):Fun K x qual st f (y08 x qual (iC st) (fU st) (aK st) .none kV doc pm an cdv ct):=⟨⟨oc,od,kV,doc,pm,an,cdv,ct,osl,rfl,l,c⟩,k⟩
end
def Ue{A:w_}(hr:iW k A):A.units+1<cLine:=Nat.lt_of_le_of_lt (Nat.add_le_add_left (by decide:1<=64) _) hr.units
def JL{A B:Prop}(h:B):if false=true then A else B:=by rw[if_neg Zv];exact h
def JM{A B:Prop}(h:A):if true=true then A else B:=by rw[if_pos rfl];exact h
def AX(H H':Hp):Prop:=∀b o,H b=a_ o->H' b=a_ o
section
variable{κ:Type}[DecidableEq κ]
def oC(kvs:C_ (κ×V))(k:κ):D_ V:=(kvs.find? λkv=>decide (kv.1=k)).map (·.2)
def putK(kvs:C_ (κ×V))(k:κ)(v:V):C_ (κ×V):=if(kvs.any λkv=>decide (kv.1=k))=true then kvs.map (λkv=>if kv.1=k then(kv.1,v) else kv) else kvs++[(k,v)]
def vO{p:κ×V}{r:C_ (κ×V)}{k:κ}(e:p.1=k):oC (p::r) k=a_ p.2:=by simp[oC,y1D,e]
def vP{p:κ×V}{r:C_ (κ×V)}{k:κ}(e:¬ p.1=k):oC (p::r) k=oC r k:=by simp[oC,y1D,e]
theorem AY(k:κ):∀kvs:C_ (κ×V),(kvs.any λkv=>decide (kv.1=k))=(oC kvs k).isSome
 |[]=>rfl
 |p::r=>by
  rw[y2a];by_cases e:p.1=k
  ·simp only[vO e,decide_eq_true e,Bool.true_or,Option.isSome_some]
  ·rw[vP e,decide_eq_false e,Bool.false_or];exact AY k r
def rK(kvs:C_ (κ×V))(k:κ)(v:V):(putK kvs k v).length<=kvs.length+1:=by
 unfold putK;split
 ·rw[Zg];omega
 ·rw[y0h,ZY,List.length_nil];omega
theorem tX.isSome_eq{o:D_ V}{u:D_ s_}(r:tX o u):o.isSome=u.isSome:=by
 cases o with
 |none=>cases u with
  |none=>rfl
  |some _=>exact(show False from r).elim
 |some _=>cases u with
  |none=>exact(show False from r).elim
  |some _=>rfl
theorem KV.val{kvs:C_ (κ×V)}{vs:C_ (κ×s_)}(r:KV kvs vs)(k:κ):tX (oC kvs k) (valueAt vs k):=by
 unfold KV at r
 induction r with
 |nil=>exact y00
 | @cons p q ps qs h t ih=>
  let⟨h1,h2⟩:=h;by_cases e:p.1=k
  ·have e':q.1=k:=h1.symm.trans e;have b:valueAt (q::qs) k=a_ q.2:=by simp[valueAt,y1D,e']
   rw[vO e,b];exact h2
  ·have e':¬ q.1=k:=λz=>e (h1.trans z);have b:valueAt (q::qs) k=valueAt qs k:=by simp[valueAt,y1D,e']
   rw[vP e,b];exact ih
theorem KV.any{kvs:C_ (κ×V)}{vs:C_ (κ×s_)}(r:KV kvs vs)(k:κ):(kvs.any λkv=>decide (kv.1=k))=vs.any λkv=>decide (kv.1=k):=by
 unfold KV at r
 induction r with
 |nil=>rfl
 |cons h t ih=>rw[y2a,y2a,ih,h.1]
theorem KV.repl{kvs:C_ (κ×V)}{vs:C_ (κ×s_)}(r:KV kvs vs)(k:κ)(ry:RelV y u):
  KV (kvs.map λkv=>if kv.1=k then(kv.1,y) else kv) (vs.map λkv=>if kv.1=k then(kv.1,u) else kv):=by
 unfold KV at r⊢
 induction r with
 |nil=>exact .nil
 | @cons p q ps qs h t ih=>
  rw[ZM,ZM];refine .cons ?_ ih;let⟨h1,h2⟩:=h;by_cases e:p.1=k
  ·rw[if_pos e,if_pos (h1.symm.trans e)];exact⟨h1,ry⟩
  ·rw[if_neg e,if_neg (λz=>e (h1.trans z))];exact⟨h1,h2⟩
theorem KV.put(r:KV kvs vs)(k:κ)(ry:RelV y u):KV (putK kvs k y) (stored vs k u):=by
 unfold putK stored;rw[r.any k];by_cases e:(vs.any λkv=>decide (kv.1=k))=true
 ·rw[if_pos e,if_pos e];exact r.repl k ry
 ·rw[if_neg e,if_neg e];exact Paired.snoc r ⟨rfl,ry⟩
theorem KV.length{kvs:C_ (κ×V)}{vs:C_ (κ×s_)}(r:KV kvs vs):kvs.length=vs.length:=Z0 r
end
def Dj(r:RelV (kV k) u):(fC P w).is k u=true:=by
 cases k with
 |inl i=>let⟨t,e⟩:=(show ∃t,u=y10 i t from r);subst e;exact Fk P w i t
 |inr x=>let⟨t,e⟩:=(show ∃t,u=y0Y x t from r);subst e;exact Fm P w x t
theorem Dk:∀{ks:C_ Key}{us:C_ s_},bN (ks.map kV) us->ItemsAre (fC P w) ks us
 |[],_,r=>by rw[List.map_nil]at r;cases r;exact .nil
 |k::ks,_,r=>by
  rw[ZM]at r;cases r with
  |cons h t=>exact .cons (Dj h) (Dk t)
abbrev KT(H:Hp):C_ (C_ Key×V)->C_ (C_ Key×u_×s_)->Prop:=Paired λp q=>p.1=q.1/\H q.2.1=a_ (.tup (p.1.map kV))/\RelV p.2 q.2.2
theorem KT.val{H:Hp}{kvs:C_ (C_ Key×V)}{xs:C_ (C_ Key×u_×s_)}(r:KT H kvs xs)(k:C_ Key):tX (oC kvs k) ((atKey xs k).map (·.2)):=by
 induction r with
 |nil=>exact y00
 | @cons p q ps qs h t ih=>
  let⟨h1,_,h2⟩:=h;by_cases e:p.1=k
  ·have e':q.1=k:=h1.symm.trans e;have b:atKey (q::qs) k=a_ q.2:=by simp[atKey,y1D,e']
   rw[vO e,b];exact h2
  ·have e':¬ q.1=k:=λz=>e (h1.trans z);have b:atKey (q::qs) k=atKey qs k:=by simp[atKey,y1D,e']
   rw[vP e,b];exact ih
theorem KT.repl{kvs:C_ (C_ Key×V)}{xs:C_ (C_ Key×u_×s_)}(r:KT H kvs xs)(k:C_ Key)(ry:RelV y u):
  KT H (kvs.map λkv=>if kv.1=k then(kv.1,y) else kv) (xs.map (putAt k u)):=by
 induction r with
 |nil=>exact .nil
 | @cons p q ps qs h t ih=>
  rw[ZM,ZM];refine .cons ?_ ih;let⟨h1,h2,h3⟩:=h;unfold putAt;by_cases e:p.1=k
  ·rw[if_pos e,if_pos (h1.symm.trans e)];exact⟨h1,h2,ry⟩
  ·rw[if_neg e,if_neg (λz=>e (h1.trans z))];exact⟨h1,h2,h3⟩
theorem KT.put(r:KT H kvs xs)(k:C_ Key)(hb:H b=a_ (.tup (k.map kV)))(ry:RelV y u):
  KT H (putK kvs k y) (storedH xs k b u):=by
 have e:(kvs.any λkv=>decide (kv.1=k))=(atKey xs k).isSome:=by rw[AY,(r.val k).isSome_eq,Option.isSome_map]
 unfold putK storedH;rw[e];by_cases q:(atKey xs k).isSome=true
 ·rw[if_pos q,if_pos q];exact r.repl k ry
 ·rw[if_neg q,if_neg q];exact Paired.snoc r ⟨rfl,hb,ry⟩
theorem KT.keeps{H H':Hp}{kvs:C_ (C_ Key×V)}{xs:C_ (C_ Key×u_×s_)}(r:KT H kvs xs)(ht:∀b ys,H b=a_ (.tup ys)->H' b=a_ (.tup ys)):KT H' kvs xs:=Paired.mapP r λ_ _ z=>⟨z.1,ht _ _ z.2.1,z.2.2⟩
section
variable{P:z_}{w:y_}{H:Hp}{h:x_}{a:u_}
def QN(ok:HOk P w H h)(e:Rd H a u):eB P w H h a u:=e.ok ok
def Dl{kvs:C_ (Key×V)}(ok:HOk P w H h)(e:Rd H a (.dK kvs)):kvs.length<=Zq/\(a == y0p)=false/\∃vs,KV kvs vs/\h.DictOf (fC P w) a vs:=show eB P w H h a (.dK kvs) from QN ok e
def Dm{kvs:C_ (Key×V)}(ok:HOk P w H h)(e:H a=a_ (.dK kvs)):kvs.length<=Zq/\(a == y0p)=false/\∃vs,KV kvs vs/\h.DictOf (fC P w) a vs:=Dl ok (.inl e)
def AZ{ks:C_ Key}(ok:HOk P w H h)(e:H a=a_ (.tup (ks.map kV))):(tupleKind (fC P w)).is h ks a:=by
 let⟨_,its,r,o,h1,h2,⟨n,h3⟩,_⟩:=(show eB P w H h a (.tup (ks.map kV)) from ok a _ e)
 exact⟨o,its.toArray,n,h1,h2,h3,by simpa using Dk r⟩
def Fw{kvs:C_ (C_ Key×V)}(ok:HOk P w H h)(e:Rd H a (.dT kvs)):kvs.length<=Zq/\(a == y0p)=false/\
  ∃xs,KT H kvs xs/\h.DictOfH (tupleKind (fC P w)) a xs:=by
 let⟨z,y,xs,r,o,es,ep,h1,h2,h3,h4,h5⟩:=(show eB P w H h a (.dT kvs) from QN ok e)
 refine⟨z,y,xs,r,o,es,ep,h1,h2,h3,h4,λx hx=>?_,h5⟩;have all:∀{l:C_ (C_ Key×V)}{m:C_ (C_ Key×u_×s_)},KT H l m->∀x∈m,(tupleKind (fC P w)).is h x.1 x.2.1:=by
  intro l m q
  induction q with
  |nil=>intro x hx;exact nomatch hx
  | @cons p q ps qs hq t ih=>
   intro x hx;rcases Zs.mp hx with e|hx
   ·subst e;exact AZ ok (by rw[<-hq.1];exact hq.2.1)
   ·exact ih x hx
 exact all r x hx
def Ug{kvs:C_ (C_ Key×V)}(ok:HOk P w H h)(e:H a=a_ (.dT kvs)):kvs.length<=Zq/\(a == y0p)=false/\
  ∃xs,KT H kvs xs/\h.DictOfH (tupleKind (fC P w)) a xs:=Fw ok (.inl e)
end
def yK(H:Hp)(a:u_)(y:V)(r:D_ V):Prop:=(∃kvs k,Rd H a (.dK kvs)/\y=kV k/\r=oC kvs k)\/∃kvs k b,Rd H a (.dT kvs)/\y=.ref b/\H b=a_ (.tup (k.map kV))/\r=oC kvs k
def RR(H:Hp)(a:u_)(y v:V)(H':Hp):Prop:=
 (∃kvs k,H a=a_ (.dK kvs)/\y=kV k/\kvs.length<Zq/\H'=upd H a (.dK (putK kvs k v)))\/
 ∃kvs k b,H a=a_ (.dT kvs)/\y=.ref b/\H b=a_ (.tup (k.map kV))/\kvs.length<Zq/\H'=upd H a (.dT (putK kvs k v))
theorem yK.k{H:Hp}{a:u_}{kvs:C_ (Key×V)}{k:Key}(e:H a=a_ (.dK kvs)):yK H a (kV k) (oC kvs k):=.inl ⟨kvs,k,.inl e,rfl,rfl⟩
theorem RR.k{H:Hp}{a:u_}{kvs:C_ (Key×V)}{k:Key}{v:V}(e:H a=a_ (.dK kvs))(hl:kvs.length<Zq):RR H a (kV k) v (upd H a (.dK (putK kvs k v))):=.inl ⟨kvs,k,e,rfl,hl,rfl⟩
section
variable{X:Cx}{FR:g_ 0}{σ:St}{H:Hp}{s:t_}{a:u_}{y v:V}{u r:s_}{o:D_ V}{A:w_}{E:f_ 0}
theorem Inv.big(I:Inv X FR σ H s):y0p<(e_ s):=by have h:y0t<(e_ s):=(I.mod.glob.keeps I.bk).lt;exact Nat.lt_trans nofun h
def JN{Q:f_ 0}(hu:A.units+1<cLine)(I:Inv X FR σ H s)(g:yK H a y (a_ v))(ry:RelV y u)(h:∀w' s',Inv X FR σ H s'->RelV v w'->Q w' s'):
  wpAny (h_ X) A (getItem (.ref a) u) Q E s:=by
 rcases g with⟨kvs,k,e,ey,l⟩|⟨kvs,k,b,e,ey,eb,l⟩
 ·subst ey;let⟨z,hd,vs,rel,dd⟩:=Dl I.hok e;let⟨w',hw,bu⟩:=tX.some_of (v:=v) (o:=valueAt vs k) (by rw[l];exact rel.val k);exact wpAny_getItem_of (Dj ry) dd.mapOf hw (h w' _ (I.tok _) bu)
 ·subst ey;cases(show u=ZC b from ry)
  let⟨z,hd,xs,rel,dd⟩:=Fw I.hok e;let⟨w',hw,bu⟩:=tX.some_of (v:=v) (o:=(atKey xs k).map (·.2)) (by rw[l];exact rel.val k);let⟨p,hp,t7⟩:=Zw.mp hw;refine wpAny_getItem_heap (tupleKind_room_in1 hu) (AZ I.hok eb) dd hp ?_;rw[t7];exact h w' _ (I.tok _) bu
def Wm{Q:f_ 0}(hu:A.units+1<cLine)(I:Inv X FR σ H s)(g:yK H a y o)(ry:RelV y u)(h:∀s',Inv X FR σ H s'->Q (.bool o.isSome) s'):
  wpAny (h_ X) A (ZZ .In u (.ref a)) Q E s:=by
 rcases g with⟨kvs,k,e,ey,l⟩|⟨kvs,k,b,e,ey,eb,l⟩
 ·subst ey;let⟨z,hd,vs,rel,dd⟩:=Dl I.hok e;refine wpAny_in_of (Dj ry) hd dd.mapOf ?_;rw[<-(rel.val k).isSome_eq,<-l];exact h _ (I.tok _)
 ·subst ey;cases(show u=ZC b from ry)
  let⟨z,hd,xs,rel,dd⟩:=Fw I.hok e;refine wpAny_in_heap (tupleKind_room_in1 hu) (AZ I.hok eb) hd dd ?_;have q:=(rel.val k).isSome_eq;rw[Option.isSome_map]at q;rw[<-q,<-l];exact h _ (I.tok _)
def OT{Q:f_ 0}(hu:A.units+1<cLine)(I:Inv X FR σ H s)(g:yK H a y o)(ry:RelV y u)(h:∀s',Inv X FR σ H s'->Q (.bool (!o.isSome)) s'):
  wpAny (h_ X) A (ZZ .NotIn u (.ref a)) Q E s:=by
 rcases g with⟨kvs,k,e,ey,l⟩|⟨kvs,k,b,e,ey,eb,l⟩
 ·subst ey;let⟨z,hd,vs,rel,dd⟩:=Dl I.hok e;refine wpAny_notIn_of (Dj ry) hd dd.mapOf ?_;rw[<-(rel.val k).isSome_eq,<-l];exact h _ (I.tok _)
 ·subst ey;cases(show u=ZC b from ry)
  let⟨z,hd,xs,rel,dd⟩:=Fw I.hok e;refine wpAny_notIn_heap (tupleKind_room_in1 hu) (AZ I.hok eb) hd dd ?_;have q:=(rel.val k).isSome_eq;rw[Option.isSome_map]at q;rw[<-q,<-l];exact h _ (I.tok _)
def tE{h':x_}(I:Inv X FR σ H s)(mu:Mut (H a))(hs:y0z a s.heap h')(he:∃q,h'.get? a=a_ q)(new:eB X.prog X.w (upd H a ob) h' a ob):
  Inv X FR σ (upd H a ob) {s with heap:=h',toks:=t'}:=
 I.write (x:=a) (e:=a) mu (.inl rfl) (λb q hb z=>(hs.2 b hb).trans z) he new
def Ln{h':x_}{kvs:C_ (Key×V)}(z:kvs.length<=Zq)(hd:(a == y0p)=false)(rel:KV kvs vs)(dd:h'.DictOf (fC P w) a vs):
  eB P w H' h' a (.dK kvs):=⟨z,hd,vs,rel,dd⟩
def JO{Q:j_ Unit}(hu:A.units+1<cLine)(I:Inv X FR σ H s)(g:RR H a y v H')(ry:RelV y u)(rv:RelV v r)(h:∀s',Inv X FR σ H' s'->Q () s'):
  wpAny (h_ X) A (setItem (.ref a) u r) Q E s:=by
 rcases g with⟨kvs,k,e,ey,l,eH⟩|⟨kvs,k,b,e,ey,eb,l,eH⟩
 ·subst ey eH;let⟨z,hd,vs,rel,dd⟩:=Dm I.hok e;have hz:vs.length<=Zq:=by rw[<-rel.length];exact z
  have hl:(putK kvs k v).length<=Zq:=by have:=rK kvs k v;omega
  refine wpAny_setItem_pairs (hsz:=hz) (Dj ry) dd λh' dw hs=>h _ ?_;have he:∃q,h'.get? a=a_ q:=let ⟨q,_,_,hq,_⟩:=dw;⟨q,hq⟩;exact tE I (by rw[e];exact y00) hs he (Ln hl hd (rel.put k rv) dw)
 ·subst ey eH;cases(show u=ZC b from ry)
  let⟨z,hd,xs,rel,dd⟩:=Ug I.hok e;have hz:xs.length<=Zq:=by rw[<-Z0 rel];exact z
  have hl:(putK kvs k v).length<=Zq:=by have:=rK kvs k v;omega
  refine wpAny_setItem_heap (hsz:=hz) (tupleKind_room_in1 hu) (AZ I.hok eb) dd λh' dw hs=>h _ ?_;let⟨q,es,ep,hq,h2,h3,h4,_,h5⟩:=dw;refine tE I (by rw[e];exact y00) hs ⟨q,hq⟩ ⟨hl,hd,_,(rel.put k eb rv).keeps λc ys ec=>?_,q,es,ep,hq,h2,h3,h4,h5⟩;rw[bE (TR ec e (λz=>nomatch z))];exact ec
end
section
variable{X:Cx}{FR:g_ 0}{σ:St}{H:Hp}{s:t_}{a:u_}{kvs:C_ (Key×V)}{k:Key}{u:s_}{A:w_}{E:f_ 0}
def Uh{Q:f_ 0}(I:Inv X FR σ H s)(e:Rd H a (.dK kvs))(h:∀t s',Inv X FR σ H s'->Q (.int kvs.length t) s'):wpAny (h_ X) A (call (.builtin "len") [.ref a]) Q E s:=by let⟨z,hd,vs,rel,dd⟩:=Dl I.hok e;refine call_len_dict hd dd (by rw[<-rel.length];rw[y0b]at z;omega) ?_;rw[<-rel.length];exact h _ _ (I.tok _)
end
def Fx{X:Cx}{FR:g_ 0}{σ:St}{H:Hp}{s:t_}{a:u_}{y:V}{o:D_ V}(I:Inv X FR σ H s)(g:yK H a y o):s.TypeIs (.ref a) "dict" := by
 rcases g with⟨kvs,k,e,_,_⟩|⟨kvs,k,b,e,_,_,_⟩
 ·let⟨_,_,vs,_,dd⟩:=Dl I.hok e;exact dd.typeIs
 ·let⟨_,_,xs,_,dd⟩:=Fw I.hok e;exact dd.typeIs
def Lo(h:x_)(hb:y0p<h.objs.size):eB P w H (h.push {cls:=.type "dict",data:=.dict #[]}) h.objs.size (.dK []):=⟨ZO _,beq_eq_false_iff_ne.mpr (ZV (Zt hb)),[],.nil,Heap.DictOf.new h⟩
def RS:TE:=λ_ H Q=>∀p,H p=b_->Q (.ref p) (upd H p (.dK []))
section
variable{X:Cx}{pos:Pos}
def Lp:PE X (.Dict [] [] pos) RS:=λFR s σ H Q I h=>wpAny_Dict_empty ⟨.ref (e_ s),_,I.laid (a:=(e_ s)) (o:=.dK []) (t':=s.toks) (λ_ _ q=>Ze _ q) (Zi _) (Lo s.heap I.big),rfl,h _ (I.hok.fresh (Zi _))⟩
end
structure M1(X:Cx)(o:A_)(m:Str)(apos:Pos)(e:A_)(cpos:Pos):Prop where
 base:y1c o m X.env (eval o X.env)=eval o X.env
 few:((backTo cpos (Zx [e] X.env)).all (λx=>!x.1)&&(backToKw cpos (keywordEach [] X.env)).all (λx=>x.1.isSome)
  && decide (([e]:C_ A_).length+([]:C_ Keyword).length+(if([]:C_ Keyword).isEmpty then 0 else 1)<30))=true
 line:(apos.endLine == cpos.line)=true
 trees:backTo cpos (Zx [e] X.env)=[(false,eval e X.env)]
structure M2(X:Cx)(o:A_)(m:Str)(apos:Pos)(e f:A_)(cpos:Pos):Prop where
 base:y1c o m X.env (eval o X.env)=eval o X.env
 few:((backTo cpos (Zx [e,f] X.env)).all (λx=>!x.1)&&(backToKw cpos (keywordEach [] X.env)).all (λx=>x.1.isSome)
  && decide (([e,f]:C_ A_).length+([]:C_ Keyword).length+(if([]:C_ Keyword).isEmpty then 0 else 1)<30))=true
 line:(apos.endLine == cpos.line)=true
 trees:backTo cpos (Zx [e,f] X.env)=[(false,eval e X.env),(false,eval f X.env)]
section
variable{X:Cx}
def JP:eD X (.builtin "len") (λxs H Q=>∃a kvs,xs=[V.ref a]/\H a=a_ (.dK kvs)/\Q (.int kvs.length) H):=by
 intro FR s σ H xs us Q I r h;let⟨a,kvs,rfl,ha,q⟩:=h;let⟨u,rfl,ru⟩:=vals1 r;cases ru
 exact Uh I (.inl ha) λt s' I'=>⟨.int kvs.length,H,I',⟨t,rfl⟩,q⟩
end
section
variable{prog:z_}{w:y_}{A:w_}{R:j_ Result}{s:t_}
def IM(ifs:C_ A_)(env:Env):Sem Bool:=forIn ifs true λc r=>if r=true then do let ok <-isTrue c env (eval c env);pure (ForInStep.yield ok) else pure (ForInStep.yield r)
theorem E5{elt target iter:A_}{ifs:C_ A_}{scope:Scope}{pos:Pos}{it acc:s_}{env:Env}(I:j_ Nat)
  (turn:∀n s,I n s->m_ prog w A (pyNext it) (λr s₁=>match r with
   |none=>R (.ok .next) s₁
   | some v=>m_ prog w A (letOwnedTupleGo target it v) (fun _ zc=>m_ prog w A (assign target env v) (fun _ s₂=>
     m_ prog w A (IM ifs env) (λok s₃=>
      if ok=true then m_ prog w A (eval elt env) (λx s₄=>m_ prog w A (call (.builtin "list.append") [acc,x]) (λ_ s₅=>∃m,m<n/\I m s₅) (λ_ _=>False) s₄) (λ_ _=>False) s₃
      else ∃m,m<n/\I m s₃) (λ_ _=>False) s₂) (λ_ _=>False) zc) (λ_ _=>False) s₁) (λ_ _=>False) s)
  (n:Nat) (h:I n s):
  codeAny (model prog w) A (.compLoop (.ListComp elt [⟨target,iter,ifs,0⟩] scope pos) 0 it acc env) R s:=by
 refine codeAny_loop rfl I (λn s hI=>?_) n h
 show wpAny _ A ((compTurn (.ListComp elt [⟨target,iter,ifs,0⟩] scope pos) 0 it acc env).onRaise (λx=>do noteFrame x env;theTreesLotGoes x)) _ _ s
 refine wpAny_noted ?_;rw[compTurn_list];refine Zb (wpAny_standAt (Zb (y0I (turn n s hI) (λr s₁ h₁=>?_) λ_ _ h'=>h'.elim)));cases r with
 |none=>exact Zd h₁
 |some v=>
  refine Zb (y0I h₁ (λ_ zc YC=>?_) λ_ _ h'=>h'.elim);refine Zb (y0I YC (λ_ s₂ h₂=>Zb (y0I h₂ (λok s₃ h₃=>?_) λ_ _ h'=>h'.elim)) λ_ _ h'=>h'.elim);cases ok with
  |false=>exact Zd ⟨rfl,h₃⟩
  |true=>exact Zb (Zb (y0I h₃ (λx s₄ h₄=>Zb (y0I h₄ (λ_ s₅ h₅=>Zd (Zd ⟨rfl,h₅⟩)) λ_ _ h'=>h'.elim)) λ_ _ h'=>h'.elim))
end
def lT(cells:C_ (Str×u_)):C_ (Str×y2n)->C_ (Str×u_)->C_ (Str×u_)
 |[],cs=>cs
 |(n,k)::r,cs=>lT cells r (if(k == y0j)=true then(n,(cells.lookup n).getD 0)::cs else cs)
def Cy{scope:Scope}{env:Env}(h:∀y∈scope.names,y.2=y0j->∃c,env.cells.lookup y.1=a_ c):closureFor scope env=pure (lT env.cells scope.names []):=by
 have go:∀(names:C_ (Str×y2n))(cs:C_ (Str×u_)),(∀y∈names,y.2=y0j->∃c,env.cells.lookup y.1=a_ c)->
   (forIn names cs λ(x:Str×y2n)(r:C_ (Str×u_))=>match x with
    |(name,kind)=>if(kind == y0j)=true then(do let y <-cellOf env name;pure (ForInStep.yield ((name,y)::r))) else(pure (ForInStep.yield r):Sem _))=(pure (lT env.cells names cs):Sem _):=by
  intro names
  induction names with
  |nil=>intro cs _;rfl
  |cons y r ih=>
   intro cs hy
   let⟨n,k⟩:=y
   rw[List.forIn_cons]
   have zg:=λYX=>ih YX λy hm=>hy y (Zh _ hm)
   by_cases hk:(k == y0j)=true
   ·let⟨c,hc⟩:=hy (n,k) Zn (l_ hk)
    have e1:cellOf env n=pure c:=by unfold cellOf;rw[show env.cells.lookup n=a_ c from hc]
    have e2:lT env.cells ((n,k)::r) cs=lT env.cells r ((n,c)::cs):=by
     show lT env.cells r (if(k == y0j)=true then _ else _)=_
     rw[if_pos hk,show env.cells.lookup n=a_ c from hc];rfl
    rw[e2,<-zg ((n,c)::cs)]
    simp only[hk,if_true,e1,pure_bind]
   ·have e2:lT env.cells ((n,k)::r) cs=lT env.cells r cs:=by
     show lT env.cells r (if(k == y0j)=true then _ else _)=_
     rw[if_neg hk]
    rw[e2,<-zg cs]
    simp only[hk,if_false,pure_bind]
    try rfl
 have:=go scope.names [] h
 unfold closureFor
 simpa using this
theorem A0{cells:C_ (Str×u_)}{x:Str}{c:u_}:∀(names:C_ (Str×y2n))(cs:C_ (Str×u_)),(lT cells names cs).lookup x=a_ c->cs.lookup x=a_ c\/(∃y∈names,y.1=x/\y.2=y0j/\c=(cells.lookup x).getD 0)
 |[],_,h=>.inl h
 |(n,k)::r,cs,h=>by
  rcases A0 r _ h with h1|⟨y,hy,e⟩
  ·by_cases hk:(k == y0j)=true
   ·rw[if_pos hk]at h1;by_cases hx:x=n
    ·subst hx;simp only[ZH,beq_self_eq_true]at h1;exact .inr ⟨(x,k),Zn,rfl,l_ hk,(ZI h1).symm⟩
    ·have:(x == n)=false:=by simpa using hx
     simp only[ZH,this]at h1;exact .inl h1
   ·rw[if_neg hk]at h1;exact .inl h1
  ·exact .inr ⟨y,Zh _ hy,e⟩
theorem B0{cells:C_ (Str×u_)}{x:Str}:∀(names:C_ (Str×y2n))(cs:C_ (Str×u_)),((∃c,cs.lookup x=a_ c)\/∃y∈names,y.1=x/\y.2=y0j)->∃c,(lT cells names cs).lookup x=a_ c
 |[],_,h=>by
  rcases h with h|⟨y,hy,_⟩
  ·exact h
  ·cases hy
 |(n,k)::r,cs,h=>by
  refine B0 r _ ?_;rcases h with⟨c,h⟩|⟨y,hy,e1,e2⟩
  ·left;by_cases hk:(k == y0j)=true
   ·rw[if_pos hk];by_cases hx:x=n
    ·subst hx;simp[ZH]
    ·have:(x == n)=false:=by simpa using hx
     exact⟨c,by simp only[ZH,this];exact h⟩
   ·rw[if_neg hk];exact⟨c,h⟩
  ·rcases Zs.mp hy with rfl|hy
   ·left;have hk:(k == y0j)=true:=by simpa using e2
    rw[if_pos hk];have hx:n=x:=e1;subst hx;simp[ZH]
   ·exact .inr ⟨y,hy,e1,e2⟩
def uI(os:Scope)(oN:C_ Str)(sc:Scope)(N:C_ Str)(js:C_ (D_ Nat)):Bool:=
 (match sc.kind with|.function=>true|_=>false)&&sc.names.all (λy=>match y.2 with
  |.cell=>(match sc.names.lookup y.1 with|some .cell=>true|_=>false)
  |_=>true) &&
 sc.names.all (λy=>match y.2 with
  |.local=>(match sc.names.lookup y.1 with|some .local=>true|_=>false)
  |.free=>(match sc.names.lookup y.1,os.names.lookup y.1 with|some .free,a_ .cell=>true|some .free,a_ .free=>true|_,_=>false)
  |_=>true) &&
 js.length == N.length&&(js.zip N).all (λp=>match p.1 with
  |none=>true
  |some j=>(match oN[j]? with|some x=>decide (x=p.2)|none=>false)&&(match sc.names.lookup p.2 with|some .free=>true|_=>false))
structure RT(os:Scope)(oN:C_ Str)(sc:Scope)(N:C_ Str)(js:C_ (D_ Nat)):Prop where
 kind:sc.kind=.function
 own:∀y∈sc.names,y.2=.cell->sc.names.lookup y.1=some .cell
 nm:∀y∈sc.names,y.2=.local->sc.names.lookup y.1=some .local
 fr:∀y∈sc.names,y.2=.free->os.names.lookup y.1=some .cell\/os.names.lookup y.1=some .free
 len:js.length=N.length
 cap:∀(i j:Nat),js[i]?=some (some j)->∃x,N[i]?=some x/\oN[j]?=some x/\sc.names.lookup x=some .free
def JQ{os:Scope}{oN:C_ Str}{sc:Scope}{N:C_ Str}{js:C_ (D_ Nat)}(h:uI os oN sc N js=true):RT os oN sc N js:=by
 unfold uI at h;simp only[Z2]at h;let⟨⟨⟨⟨h1,h2⟩,h3⟩,h4⟩,h5⟩:=h;refine⟨?_,λy hy e=>?_,λy hy e=>?_,λy hy e=>?_,l_ h4,λi j e=>?_⟩
 ·cases hk:sc.kind <;> rw[hk]at h1 <;> first|rfl|exact absurd h1 Zv
 ·have:=Zy.mp h2 y hy;rw[e]at this;dsimp only at this;cases hl:sc.names.lookup y.1 with
  |none=>rw[hl]at this;exact absurd this Zv
  |some k=>cases k <;> rw[hl]at this <;> first|rfl|exact absurd this Zv
 ·have:=Zy.mp h3 y hy;rw[e]at this;dsimp only at this;cases hl:sc.names.lookup y.1 with
  |none=>rw[hl]at this;exact absurd this Zv
  |some k=>cases k <;> rw[hl]at this <;> first|rfl|exact absurd this Zv
 ·have:=Zy.mp h3 y hy;rw[e]at this;dsimp only at this;cases hl:sc.names.lookup y.1 with
  |none=>rw[hl]at this;exact absurd this Zv
  |some k=>
   rw[hl]at this;cases ho:os.names.lookup y.1 with
   |none=>rw[ho]at this;cases k <;> exact absurd this Zv
   |some k'=>rw[ho]at this;cases k <;> cases k' <;> first|exact .inl rfl|exact .inr rfl|exact absurd this Zv
 ·have hlen:js.length=N.length:=by simpa using h4
  let⟨hi,ej⟩:=Zc.mp e;have hN:i<N.length:=⋯;have hz:(js.zip N)[i]?=a_ (a_ j,N[i]):=by rw[List.getElem?_zip_eq_some];exact⟨e,by simp[hN]⟩
  have:=Zy.mp h5 _ (ZP hz);simp only[Z2]at this;let⟨t1,t2⟩:=this;refine⟨N[i],by simp[hN],?_,?_⟩
  ·cases ho:oN[j]? with
   |none=>rw[ho]at t1;exact absurd t1 Zv
   |some x=>rw[ho]at t1;rw[of_decide_eq_true t1]
  ·cases hl:sc.names.lookup N[i] with
   |none=>rw[hl]at t2;exact absurd t2 Zv
   |some k=>rw[hl]at t2;cases k <;> first|rfl|exact absurd t2 Zv
theorem fQ{κ:Type}{x:Str}{k:κ}:∀{l:C_ (Str×κ)},l.lookup x=a_ k->(x,k)∈l
 |[],h=>by simp at h
 |(n,v)::r,h=>by
  by_cases hx:x=n
  ·subst hx;simp only[ZH,beq_self_eq_true]at h;cases h
   exact Zn
  ·have:(x == n)=false:=by simpa using hx
   simp only[ZH,this]at h;exact Zh _ (fQ h)
theorem rN{sc:Scope}{env:Env}:∀{names:C_ (Str×y2n)}{x:Str}{k:y2n},(names.map λ(n,k)=>if(k == y0j&&env.scope.kind == .function&&env.kindOf n == a_ .cell) then(n,y23) else(n,k)).lookup x=a_ k->
  names.lookup x=a_ k\/(k=.cell/\names.lookup x=a_ .free)
 |[],_,_,h=>by simp at h
 |(n,q)::r,x,k,h=>by
  have ih:=@rN sc env r x k;by_cases hc:(q == y0j&&env.scope.kind == .function&&env.kindOf n == a_ .cell)=true
  ·simp only[ZM]at h;rw[if_pos hc]at h;have hq:q=.free:=by simp only[Z2]at hc;simpa using hc.1.1
   by_cases hx:x=n
   ·subst hx;simp only[ZH,beq_self_eq_true]at h⊢;exact .inr ⟨(ZI h).symm,by rw[hq]⟩
   ·have e:(x == n)=false:=by simpa using hx
    simp only[ZH,e]at h⊢;exact ih h
  ·simp only[ZM]at h;rw[if_neg hc]at h;by_cases hx:x=n
   ·subst hx;simp only[ZH,beq_self_eq_true]at h⊢;exact .inl h
   ·have e:(x == n)=false:=by simpa using hx
    simp only[ZH,e]at h⊢;exact ih h
theorem vQ{env:Env}:∀{names:C_ (Str×y2n)}{x:Str},names.lookup x=a_ .free->
  (names.map λ(n,k)=>if(k == y0j&&env.scope.kind == .function&&env.kindOf n == a_ .cell) then(n,y23) else(n,k)).lookup x=a_ .free\/
  (names.map λ(n,k)=>if(k == y0j&&env.scope.kind == .function&&env.kindOf n == a_ .cell) then(n,y23) else(n,k)).lookup x=a_ .cell
 |[],_,h=>by simp at h
 |(n,q)::r,x,h=>by
  have ih:=@vQ env r x;by_cases hc:(q == y0j&&env.scope.kind == .function&&env.kindOf n == a_ .cell)=true
  ·simp only[ZM];rw[if_pos hc];by_cases hx:x=n
   ·subst hx;simp only[ZH,beq_self_eq_true]
    first|exact .inr rfl|exact .inr trivial
   ·have e:(x == n)=false:=by simpa using hx
    simp only[ZH,e]at h⊢;exact ih h
  ·simp only[ZM];rw[if_neg hc];by_cases hx:x=n
   ·subst hx;simp only[ZH,beq_self_eq_true]at h⊢;exact .inl h
   ·have e:(x == n)=false:=by simpa using hx
    simp only[ZH,e]at h⊢;exact ih h
theorem cK:∀(names:C_ (Str×y2n))(n:Nat)(acc:C_ (Str×u_)),y0v n names acc=y0v n names []++acc
 |[],_,_=>rfl
 |(x,k)::r,n,acc=>by
  unfold y0v;split
  ·rw[cK r _ ((x,n)::acc),cK r _ [(x,n)],y0J];rfl
  ·exact cK r n acc
theorem oU{x:Str}{c:u_}:∀{names:C_ (Str×y2n)}{n:Nat},(x,c)∈y0v n names []->(x,y23)∈names
 |[],_,h=>by cases h
 |(y,k)::r,n,h=>by
  unfold y0v at h;split at h
  ·rename_i hk;rw[cK,ZQ]at h;rcases h with h|h
   ·exact Zh _ (oU h)
   ·have e:=ZN.mp h;have ex:x=y:=congrArg y0D e;have ek:k=.cell:=by simpa using hk
    rw[ex,ek];exact Zn
  ·exact Zh _ (oU h)
theorem A1{α:Type}{x:Str}{c:α}:∀{l:C_ (Str×α)},(x,c)∈l->∃d,l.lookup x=a_ d
 |(y,d)::r,h=>by
  by_cases e:x=y
  ·subst e;exact⟨d,by simp[ZH]⟩
  ·have z:(x == y)=false:=by simpa using e
   rcases Zs.mp h with q|q
   ·exact absurd (congrArg y0D q) e
   ·let⟨d',hd⟩:=A1 q;exact⟨d',by simp only[ZH,z];exact hd⟩
theorem jT{x:Str}:∀{names:C_ (Str×y2n)}{n:Nat},(x,y23)∈names->∃c,(y0v n names []).lookup x=a_ c
 |(y,k)::r,n,h=>by
  have go:∃c,(x,c)∈y0v n ((y,k)::r) []:=by
   rcases Zs.mp h with q|q
   ·have ex:x=y:=congrArg y0D q;have ek:k=.cell:=(congrArg Prod.snd q).symm;refine⟨n,?_⟩;unfold y0v;rw[if_pos (by rw[ek];rfl),cK,ex];exact Zo _ Zn
   ·unfold y0v;split
    ·let⟨c,hc⟩:=jT (n:=n+1) q;rw[cK];exact⟨c,Z5 _ (mem_of_lookup hc)⟩
    ·let⟨c,hc⟩:=jT (n:=n) q;exact⟨c,mem_of_lookup hc⟩
  let⟨c,hc⟩:=go;exact A1 hc
theorem vR{α:Type}{x:Str}:∀{l r:C_ (Str×α)},(l++r).lookup x=(l.lookup x).or (r.lookup x)
 |[],_=>by simp
 |(y,d)::l,r=>by
  have ih:=vR (x:=x) (l:=l) (r:=r);cases e:x == y with
  |true=>simp[ZH,e]
  |false=>simp only[y2T,ZH,e];exact ih
def yL{M:Model}{A:w_}{E:f_ 0}{s:t_}{scope:Scope}{globals:u_}{closure:C_ (Str×u_)}{qual:Str}{func:D_ u_}{code:s_}{outer:Env}{builtins:u_}{Q:j_ Env}
  (hQ:Q (newEnv scope (e_ s) globals (y0v (s.heap.objs.size+1) scope.names closure) qual func code (a_ outer) builtins) {s with heap:=pushCells (s.heap.push {cls:=.type "dict",data:=.dict #[]}) scope.names}):
  wpAny M A (newFunctionEnv scope globals closure [] qual func code (a_ outer) builtins) Q E s:=by
 simp only[newFunctionEnv,Option.isSome_some,if_true];refine Zb (wpAny_alloc ?_);refine Zb (wpAny_layCells _ (λname kind cells=>by cases hkc:kind == y23 <;> simp[hkc]) _ _ _ _ ?_);rw[show({s with heap:=s.heap.push {cls:=.type "dict",data:=.dict #[]} }:t_).heap.objs.size=(e_ s)+1 from y0m ..]
 rw[List.forIn_nil];exact Zb (Zd (Zd hQ))
def Cx.comp(X:Cx)(sc:Scope)(N:C_ Str)(C:u_)(fp:C_ u_)(s₀:t_)(H₀:Hp):Cx:=
 { X with N:=N,s₀:=s₀,H₀:=H₀,env:=compEnvC sc (y0v (C+1) sc.names (lT X.env.cells sc.names [])) C X.env,outer:=X.stack,ex:=fp,fn:=λx=>(match sc.names.lookup x with|some .cell=>true|_=>false),pn:=[],xe:=λ_ _=>False}
def Hn:St->Nat->D_ V
 |[],_=>b_
 |x::_,0=>x
 |_::r,n+1=>Hn r n
theorem B1:∀{σ:St}{i:Nat}{v:V},Hn σ i=a_ v->σ[i]?=a_ (a_ v)
 |[],_,_,h=>by cases h
 |x::_,0,v,h=>by have h':x=a_ v:=h;simp[h']
 |_::r,n+1,v,h=>by rw[y0K];exact B1 (σ:=r) (i:=n) h
def oV(js:C_ (D_ Nat))(σ:St):St:=js.map λo=>match o with
 |none=>b_
 |some j=>Hn σ j
def OU{js:C_ (D_ Nat)}{σ:St}{i:Nat}{v:V}(h:(oV js σ)[i]?=a_ (a_ v)):∃j,js[i]?=a_ (a_ j)/\σ[j]?=a_ (a_ v):=by
 unfold oV at h;rw[Zr]at h;cases e:js[i]? with
 |none=>rw[e]at h;cases h
 |some o=>
  rw[e]at h;cases o with
  |none=>cases h
  |some j=>exact⟨j,rfl,B1 (ZI h)⟩
def PTs(X:Cx)(ifs:C_ A_)(t:TT):Prop:=
 ∀(FR:g_ 0)(s:t_)(σ:St)(H:Hp)(Q:Bool->Hp->Prop),Inv X FR σ H s->t σ H Q->wpAny (h_ X) X.A (IM ifs X.env) (TP X FR σ Q) X.xe s
def Ui:TT:=λ_ H Q=>Q true H
def OV:PTs X [] Ui:=λ_ _ _ H _ I h=>wpAny_tests_nil ⟨H,I,h⟩
def OW(h:PT X c t):PTs X [c] t:=λFR s σ H Q I q=>wpAny_tests_one (h FR s σ H Q I q)
def QO(js:C_ (D_ Nat))(g:TG)(tt:TT)(te:TE)(σ:St)(acc:u_)(x:V)(H:Hp)(N:Hp->Prop):Prop:=g x (oV js σ) H λσ2 H4=>tt σ2 H4 λb H5=>if b=true then te σ2 H5 λv H6=>∃ys,H6 acc=a_ (.lst ys)/\ys.length<Zq/\N (upd H6 acc (.lst (ys++[v]))) else N H5
def IP(js:C_ (D_ Nat))(wi:TI)(g:TG)(tt:TT)(te:TE):TE:=λσ H Q=>wi σ H λJ H1=>∀acc,H1 acc=b_->
 ∃W:Nat->Nat->Hp->Prop,(∃m,W 0 m (upd H1 acc (.lst [])))/\∀i m H2,W i m H2->
  (J.stop i H2/\Q (.ref acc) H2)\/(J.go i H2/\∃N:Hp->Prop,(∀H',N H'->∃m',m'<m/\W (i+1) m' H')/\∀x H3,J.yld i H2 x H3->QO js g tt te σ acc x H3 N)
section
variable{X:Cx}{elt iter tg:A_}{ifs:C_ A_}{sc:Scope}{pos:Pos}{os:Scope}{oN N:C_ Str}{js:C_ (D_ Nat)}{wi:TI}{g:TG}{tt:TT}{te:TE}
structure Off(X:Cx)(FR:g_ 0)(H:Hp)(C:u_)(s:t_):Prop where
 ns:∃m,s.heap.Ns C m
 none:H C=none
 loc:C≠X.env.locals
 new:X.s₀.heap.objs.size<=C
 cells:∀x c,X.env.cells.lookup x=some c->c≠C
 FR:∀p∈X.pn++FR,p.1≠C
theorem Off.go{FR:g_ 0}{σ:St}{H:Hp}{C:u_}{s:t_}{h':x_}(o:Off X FR H C s)(I:Inv X FR σ H s)(hs:y0z C s.heap h'):Inv X FR σ H {s with heap:=h'}:=I.turned (t':=s.toks) (λb ob hb e=>(hs.2 b hb).trans e) o.none o.loc (.inr o.new) o.cells o.FR
def Dn{use:D_ (s_->Sem Unit)}{Q0:f_ 0}(hc:X.calm=true)(fg:X.env.scope=os)(gh:X.N=oN)(ok:uI os oN sc N js=true)(hi:PI X tg iter wi)
  (hg:∀C fp s₀ H₀,PG (X.comp sc N C fp s₀ H₀) tg g) (ht:∀C fp s₀ H₀,PTs (X.comp sc N C fp s₀ H₀) ifs tt) (he:∀C fp s₀ H₀,PE (X.comp sc N C fp s₀ H₀) elt te)
  {FR:g_ 0} {s:t_} {σ:St} {H:Hp} {Q:VK} (I:Inv X FR σ H s) (h:IP js wi g tt te σ H Q)
  (jx:∀acc C s6 H6,Inv X FR σ H6 s6->Off X FR H6 C s6->Q (.ref acc) H6->compPost (h_ X) X.A X.xe use Q0 (.ref acc) C (.ok .next) s6)
  (hs:∀x,y1w iter X.env x=pure x:=by intro _;rfl):
  wpAny (h_ X) X.A (comprehension (.ListComp elt [⟨tg,iter,ifs,0⟩] sc pos) sc X.env (firstIterPos [⟨tg,iter,ifs,0⟩] pos) (newList []) false (eval iter X.env) use) Q0 X.xe s:=by
 have S:=JQ ok;subst fg gh;have ny:∀y∈sc.names,y.2=y0j->∃c,X.env.cells.lookup y.1=a_ c:=λy hy e=>I.ok.has y.1 (S.fr y hy e);have i6:∀x c,(lT X.env.cells sc.names []).lookup x=a_ c->X.env.cells.lookup x=a_ c:=λx c e=>by
  rcases A0 _ _ e with z|⟨y,hy,e1,e2,e3⟩
  ·cases z
  ·let⟨d,hd⟩:=ny y hy e2;rw[e1]at hd;rw[hd]at e3;rw[hd,e3];rfl
 refine wpAny_comprehension_free (use:=use) rfl hs (Cy ny) S.kind S.nm (thn (hi FR s σ H _ I h) λv s1 h1=>thn h1 λu1 s2 h2=>?_);let⟨it,fp,tn,J,H2,e,I2,T,ku,f2,q⟩:=h2;subst e;let⟨W,⟨m0,w0⟩,turn⟩:=q (e_ s2) I2.fresh;refine ZJ (yL ?_);have I3:Inv X FR σ (upd H2 (e_ s2) (.lst [])) {s2 with heap:=s2.heap.push {cls:=.type "list",data:=.seq ([]:C_ s_).toArray},toks:=s2.toks}:=I2.lnew (its:=[]) (ys:=[]) .nil (ZO _);generalize XD:upd H2 (e_ s2) (HO.lst [])=H3 at w0 I3;generalize Yn:({s2 with heap:=s2.heap.push {cls:=.type "list",data:=.seq ([]:C_ s_).toArray},toks:=s2.toks}:t_)=s3 at I3;have es3:({s2 with heap:=s2.heap.push {cls:=.type "list",dict:=b_,data:=.seq ([]:C_ s_).toArray} }:t_)=s3:=Yn;have zi:s2.heap.push {cls:=.type "list",dict:=b_,data:=.seq ([]:C_ s_).toArray}=s3.heap:=by rw[<-es3]
 (try rw[zi])
 have hC:∀b o,s3.heap.get? b=a_ o->b≠(e_ s3):=λb o e=>Zt (Zl e);have old:∀b o,s3.heap.get? b=a_ o->(pushCells (s3.heap.push {cls:=.type "dict",data:=.dict #[]}) sc.names).get? b=a_ o:=λb o e=>pushCells_keeps _ _ b o (Ze _ e);have mw:(pushCells (s3.heap.push {cls:=.type "dict",data:=.dict #[]}) sc.names).Ns (e_ s3) (λ_=>b_):=(Heap.Ns.new s3.heap (.type "dict")).keeps (pushCells_keeps _ _);have nk:=cellsFrom_ok sc.names (s3.heap.push {cls:=.type "dict",data:=.dict #[]}) (s3.heap.objs.size+1) [] ⟨λ_ _ hm=>(nomatch hm),y1y⟩ (by rw[y0m];exact Zi _);rw[y0m]at nk;generalize pushCells (s3.heap.push {cls:=.type "dict",data:=.dict #[]}) sc.names=h₁ at old mw nk⊢;have j6:∀{x c},(y0v (s3.heap.objs.size+1) sc.names (lT X.env.cells sc.names [])).lookup x=a_ c->((x,c)∈y0v (s3.heap.objs.size+1) sc.names []/\h₁.IsCell c b_/\(e_ s3)+1<=c)\/(X.env.cells.lookup x=a_ c/\c<(e_ s3)):=λ{x c} e=>by
  rw[cK,vR]at e;cases eo:(y0v (s3.heap.objs.size+1) sc.names []).lookup x with
  |some d=>
   rw[eo]at e;cases e
   have:=mem_of_lookup eo;exact .inl ⟨this,nk.empty x c this⟩
  |none=>rw[eo]at e;have e:=i6 x c e;let⟨v,z⟩:=I3.cell x c e;exact .inr ⟨e,z.lt⟩
 have lh:∀{x c},sc.names.lookup x=a_ .free->(lT X.env.cells sc.names []).lookup x=a_ c->(y0v (s3.heap.objs.size+1) sc.names (lT X.env.cells sc.names [])).lookup x=a_ c:=λ{x c} hf e=>by
  rw[cK,vR];cases eo:(y0v (s3.heap.objs.size+1) sc.names []).lookup x with
  |some d=>have:=S.own _ (oU (mem_of_lookup eo)) rfl;rw[hf]at this;cases this
  |none=>exact e
 have mx:tn 0 s3.heap:=T.keep 0 _ _ ku λb hb o e=>by rw[<-zi];exact Ze _ e
 have vt:∀b∈fp,∃o,s3.heap.get? b=a_ o/\∀v,o.data≠.cell v:=T.obj 0 _ mx;have f3:∀b∈fp,Fq X FR H3 b:=λb hb=>by let⟨o,ho,_⟩:=T.obj 0 _ ku b hb;refine⟨?_,(f2 b hb).2⟩;rw[<-XD,bE (Zt (Zl ho))];exact(f2 b hb).1
 -- the block's context
 have sr:(X.comp sc N (e_ s3) fp s3 H3).Ok:=by
  refine⟨I.ok.mod,S.kind,I.ok.glob,I.ok.blt,Zi _,λx y c e1 e2=>?_,λx hx=>?_,λx c z e=>?_,I.ok.hd,I.ok.frames,.inl rfl,λb hb=>?_,I3.bs,
   y0e I.ok.bsz I3.sz,λb o e hb=>?_,λb hb hf=>?_,I3.stack,I3.stkFree⟩
  ·rcases j6 e1 with⟨m1,_,g1⟩|⟨z1,g1⟩ <;> rcases j6 e2 with⟨m2,_,g2⟩|⟨z2,g2⟩
   ·exact name_of_addr nk.apart m1 m2
   ·exact absurd (Zz g2 (Nat.le_of_succ_le g1)) (y0A _)
   ·exact absurd (Zz g1 (Nat.le_of_succ_le g2)) (y0A _)
   ·exact I.ok.inj x y c z1 z2
  ·have fr:sc.names.lookup x=a_ .free->∃c,(y0v (s3.heap.objs.size+1) sc.names (lT X.env.cells sc.names [])).lookup x=a_ c:=λhf=>
    let ⟨c,hc⟩:=B0 (cells:=X.env.cells) (x:=x) sc.names [] (.inr ⟨_,fQ hf,rfl,rfl⟩)
    ⟨c,lh hf hc⟩
   have fin:∀{k},(relabel sc X.env).names.lookup x=a_ k->(k=.cell\/k=.free)->∃c,(y0v (s3.heap.objs.size+1) sc.names (lT X.env.cells sc.names [])).lookup x=a_ c:=λ{k} e hk=>by
    rcases rN (sc:=sc) e with z|⟨_,z⟩
    ·rcases hk with rfl|rfl
     ·let⟨c,hc⟩:=jT (n:=(e_ s3)+1) (fQ z);exact⟨c,by rw[cK,vR,hc];rfl⟩
     ·exact fr z
    ·exact fr z
   rcases hx with hx|hx
   ·exact fin hx (.inl rfl)
   ·exact fin hx (.inr rfl)
  ·have z:sc.names.lookup x=a_ .cell:=by
    have z:(match sc.names.lookup x with|some .cell=>true|_=>false)=true:=z
    split at z
    ·assumption
    ·cases z
   have e:(y0v (s3.heap.objs.size+1) sc.names (lT X.env.cells sc.names [])).lookup x=a_ c:=e;let⟨d,hd⟩:=jT (n:=(e_ s3)+1) (fQ z);rw[cK,vR,hd]at e;cases e
   exact Nat.le_of_succ_le (nk.empty x c (mem_of_lookup hd)).2
  ·let⟨o,ho,_⟩:=vt b hb;refine⟨hC b o ho,λx c e=>?_⟩;rcases j6 e with⟨_,_,g1⟩|⟨z1,_⟩
   ·exact y0a (Zz (Zl ho) (Nat.le_of_succ_le g1))
   ·exact(f3 b hb).2.2.2.2.1 x c z1
  ·rcases(f3 b hb).2.2.2.1 with z|z
   ·exact I.ok.noex b o e z
   ·exact absurd (Zz (Zl e) (y0e I.ok.bsz z)) (y0A _)
  ·rcases Zs.mp (I3.stkSub b hf) with z|z
   ·exact(f3 b hb).2.1 z
   ·exact(f3 b hb).2.2.1 z
 -- what the block takes from around it
 have qe:∀(i:Nat)(x:Str)(v:V),N[i]?=a_ x->(oV js σ)[i]?=a_ (a_ v)->∃u c o,RelV v u/\((compEnvC sc (y0v (s3.heap.objs.size+1) sc.names (lT X.env.cells sc.names [])) (e_ s3) X.env).kindOf x=a_ .cell\/(compEnvC sc (y0v (s3.heap.objs.size+1) sc.names (lT X.env.cells sc.names [])) (e_ s3) X.env).kindOf x=a_ .free)/\
   (y0v (s3.heap.objs.size+1) sc.names (lT X.env.cells sc.names [])).lookup x=a_ c/\s3.heap.get? c=a_ o/\o.data=.cell (a_ u)/\H3 c=b_/\c∉fp:=by
  intro i x v hN hv;let⟨j,hj,hσ⟩:=OU hv;let⟨x',c6,ho,hf⟩:=S.cap i j hj;rw[hN]at c6;cases c6;let⟨m,hn,hl⟩:=I3.loc;have tm:Vis X.env.scope x:=by
   rcases S.fr _ (fQ hf) rfl with z|z
   ·exact .inr (.inl z)
   ·exact .inr (.inr z)
  let⟨u,r,l⟩:=hl j x v ho hσ tm;let⟨c,nc⟩:=B0 (cells:=X.env.cells) (x:=x) sc.names [] (.inr ⟨_,fQ hf,rfl,rfl⟩);have u0:=i6 x c nc;have dk:s3.heap.IsCell c (a_ u):=by
   rcases l with⟨k,_⟩|⟨_,c',e,z⟩
   ·exfalso;rcases S.fr _ (fQ hf) rfl with z|z
    ·have k':X.env.scope.names.lookup x=a_ .local:=k;rw[z]at k';cases k'
    ·have k':X.env.scope.names.lookup x=a_ .local:=k;rw[z]at k';cases k'
   ·rw[u0]at e;cases e;exact z
  let⟨o,bw,hd⟩:=dk;refine⟨u,c,o,r,?_,lh hf nc,bw,hd,I3.freeC x c u0,λhb=>(f3 c hb).2.2.2.2.1 x c u0 rfl⟩;exact(vQ (env:=X.env) hf).symm
 -- at any state of the block,its names as at its start
 have n9:∀{cq:g_ 0}{σ8:St}{H8:Hp}{s8:t_},Inv (X.comp sc N (e_ s3) fp s3 H3) cq σ8 H8 s8->Inv (X.comp sc N (e_ s3) fp s3 H3) [] (oV js σ) H8 s8:=λ{cq σ8 H8 s8} I8=>by
  refine⟨I8.ok,I8.os,I8.bare,I8.base,?_,I8.cell,I8.free,I8.freeC,λp hp=>by simp[Cx.comp]at hp,I8.hok,?_⟩
  ·let⟨m,hn,_⟩:=I8.loc;refine⟨m,hn,λi x v hN hv _=>?_⟩;let⟨u,c,o,r,k,hl,ho,hd,Yx,hnf⟩:=qe i x v hN hv;refine⟨u,r,.inr ⟨k,c,hl,?_⟩⟩;let⟨sl,e⟩:=I8.base.any ho Yx hnf;exact⟨_,e,hd⟩
  ·show(oV js σ).length=N.length
   unfold oV;rw[Zg,S.len]
 have I4:Inv (X.comp sc N (e_ s3) fp s3 H3) [] (oV js σ) H3 {s3 with heap:=h₁}:=by
  refine⟨sr,rfl,I3.bare,Un.kept old,⟨_,mw,λi x v hN hv _=>?_⟩,λx c e=>?_,I3.fresh,λx c e=>?_,λp hp=>by simp[Cx.comp]at hp,I3.hok.kept old,?_⟩
  ·let⟨u,c,o,r,k,hl,ho,hd,_,_⟩:=qe i x v hN hv;exact⟨u,r,.inr ⟨k,c,hl,o,old c o ho,hd⟩⟩
  ·rcases j6 e with⟨_,g1,_⟩|⟨z1,_⟩
   ·exact⟨_,g1⟩
   ·let⟨v,o,ho,hd⟩:=I3.cell x c z1;exact⟨v,o,old c o ho,hd⟩
  ·rcases j6 e with⟨_,_,g1⟩|⟨z1,_⟩
   ·exact I3.hok.fresh ⋯
   ·exact I3.freeC x c z1
  ·show(oV js σ).length=N.length
   unfold oV;rw[Zg,S.len]
 have xq:tn 0 h₁:=T.keep 0 _ _ mx λb hb o e=>old b o e;have jf:∀{H':Hp},(∀b∈fp,H' b=b_)->∀b∈fp,Fq (X.comp sc N (e_ s3) fp s3 H3) [] H' b:=λ{H'} hn b hb=>⟨hn b hb,(sr.exf b hb).1,sr.exfs b hb,.inl hb,(sr.exf b hb).2,λp hp=>by simp[Cx.comp]at hp⟩;have fin:∀(s6:t_)(H6:Hp),Inv (X.comp sc N (e_ s3) fp s3 H3) [] (oV js σ) H6 s6->Q (.ref (e_ s2)) H6->compPost (h_ X) X.A X.xe use Q0 (.ref (e_ s2)) (e_ s3) (.ok .next) s6:=λs6 H6 I6 q6=>by
  have I7:Inv X FR σ H6 s6:=I3.call' (ch:=fp) I6.os I6.base I6.hok I6.bare λb hb=>⟨(f3 b hb).2.2.2.1,(f3 b hb).2.1,(f3 b hb).2.2.2.2.1,(f3 b hb).2.2.2.2.2⟩;refine jx _ _ _ _ I7 ⟨let ⟨m,hn,_⟩:=I6.loc;⟨m,hn⟩,I6.free,y0a I3.lt,I3.sz,λx c e=>?_,λp hp=>?_⟩ q6
  ·let⟨v,z⟩:=I3.cell x c e;exact Zt z.lt
  ·exact Zt (Zl (I3.pin p hp).1)
 have loop:codeAny (h_ X) X.A (.compLoop (.ListComp elt [⟨tg,iter,ifs,0⟩] sc pos) 0 (.ref it) (.ref (e_ s2)) (compEnvC sc (y0v (s3.heap.objs.size+1) sc.names (lT X.env.cells sc.names [])) (e_ s3) X.env))
   (compPost (h_ X) X.A X.xe use Q0 (.ref (e_ s2)) (e_ s3)) {s3 with heap:=h₁}:=by
  refine E5 (λn s'=>∃i H',Inv (X.comp sc N (e_ s3) fp s3 H3) [] (oV js σ) H' s'/\tn i s'.heap/\(∀b∈fp,H' b=b_)/\W i n H') ?_ m0 ⟨0,H3,I4,xq,λb hb=>(f3 b hb).1,w0⟩;rintro n s5 ⟨i,H5,I5,lj,sk,w5⟩;rcases turn i n H5 w5 with⟨stop,qn⟩|⟨go,Nn,hN,step⟩
  ·refine thn (T.done (X.comp sc N (e_ s3) fp s3 H3) rfl rfl rfl hc i [] s5 (oV js σ) H5 (λ_ _=>False) I5 (jf sk) lj stop) λr s6 ⟨hr,I6⟩=>?_;subst hr;exact fin s6 H5 I6 qn
  ·refine thn (T.item (X.comp sc N (e_ s3) fp s3 H3) rfl rfl rfl hc i [] s5 (oV js σ) H5 (λ_ _=>False) I5 (jf sk) lj go) λr s6 ⟨u,hr,h6⟩=>?_;subst hr;refine thn h6 λ_ s7 hz=>?_;let⟨x,H7,I7,r7,y7,vm,YI⟩:=hz;have Y9:=I7.pinned (jf YI) (T.obj _ _ vm);refine thn (hg _ _ _ _ _ s7 _ H7 x u _ Y9 r7 (step x H7 y7)) λ_ s8 ⟨σ8,H8,I8,q8⟩=>?_;refine thn (ht _ _ _ _ _ s8 σ8 H8 _ I8 q8) λb s9 ⟨H9,I9,q9⟩=>?_;have again:∀{σ':St}{H':Hp}{s':t_},Inv (X.comp sc N (e_ s3) fp s3 H3) ([]++AN fp s7.heap) σ' H' s'->Nn H'->∃m,m<n/\∃i H',Inv (X.comp sc N (e_ s3) fp s3 H3) [] (oV js σ) H' s'/\tn i s'.heap/\(∀b∈fp,H' b=b_)/\W i m H':=λ{σ' H' s'} I' n'=>by let⟨m',hm,w'⟩:=hN H' n';refine⟨m',hm,i+1,H',n9 I',T.keep _ _ _ vm λb hb o e=>(I'.pin (b,o) (Zo _ (Zo _ (oT hb e)))).1,λb hb=>?_,w'⟩;let⟨o,e,d⟩:=T.obj _ _ vm b hb;exact(I'.pin (b,o) (Zo _ (Zo _ (oT hb e)))).2.1
   cases b with
   |false=>exact again I9 q9
   |true=>refine thn (he _ _ _ _ _ s9 σ8 H9 _ I9 q9) λu' s10 ⟨v,H10,I10,rv,ys,ag,hz,n10⟩=>?_;refine thn (Dh (X:=X.comp sc N (e_ s3) fp s3 H3) _ s10 σ8 H10 (.ref (e_ s2)) [v] (.ref (e_ s2)) [u'] (λ_ H'=>Nn H') I10 rfl (.cons rv .nil) ⟨_,ys,v,rfl,rfl,ag,hz,n10⟩) λ_ s11 ⟨_,H11,I11,_,n11⟩=>?_;exact again I11 n11
 exact codeAny_compStart_list loop (T.self X.A 0 _ _ _ xq loop)
def OX(hc:X.calm=true)(fg:X.env.scope=os)(gh:X.N=oN)(ok:uI os oN sc N js=true)(hi:PI X tg iter wi)
  (hg:∀C fp s₀ H₀,PG (X.comp sc N C fp s₀ H₀) tg g) (ht:∀C fp s₀ H₀,PTs (X.comp sc N C fp s₀ H₀) ifs tt) (he:∀C fp s₀ H₀,PE (X.comp sc N C fp s₀ H₀) elt te)
  (hs:∀x,y1w iter X.env x=pure x:=by intro _;rfl):PE X (.ListComp elt [⟨tg,iter,ifs,0⟩] sc pos) (IP js wi g tt te):=by
 intro FR s σ H Q I h;rw[eval_ListComp];refine Dn (use:=b_) hc fg gh ok hi hg ht he I h (λacc C s6 H6 I6 o q=>?_) hs;exact⟨o.ns.choose,o.ns.choose_spec,λh' ig=>⟨.ref acc,H6,o.go I6 ig,rfl,q⟩⟩
def Ho{ft:Pos}(hN:X.N.Nodup)(c6:X.N[i]?=a_ x)(gj:X.env.scope.names.lookup x=a_ .local)(hc:X.calm=true)(fg:X.env.scope=os)(gh:X.N=oN)(ok:uI os oN sc N js=true)(hi:PI X tg iter wi)(hg:∀C fp s₀ H₀,PG (X.comp sc N C fp s₀ H₀) tg g)(ht:∀C fp s₀ H₀,PTs (X.comp sc N C fp s₀ H₀) ifs tt)(he:∀C fp s₀ H₀,PE (X.comp sc N C fp s₀ H₀) elt te)(u7:swapsWith (.ListComp elt [⟨tg,iter,ifs,0⟩] sc pos) (a_ (.Name x pos')) ft.line X.env=pure true:=by rfl)(hs:∀x,y1w iter X.env x=pure x:=by intro _;rfl):PS X (.Assign [.Name x pos'] (.ListComp elt [⟨tg,iter,ifs,0⟩] sc pos) ft) (Rq (IP js wi g tt te) (L1 i)):=by
 intro FR s σ H D I h
 rw[exec_Assign_Name_used _ _ _ _ u7]
 refine Zb (wpAny_standAt (Zb ?_))
 show wpAny _ X.A (do let _ <-comprehension (.ListComp elt [⟨tg,iter,ifs,0⟩] sc pos) sc X.env _ (newList []) false (eval iter X.env) (a_ (assign (.Name x pos') X.env))) _ _ s
 refine Zb (thn (Dn (use:=a_ (assign (.Name x pos') X.env)) (Q0:=λ_ s'=>SP X FR D .next s') hc fg gh ok hi hg ht he I h (λacc C s6 H6 I6 o q=>?_) hs) λ_ s' hq=>Zd (Zd hq))
 show wpAny _ X.A (assign (.Name x pos') X.env (.ref acc)) _ _ _
 refine wpAny_assign_Name (D7 I6 hN c6 (.inl gj) (v:=.ref acc) rfl (λs7 I7 ⟨a,hs7,ha⟩=>?_) (.inr gj))
 have xw:C≠a:=by
  rcases ha with rfl|ha
  ·exact o.loc
  ·exact λe=>o.cells x a ha e.symm
 let⟨m,hn⟩:=o.ns
 have o7:Off X FR H6 C s7:=⟨⟨m,hn.sameBut hs7 xw⟩,o.none,o.loc,o.new,o.cells,o.FR⟩
 exact⟨m,hn.sameBut hs7 xw,λh' ig=>⟨_,H6,o7.go I7 ig,q⟩⟩
end
section
variable{X:Cx}
def Uj:V->D_ Int->D_ Int->Hp->VK->Prop:=λx lo hi H Q=>∃z,x=.str z/\z.length<=Zq/\Q (.str (y24 z lo hi)) H
def part_of(h:IsPart v o):∃p:D_ (Int×Tok),v=partValue p/\p.map (·.1)=o:=by
 cases h with
 |none=>exact⟨b_,rfl,rfl⟩
 |int i t=>exact⟨a_ (i,t),rfl,rfl⟩
def RU:SlR X Uj:=by
 intro FR s σ H x v vl vu lo hi sl Q I rx hs pl pu h;let⟨z,rfl,hz,q⟩:=h;let⟨t,rfl⟩:=rx;let⟨l,rfl,rfl⟩:=part_of pl;let⟨u,rfl,rfl⟩:=part_of pu;let⟨o,ho,hc,hd⟩:=hs;refine⟨"str",_,PySem.F.slot_str_getitem.lookup,typeIs_str s z t,?_⟩;refine wpAny_getItem_str_slice (l:=l) (u:=u) (st:=b_) ⟨o,ho,hc,hd⟩ rfl ?_;have e:sliceMade z t l u b_=if((1:Int) == 1&&(y2s (l.map (·.1)) (u.map (·.1)) 1 z.length).length == z.length)=true then Made.val (.str z t) else Made.str ⟨((y2s (l.map (·.1)) (u.map (·.1)) 1 z.length).filterMap (z.cps[·]?)).toArray⟩:=rfl;have hle:=Txt.slice_le z (l.map (·.1)) (u.map (·.1));unfold y24 at q hle;rw[e];by_cases ae:((1:Int) == 1&&(y2s (l.map (·.1)) (u.map (·.1)) 1 z.length).length == z.length)=true
 ·rw[if_pos ae]at q⊢;exact⟨.str z,H,I,⟨t,rfl⟩,q⟩
 ·rw[if_neg ae]at q hle⊢;exact⟨y0e hle hz,.str _,H,I.tok _,⟨_,rfl⟩,q⟩
theorem B2:∀{ss:C_ Str}{us:C_ s_},bN (ss.map V.str) us->StrsAre us ss
 |[],_,r=>by cases r;exact .nil
 |x::ss,_,r=>by
  cases r with
  |cons h t=>let⟨tk,rfl⟩:=h;exact .cons x tk (B2 t)
def gT{es:C_ A_}{k:Nat}{t:TGs}{n:Nat}{pos:Pos}(K:Zf)(hK:X.K=K)(hc:X.calm=true)(h:PGs X es t)
  (hn:(y1G es X.env).length=n:=by rfl) (bc:(y1G es X.env).findIdx? (·.1)=b_:=by rfl):PG X (.Tuple es k pos) (U1 K n t):=by subst hK;exact Rp hc h hn bc
end
section
variable{X:Cx}{e a b:A_}{t t' ta tb:TE}{pos:Pos}
theorem PE.imp(h:PE X e t)(i:∀σ H Q,t' σ H Q->t σ H Q):PE X e t':=λFR s σ H Q I q=>h FR s σ H Q I (i σ H Q q)
theorem PT.imp{t t':TT}(h:PT X e t)(i:∀σ H Q,t' σ H Q->t σ H Q):PT X e t':=λFR s σ H Q I q=>h FR s σ H Q I (i σ H Q q)
theorem OpR.imp{f:s_->s_->Sem s_}(h:OpR X f r)(i:∀x y H Q,r' x y H Q->r x y H Q):OpR X f r':=λFR s σ H x y v u Q I rx ry q=>h FR s σ H x y v u Q I rx ry (i x y H Q q)
theorem eD.imp{r r':C_ V->Hp->VK->Prop}(h:eD X f r)(i:∀xs H Q,r' xs H Q->r xs H Q):eD X f r':=λFR s σ H xs us Q I rx q=>h FR s σ H xs us Q I rx (i xs H Q q)
def cV(i:Nat):TE:=λσ H Q=>match Hn σ i with
 |some v=>Q v H
 |none=>False
def cv(i:Nat)(hN:X.N[i]?=a_ x:=by rfl)(hv:Vis X.env.scope x:=by first|exact Or.inl rfl|exact Or.inr (Or.inl rfl)|exact Or.inr (Or.inr rfl))(hd:(x == ("__debug__" : Str))=false:=by decide)(dv:(x == ("__classdict__" : Str))=false:=by decide):PE X (.Name x pos) (cV i):=by
 refine(KZ hN hv hd dv).imp λσ H Q h=>?_;unfold cV at h;cases e:Hn σ i with
 |none=>rw[e]at h;exact h.elim
 |some v=>rw[e]at h;exact⟨v,B1 e,h⟩
def Uk(K:Zf):R2:=λx y H Q=>match x,y with
 |.int i,.int j=>Q (.int (i+j)) H
 |.str i,.str j=>i.length+j.length<=Zq/\Q (.str (i++j)) H
 |.ref _,.ref _=>Ud x y H Q\/QM K x y H Q
 |_,_=>False
def OY(K:Zf)(hK:X.K=K):OpR X (y0Q .Add) (Uk K):=by
 subst hK;refine(Rx.or (Hc.or (RQ.or OQ))).imp λx y H Q h=>?_;cases x <;> cases y <;> first
  |exact .inl ⟨_,_,rfl,rfl,h⟩
  |exact .inr (.inl ⟨_,_,rfl,rfl,h.1,h.2⟩)
  |exact .inr (.inr h)
  |exact h.elim
def Do(C:Int->Int->Prop)(f:Int->Int->Int):R2:=λx y H Q=>match x,y with
 |.int i,.int j=>C i j/\Q (.int (f i j)) H
 |_,_=>False
def Lq(f:Int->Int->Int):R2:=λx y H Q=>match x,y with
 |.int i,.int j=>Q (.int (f i j)) H
 |_,_=>False
def Az{f:s_->s_->Sem s_}{C:Int->Int->Prop}{g:Int->Int->Int}(h:OpR X f (rI C λi j=>.int (g i j))):OpR X f (Do C g):=h.imp λx y H Q q=>by cases x <;> cases y <;> first|exact⟨_,_,rfl,rfl,q.1,q.2⟩|exact q.elim
def Lr{f:s_->s_->Sem s_}{g:Int->Int->Int}(h:OpR X f (rI0 λi j=>.int (g i j))):OpR X f (Lq g):=h.imp λx y H Q q=>by cases x <;> cases y <;> first|exact⟨_,_,rfl,rfl,q⟩|exact q.elim
def OZ:OpR X (y0Q .Sub) (Lq λi j=>i-j):=Lr Ry
def P0:OpR X (y0Q .Mult) (Do Ft λi j=>i*j):=Az Rz
def P3:OpR X (y0Q .FloorDiv) (Do L5 λi j=>i/j):=Az OI
def P4:OpR X (y0Q .Mod) (Do (λ_ j=>0<j) λi j=>i%j):=Az RA
def P5:OpR X (y0Q .Pow) (Do JC λi j=>i ^ j.toNat):=Az RB
def Fy(f:Int->Int->Bool)(g:C_ Nat->C_ Nat->Bool):R2:=λx y H Q=>match x,y with
 |.int i,.int j=>Q (.bl (f i j)) H
 |.str i,.str j=>Q (.bl (g i.cps.toList j.cps.toList)) H
 |_,_=>False
def E6{f:s_->s_->Sem s_}{p:Int->Int->Bool}{g:C_ Nat->C_ Nat->Bool}(h1:OpR X f (rI0 λi j=>.bl (p i j)))
  (h2:OpR X f (λx y H Q=>∃i j,x=.str i/\y=.str j/\Q (.bl (g i.cps.toList j.cps.toList)) H)):OpR X f (Fy p g):=
 (h1.or h2).imp λx y H Q q=>by cases x <;> cases y <;> first|exact .inl ⟨_,_,rfl,rfl,q⟩|exact .inr ⟨_,_,rfl,rfl,q⟩|exact q.elim
def RW:OpR X (ZZ .Lt) (Fy (λi j=>decide (i<j)) λi j=>decide (i<j)):=E6 U4 JD
def RX:OpR X (ZZ .Gt) (Fy (λi j=>decide (j<i)) λi j=>decide (j<i)):=E6 U6 λFR s σ H x y v u Q I rx ry h=>by let⟨i,j,rfl,rfl,q⟩:=h;let⟨t,rfl⟩:=rx;let⟨t',rfl⟩:=ry;exact PySem.P.gt_str (Ha I q rfl)
def RY:OpR X (ZZ .LtE) (Fy (λi j=>decide (i<=j)) λi j=>!decide (j<i)):=E6 U5 λFR s σ H x y v u Q I rx ry h=>by let⟨i,j,rfl,rfl,q⟩:=h;let⟨t,rfl⟩:=rx;let⟨t',rfl⟩:=ry;exact PySem.P.le_str (Ha I q rfl)
end
structure X6(t:TE):Prop where
 go:∀σ H(Q Q':VK),(∀v H1,Q v H1->Q' v H1)->t σ H Q->t σ H Q'
section
variable{X:Cx}{e a b:A_}{t t' ta tb:TE}{pos:Pos}
def QP{x:V}{Q:Bool->Prop}(h:match x with|.bl c=>Q c|_=>False):∃c,x=.bl c/\Q c:=by cases x <;> first|exact⟨_,rfl,h⟩|exact h.elim
def Wn(ta tb:TE):TE:=λσ H Q=>ta σ H λx H1=>match x with
 |.bl c=>if c=true then tb σ H1 Q else Q (.bl false) H1
 |_=>False
def Wo(ta:TE):TE:=λσ H Q=>ta σ H λx H1=>match x with
 |.bl c=>Q (.bl (!c)) H1
 |_=>False
def P6{rest:C_ A_}(ha:PE X a ta)(hb:PE X (.BoolOp .And (b::rest) pos) tb):PE X (.BoolOp .And (a::b::rest) pos) (Wn ta tb):=by
 intro FR s σ H Q I h;refine BoolOp_and (thn (ha FR s σ H _ I h) λv s1 hz=>?_);let⟨x,H1,I1,r1,q1⟩:=hz;let⟨c,rfl,q1⟩:=QP q1;cases r1
 refine y1x ?_;cases c with
 |true=>exact hb FR s1 σ H1 Q I1 q1
 |false=>exact⟨.bl false,H1,I1,rfl,q1⟩
def P7(ha:PE X a ta):PE X (.UnaryOp .Not a pos) (Wo ta):=by
 intro FR s σ H Q I h;refine UnaryOp_ (thn (ha FR s σ H _ I h) λv s1 hz=>?_);let⟨x,H1,I1,r1,q1⟩:=hz;let⟨c,rfl,q1⟩:=QP q1;cases r1
 exact not_of (y1x ⟨.bl (!c),H1,I1,rfl,q1⟩)
def P8(hu:X.A.units+1<cLine):IxR X (λx y H Q=>∃p v,x=.ref p/\yK H p y (a_ v)/\Q v H):=by
 intro value slice FR s σ H x y v u Q I rx ry h hs;let⟨p,w,rfl,g,q⟩:=h;cases rx
 have hT:=Fx I g;unfold subscriptTail;refine Zb ?_;rw[getitemInPython_of_ne hT.not_modules];refine Zb (y2t hT PySem.F.slot_dict_getitem.lookup ?_);have fin:wpAny (h_ X) X.A (subscripted slice false (.ref p) u) (λr s₃=>wpAny (h_ X) X.A (letTemporaryGo value (.ref p) r >>= λ_=>pure r) (EP X FR σ Q) X.xe s₃) X.xe s:=by rw[hs];exact wpAny_operating (JN hu I g ry λw' s3 I3 bu=>Zb (wpAny_letTemporaryGo (Zd ⟨w,H,I3,bu,q⟩)))
 first
  |exact Zd (Zb fin)
  |exact Zb (Zd (Zb fin))
  |exact Zb fin
def Ul(K:Zf):R2:=λx y H Q=>match x with
 |.str z=>(match y with
  |.int i=>z.length<=Zq/\∃c,atI z.cps.toList i=a_ c/\Q (.str ⟨#[c]⟩) H
  |_=>False)
 |.ref p=>(∃xs i v,y=.int i/\(SqL K H p xs\/SqT K H p xs)/\atI xs i=a_ v/\Q v H)\/∃v,yK H p y (a_ v)/\Q v H
 |_=>False
theorem IxR.imp(h:IxR X r)(i:∀x y H Q,r' x y H Q->r x y H Q):IxR X r':=λa b FR s σ H x y v u Q I rx ry q hs=>h a b FR s σ H x y v u Q I rx ry (i x y H Q q) hs
def ixC(hu:X.A.units+1<cLine)(K:Zf)(hK:X.K=K):IxR X (Ul K):=by
 subst hK;refine(OR.or (RL.or (RM.or (P8 hu)))).imp λx y H Q h=>?_;cases x with
 |str z=>
  cases y with
  |int i=>let⟨h1,c,h2,h3⟩:=h;exact .inr (.inr (.inl ⟨z,i,c,rfl,rfl,h1,h2,h3⟩))
  |_=>exact h.elim
 |ref p=>
  rcases h with⟨xs,i,v,rfl,hs|hs,ha,hq⟩|⟨v,g,hq⟩
  ·exact .inl ⟨p,xs,i,v,rfl,rfl,hs,ha,hq⟩
  ·exact .inr (.inl ⟨p,xs,i,v,rfl,rfl,hs,ha,hq⟩)
  ·exact .inr (.inr (.inr ⟨p,v,rfl,g,hq⟩))
 |_=>exact h.elim
def RZ(hu:X.A.units+1<cLine)(K:Zf)(hK:X.K=K):OpR X (ZZ .In) (λx y H Q=>rIn K false x y H Q\/∃a o,y=.ref a/\yK H a x o/\Q (.bl o.isSome) H):=by
 subst hK;refine JI.or λFR s σ H x y v u Q I rx ry h=>?_;let⟨a,o,rfl,g,q⟩:=h;cases ry
 exact Wm hu I g rx λs' I'=>⟨.bl o.isSome,H,I',rfl,q⟩
def JR(hu:X.A.units+1<cLine)(K:Zf)(hK:X.K=K):OpR X (ZZ .NotIn) (λx y H Q=>rIn K true x y H Q\/∃a o,y=.ref a/\yK H a x o/\Q (.bl (!o.isSome)) H):=by
 subst hK;refine E2.or λFR s σ H x y v u Q I rx ry h=>?_;let⟨a,o,rfl,g,q⟩:=h;cases ry
 exact OT hu I g rx λs' I'=>⟨.bl (!o.isSome),H,I',rfl,q⟩
def Um(K:Zf):C_ V->Hp->VK->Prop:=λxs H Q=>match xs with
 |[.str y]=>y.length<=Zq/\Q (.int y.length) H
 |[.ref p]=>(∃xs,(SqL K H p xs\/SqT K H p xs)/\Q (.int xs.length) H)\/∃kvs,H p=a_ (.dK kvs)/\Q (.int kvs.length) H
 |_=>False
def JS(K:Zf)(hK:X.K=K):eD X (.builtin "len") (Um K):=by
 subst hK;intro FR s σ H xs us Q I r h
 match xs,h with
 |[.str y],h=>exact La FR s σ H _ us Q I r ⟨_,_,rfl,⟨h.1,rfl⟩,h.2⟩
 |[.ref p],h=>
  rcases h with⟨ys,hs,q⟩|⟨kvs,hs,q⟩
  ·exact E3 FR s σ H _ us Q I r ⟨p,ys,rfl,hs,q⟩
  ·exact JP FR s σ H _ us Q I r ⟨p,kvs,rfl,hs,q⟩
def Hq(K:Zf)(hK:X.K=K):eD X (.type "list") (λxs H Q=>∃p ys,xs=[.ref p]/\(SqL K H p ys\/SqT K H p ys)/\∀l,H l=b_->Q (.ref l) (upd H l (.lst ys))):=by subst hK;exact E4
def Fz(K:Zf)(hK:X.K=K):eD X (.type "tuple") (λxs H Q=>∃p ys,xs=[.ref p]/\((SqL K H p ys/\∀l,H l=b_->Q (.ref l) (upd H l (.tup ys)))\/(SqT K H p ys/\Q (.ref p) H))):=by subst hK;exact Cw
def Uo(ta:TA):TI:=λσ H R=>ta σ H λvs H1=>match vs with
 |[.int j]=>(-(2 ^ 62)<=j/\j<2 ^ 62)/\R (Itr 0 j.toNat) H1
 |_=>False
def Up(ta:TA):TI:=λσ H R=>ta σ H λvs H1=>match vs with
 |[.int i,.int j]=>(-(2 ^ 62)<=i/\i<2 ^ 62/\-(2 ^ 62)<=j/\j<2 ^ 62)/\R (Itr i (j-i).toNat) H1
 |_=>False
def P9{vs:C_ V}{Q:Int->Prop}(h:match vs with|[.int i]=>Q i|_=>False):∃i,vs=[.int i]/\Q i:=by
 split at h
 · exact⟨_,rfl,h⟩
 · exact h.elim
def pr1{x:A_}{ta:TA}{tg:A_}{p pos:Pos}(hg:Gl X "range")(hm:X.mg "range" = b_)(ha:PA X [x] ta)(hs:Zx [x] X.env=[(false,eval x X.env)]:=by rfl):PI X tg (.Call (.Name "range" p) [x] [] pos) (Uo ta):=by intro FR s σ H R I h;refine Call_ (rG I hg hm boot_range (y04 (thn (ha pos FR s σ H _ I h) λus s1 hz=>?_) hs rfl));let⟨vs,H1,I1,r1,q1⟩:=hz;let⟨j,rfl,⟨h1,h2⟩,q⟩:=P9 q1;let⟨u,rfl,t,rfl⟩:=vals1 r1;exact call_range_1 (Fs I1 ⋯ ⋯ h1 h2 (l_ q))
def Ls{vs:C_ V}{Q:Int->Int->Prop}(h:match vs with|[.int i,.int j]=>Q i j|_=>False):∃i j,vs=[.int i,.int j]/\Q i j:=by
 split at h
 ·exact⟨_,_,rfl,h⟩
 ·exact h.elim
def pr2{x y:A_}{ta:TA}{tg:A_}{p pos:Pos}(hg:Gl X "range")(hm:X.mg "range" = b_)(ha:PA X [x,y] ta)(hs:Zx [x,y] X.env=[(false,eval x X.env),(false,eval y X.env)]:=by rfl)(bz:Zx [y] X.env=[(false,eval y X.env)]:=by rfl):
  PI X tg (.Call (.Name "range" p) [x,y] [] pos) (Up ta):=by
 intro FR s σ H R I h;refine Call_ (rG I hg hm boot_range (y04 (thn (ha pos FR s σ H _ I h) λus s1 hz=>?_) (by rw[hs,bz]) (by rw[bz];rfl)));let⟨vs,H1,I1,r1,q1⟩:=hz;let⟨i,j,e,⟨h1,h2,h3,h4⟩,q⟩:=Ls (Q:=λi j=>(-(2 ^ 62)<=i/\i<2 ^ 62/\-(2 ^ 62)<=j/\j<2 ^ 62)/\R (Itr i (j-i).toNat) H1) q1;subst e;let⟨u,w',rfl,⟨t,rfl⟩,⟨t',rfl⟩⟩:=vals2 r1;exact call_range_2 (Fs I1 h1 h2 h3 h4 q)
def Uq(t:TE):TO:=λσ H Q=>t σ H λx H1=>match x with
 |.int i=>Q (a_ i) H1
 |_=>False
def Lu(h:PE X x te):PO X (a_ x) (Uq te):=by
 intro FR s σ H Q I hw;rw[evalPart_some];refine thn (h FR s σ H _ I hw) λu s1 hz=>?_;let⟨x,H1,I1,r1,q1⟩:=hz;cases x with
 |int i=>let⟨t,rfl⟩:=r1;exact⟨a_ i,H1,I1,.int i t,q1⟩
 |_=>exact q1.elim
end
structure Def(K:Zf)(mg:o_ 0)(x:Str)(st:B_)(f:u_)(fd:ZL)(ps:C_ Str):Prop where
 fn:Fun K x x st f fd
 mg:mg x=c_ f
 bd:Binds K fd ps []
section
variable{X:Cx}
def Ur{x:Str}{st:B_}{f:u_}{fd:ZL}{ps:C_ Str}{k:Nat}{sp:Sp}{e:A_}{es:C_ A_}{t:TA}{p pos:Pos}(D:Def X.K X.mg x st f fd ps)(G:bR X.prog X.w X.K X.mg X.base CX0 k f fd ps sp)(hr:iW k X.A)(ha:PA X (e::es) t)
  (hg:Gl X x:=by rfl) (cm:(x == ("__debug__" : Str))=false:=by decide) (he:Zx (e::es) X.env=(false,eval e X.env)::Zx es X.env:=by rfl) (az:(backTo pos (Zx es X.env)).any (·.1)=false:=by rfl):
  PE X (.Call (.Name x p) (e::es) [] pos) (QL sp [] E0 t):=ON G hr hg D.mg D.fn.kp D.bd .nil IL ha cm he az
end
def B3{α:Type}{xs:C_ α}{i:Nat}{v:α}(h:xs[i]?=a_ v):atI xs (i:Int)=a_ v:=by have h1:=(Zc.mp h).1;unfold atI ixN;rw[if_pos ⋯,if_pos ⋯];simpa using h
def AX.upd(h:H a=b_):AX H (upd H a o):=λb u e=>by rw[bE (fP e h)];exact e
theorem Def.mk'{K:Zf}{mg:o_ 0}{h:x_}{x:Str}{st:B_}{f:u_}{ps:C_ Str}{oc:s_}{od an:D_ u_}{osl:n_ 0}{kV doc pm cdv ct:s_}(X:K.In h)(G:h.Ns y0t mg)
  (a:y20 K y0t x=a_ (c_ f)) (l:K.lookup f=a_ ⟨oc,od,.func (y08 x x (iC st) (fU st) (aK st) .none kV doc pm an cdv ct),osl⟩)
  (c:y2O K cdv x=true) (k:y0G K (.ref f)=true)
  (b:∀(kV doc pm:s_)(an:D_ u_)(cdv ct:s_)(us:C_ s_),us.length=ps.length->bindArgs (y08 x x (iC st) (fU st) (aK st) .none kV doc pm an cdv ct) ⟨us,[]⟩=pure (ps.zip us)):
  Def K mg x st f (y08 x x (iC st) (fU st) (aK st) .none kV doc pm an cdv ct) ps:=
 ⟨AW l c k,y25 X G a,(AW (st:=st) l c k).binds b⟩
end L2
namespace L2
open PySem.SeqAt
inductive D where
 |non|bl (b:Bool)|int (i:Int)|str (x:Str)|tup (xs:C_ D)
mutual
def D.depth:D->Nat
 |.tup xs=>D.depths xs+1
 |_=>0
def D.depths:C_ D->Nat
 |[]=>0
 |x::xs=>max (D.depth x) (D.depths xs)
end
theorem D.depths_le:∀{xs:C_ D}{i:Nat}{d:D},xs[i]?=a_ d->d.depth<=D.depths xs
 |[],_,_,h=>by simp at h
 |x::xs,0,d,h=>by
  have:x=d:=by simpa using h
  subst this
  show x.depth<=max x.depth (D.depths xs)
  omega
 |x::xs,i+1,d,h=>by
  have:=D.depths_le (xs:=xs) (i:=i) (d:=d) (l_ h)
  show d.depth<=max x.depth (D.depths xs)
  omega
mutual
def Rep(K:Zf)(H:Hp):D->V->Prop
 |.non,v=>v=.non
 |.bl b,v=>v=.bl b
 |.int i,v=>v=.int i
 |.str x,v=>v=.str x
 |.tup ds,v=>∃a vs,v=.ref a/\SqT K H a vs/\jB K H ds vs
def jB(K:Zf)(H:Hp):C_ D->C_ V->Prop
 |[],[]=>True
 |d::ds,v::vs=>Rep K H d v/\jB K H ds vs
 |[],_::_=>False
 |_::_,[]=>False
end
mutual
def eqD:D->D->Bool
 |.non,.non=>true
 |.bl a,.bl b=>a == b
 |.bl a,.int b=>(if a then 1 else 0) == b
 |.int a,.bl b=>a == (if b then 1 else 0)
 |.int a,.int b=>a == b
 |.str a,.str b=>a == b
 |.tup xs,.tup ys=>jC xs ys
 |_,_=>false
def jC:C_ D->C_ D->Bool
 |[],[]=>true
 |x::xs,y::ys=>eqD x y&&jC xs ys
 |[],_::_=>false
 |_::_,[]=>false
end
mutual
def ltD:D->D->D_ Bool
 |.int a,.int b=>a_ (decide (a<b))
 |.str a,.str b=>a_ (decide (a.cps.toList<b.cps.toList))
 |.tup xs,.tup ys=>vS xs ys
 |_,_=>b_
def vS:C_ D->C_ D->D_ Bool
 |[],[]=>a_ false
 |[],_::_=>a_ true
 |_::_,[]=>a_ false
 |x::xs,y::ys=>if eqD x y=true then vS xs ys else ltD x y
end
mutual
theorem oE:∀d:D,eqD d d=true
 |.non=>rfl
 |.bl b=>by simp[eqD]
 |.int i=>by simp[eqD]
 |.str x=>by simp[eqD]
 |.tup xs=>by simp only[eqD];exact Dp xs
theorem Dp:∀ds:C_ D,jC ds ds=true
 |[]=>rfl
 |d::ds=>by simp only[jC,oE d,Dp ds,Bool.and_self]
end
def oW(H H':Hp):Prop:=∀a xs,Rd H a (.tup xs)->Rd H' a (.tup xs)
theorem oW.refl(H:Hp):oW H H:=λ_ _ h=>h
theorem oW.trans(a:oW H H1)(b:oW H1 H2):oW H H2:=λc xs h=>b c xs (a c xs h)
theorem oW.same(s:AX H H'):oW H H':=λa xs h=>by
 rcases h with h|⟨o,h⟩
 ·exact .inl (s _ _ h)
 ·exact .inr ⟨o,s _ _ h⟩
def FA:D_ HO->Prop
 |some (.tup _)=>False
 |some (.frz _ _)=>False
 |_=>True
def oW.upd(h:FA (H p)):oW H (upd H p o):=λa xs q=>by
 have ne:a≠p:=by
  rintro rfl;rcases q with q|⟨ob,q⟩
  ·rw[q]at h;exact h
  ·rw[q]at h;exact h
 rcases q with q|⟨ob,q⟩
 ·exact .inl (by rw[bE ne];exact q)
 ·exact .inr ⟨ob,by rw[bE ne];exact q⟩
theorem oW.sq{K:Zf}{H H':Hp}{a:u_}{xs:C_ V}(t:oW H H')(h:SqT K H a xs):SqT K H' a xs:=by
 rcases h with h|h
 ·exact .inl (t a xs h)
 ·exact .inr h
section
variable{K:Zf}{H H':Hp}
mutual
theorem Rep.tp(t:oW H H'):∀{d:D}{v:V},Rep K H d v->Rep K H' d v
 |.non,_,h=>h
 |.bl _,_,h=>h
 |.int _,_,h=>h
 |.str _,_,h=>h
 |.tup ds,_,⟨a,vs,e,q,r⟩=>⟨a,vs,e,t.sq q,jB.tp t r⟩
theorem jB.tp(t:oW H H'):∀{ds:C_ D}{vs:C_ V},jB K H ds vs->jB K H' ds vs
 |[],[],_=>trivial
 |_::_,_::_,⟨h,r⟩=>⟨Rep.tp t h,jB.tp t r⟩
 |[],_::_,h=>h.elim
 |_::_,[],h=>h.elim
end
theorem jB.length:∀{ds:C_ D}{vs:C_ V},jB K H ds vs->ds.length=vs.length
 |[],[],_=>rfl
 |_::_,_::_,⟨_,r⟩=>by simp[jB.length r]
 |[],_::_,h=>h.elim
 |_::_,[],h=>h.elim
theorem jB.get:∀{ds:C_ D}{vs:C_ V}{i:Nat}{v:V},jB K H ds vs->vs[i]?=a_ v->∃d,ds[i]?=a_ d/\Rep K H d v
 |[],[],_,_,_,e=>by simp at e
 |d::_,w::_,0,v,⟨h,_⟩,e=>by
  have:w=v:=by simpa using e
  subst this;exact⟨d,rfl,h⟩
 |_::ds,_::vs,i+1,v,⟨_,r⟩,e=>by
  let⟨d,h1,h2⟩:=jB.get (ds:=ds) (vs:=vs) (i:=i) (v:=v) r (l_ e);exact⟨d,l_ h1,h2⟩
 |[],_::_,_,_,h,_=>h.elim
 |_::_,[],_,_,h,_=>h.elim
theorem jB.at:∀{ds:C_ D}{vs:C_ V}{i:Nat}{d:D},jB K H ds vs->ds[i]?=a_ d->∃v,vs[i]?=a_ v/\Rep K H d v
 |[],[],_,_,_,e=>by simp at e
 |d::_,w::_,0,d',⟨h,_⟩,e=>by
  have:d=d':=by simpa using e
  subst this;exact⟨w,rfl,h⟩
 |_::ds,_::vs,i+1,d,⟨_,r⟩,e=>by
  let⟨v,h1,h2⟩:=jB.at (ds:=ds) (vs:=vs) (i:=i) (d:=d) r (l_ e);exact⟨v,l_ h1,h2⟩
 |[],_::_,_,_,h,_=>h.elim
 |_::_,[],_,_,h,_=>h.elim
end
section
variable{X:Cx}{FR:g_ 0}{σ:St}{H:Hp}{s:t_}
def jD{A:w_}{s:t_}{v u:s_}{b:Bool}(h:RcAt A s v u b)(hs:v=u->b=true)(hf:∀f t,v≠.float f t):EqAt A s v u b:=λprog w E Q hq=>by
 unfold eqBool;refine Z3 ?_;refine wpAny_ite_split (λXW=>?_) (λ_=>?_)
 ·have e:=hs (eq_of_beq XW);subst e;exact Zb (y07 (Zd hq))
 ·cases v <;> first|exact absurd rfl (hf _ _)|exact Zb (h prog w E _ (y1x hq))|(cases u <;> exact Zb (h prog w E _ (y1x hq)))
def Dq{K:Zf}{H:Hp}{d:D}{x:V}{v:s_}(h:Rep K H d x)(r:RelV x v):∀f t,v≠.float f t:=λf t e=>by
 subst e;cases d with
 |non=>cases h;cases r
 |bl b=>cases h;cases r
 |int b=>cases h;let⟨_,z⟩:=r;cases z
 |str b=>cases h;let⟨_,z⟩:=r;cases z
 |tup ds=>let⟨_,_,rfl,_⟩:=h;cases r
theorem tG(I:Inv X FR σ H s):∀(n:Nat)(d e:D)(v:V),d.depth<=n->Rep X.K H d v->Rep X.K H e v->d=e
 |n,.non,e,v,_,h,h'=>by
  cases h
  cases e <;> first|(let⟨_,_,z,_⟩:=h';exact absurd z (by intro q;cases q))|rfl|exact absurd h' (by intro z;cases z)
 |n,.bl b,e,v,_,h,h'=>by
  cases h
  cases e <;> first|(let⟨_,_,z,_⟩:=h';exact absurd z (by intro q;cases q))|(cases h';rfl)|exact absurd h' (by intro z;cases z)
 |n,.int i,e,v,_,h,h'=>by
  cases h
  cases e <;> first|(let⟨_,_,z,_⟩:=h';exact absurd z (by intro q;cases q))|(cases h';rfl)|exact absurd h' (by intro z;cases z)
 |n,.str x,e,v,_,h,h'=>by
  cases h
  cases e <;> first|(let⟨_,_,z,_⟩:=h';exact absurd z (by intro q;cases q))|(cases h';rfl)|exact absurd h' (by intro z;cases z)
 |0,.tup ds,e,v,hd,h,h'=>absurd hd (by show ¬ D.depths ds+1<=0;omega)
 |n+1,.tup ds,e,v,hd,h,h'=>by
  let⟨a,vs,rfl,q,r⟩:=h;cases e with
  |tup es=>
   let⟨a',ir,ea,q',r'⟩:=h';cases ea
   have:=I.tuple_inj q q';subst this;have bx:D.depths ds+1<=n+1:=hd;have:ds=es:=by
    apply y01;intro i;cases hi:ds[i]? with
    |none=>have h1:=r.length;have h2:=r'.length;have:ds.length<=i:=List.getElem?_eq_none_iff.mp hi;exact(List.getElem?_eq_none_iff.mpr ⋯).symm
    |some d=>let⟨v,hv,hr⟩:=r.at hi;let⟨e,he,Ya⟩:=r'.get hv;rw[he,tG I n d e v (by have:=D.depths_le hi;omega) hr Ya]
   rw[this]
  |_=>cases h'
def vT{xs ys:C_ D}:((ZD (min xs.length ys.length)).all (λj=>match xs[j]?,ys[j]? with|some x,a_ y=>eqD x y|_,_=>false)&&xs.length == ys.length)=jC xs ys:=by
 induction xs generalizing ys with
 |nil=>
  cases ys with
  |nil=>rfl
  |cons y ys=>simp[jC]
 |cons x xs ih=>
  cases ys with
  |nil=>simp[jC]
  |cons y ys=>
   have:=ih (ys:=ys);have e:min (x::xs).length (y::ys).length=min xs.length ys.length+1:=by simp only[ZY];omega
   rw[e,List.range_succ_eq_map,y1d,y1j];simp only[List.getElem?_cons_zero,Function.comp_def,y0K,ZY,jC];rw[<-this];have e2:(xs.length+1 == ys.length+1)=(xs.length == ys.length):=by simp
   rw[e2,Bool.and_assoc]
def Us(I:Inv X FR σ H s):∀(n:Nat)(d e:D)(A:w_)(x y:V)(v u:s_),d.depth<=n->A.units+n<cLine->Rep X.K H d x->Rep X.K H e y->RelV x v->RelV y u->RcAt A s v u (eqD d e):=by
 intro n
 induction n with
 |zero=>
  intro d e A x y v u hd hu hx hy rx ry;cases d with
  |tup ds=>exact absurd hd (by show ¬ D.depths ds+1<=0;omega)
  |non=>
   cases hx;cases rx;cases e with
   |non=>cases hy;cases ry;exact RcAt.none_none
   |bl b=>cases hy;cases ry;exact RcAt.none_bool b
   |int b=>cases hy;let⟨t,rfl⟩:=ry;exact RcAt.none_int b t
   |str b=>cases hy;let⟨t,rfl⟩:=ry;exact RcAt.none_str b t
   |tup es=>let⟨a,vs,rfl,q,r⟩:=hy;cases ry;let⟨its,_,p,_⟩:=I.tuple q;exact RcAt.none_tuple p ⋯
  |bl a=>
   cases hx;cases rx;cases e with
   |non=>cases hy;cases ry;exact RcAt.bool_none a
   |bl b=>cases hy;cases ry;exact RcAt.bool_bool a b
   |int b=>cases hy;let⟨t,rfl⟩:=ry;exact RcAt.bool_int a b t
   |str b=>cases hy;let⟨t,rfl⟩:=ry;exact RcAt.bool_str a b t
   |tup es=>let⟨a',vs,rfl,q,r⟩:=hy;cases ry;let⟨its,_,p,_⟩:=I.tuple q;exact RcAt.bool_tuple a p ⋯
  |int a=>
   cases hx;let⟨t',rfl⟩:=rx;cases e with
   |non=>cases hy;cases ry;exact RcAt.int_none a t'
   |bl b=>cases hy;cases ry;exact RcAt.int_bool a t' b
   |int b=>cases hy;let⟨t,rfl⟩:=ry;exact RcAt.int_int a t' b t
   |str b=>cases hy;let⟨t,rfl⟩:=ry;exact RcAt.int_str a t' b t
   |tup es=>let⟨a',vs,rfl,q,r⟩:=hy;cases ry;let⟨its,_,p,_⟩:=I.tuple q;exact RcAt.int_tuple a t' p ⋯
  |str a=>
   cases hx;let⟨t',rfl⟩:=rx;cases e with
   |non=>cases hy;cases ry;exact RcAt.str_none a t'
   |bl b=>cases hy;cases ry;exact RcAt.str_bool a t' b
   |int b=>cases hy;let⟨t,rfl⟩:=ry;exact RcAt.str_int a t' b t
   |str b=>cases hy;let⟨t,rfl⟩:=ry;exact RcAt.str_str a t' b t
   |tup es=>let⟨a',vs,rfl,q,r⟩:=hy;cases ry;let⟨its,_,p,_⟩:=I.tuple q;exact RcAt.str_tuple a t' p ⋯
 |succ n ih=>
  intro d e A x y v u hd hu hx hy rx ry;by_cases h0:d.depth<=n
  ·exact ih d e A x y v u h0 ⋯ hx hy rx ry
  ·cases d with
   |non=>exact absurd (show D.depth .non<=n from ZO n) h0
   |bl b=>exact absurd (show D.depth (.bl b)<=n from ZO n) h0
   |int b=>exact absurd (show D.depth (.int b)<=n from ZO n) h0
   |str b=>exact absurd (show D.depth (.str b)<=n from ZO n) h0
   |tup ds=>
    have jv:D.depths ds<=n:=by have:D.depths ds+1<=n+1:=hd;omega
    let⟨a,vs,rfl,q,r⟩:=hx;cases rx
    let⟨its,rv,p,_⟩:=I.tuple q;cases e with
    |non=>cases hy;cases ry;exact RcAt.tuple_none p ⋯
    |bl b=>cases hy;cases ry;exact RcAt.tuple_bool b p ⋯
    |int b=>cases hy;let⟨t,rfl⟩:=ry;exact RcAt.tuple_int b t p ⋯
    |str b=>cases hy;let⟨t,rfl⟩:=ry;exact RcAt.tuple_str b t p ⋯
    |tup es=>
     let⟨a',ir,rfl,q',r'⟩:=hy;cases ry
     let⟨its',bf,p',_⟩:=I.tuple q';have l1:=r.length;have l2:=r'.length;have l3:=rv.length;have l4:=bf.length;have key:=RcAt.tuples (A:=A) (e:=λj=>match ds[j]?,es[j]? with|some x,a_ y=>eqD x y|_,_=>false) p p' ⋯ (λj h1 h2=>by
      have dm:j<ds.length:=by simp at h1;omega
      have b7:j<es.length:=by simp at h2;omega
      have g1:ds[j]?=a_ ds[j]:=by simp[dm]
      have g2:es[j]?=a_ es[j]:=by simp[b7]
      let⟨xv,qa,i9⟩:=r.at g1;let⟨yv,qk,md⟩:=r'.at g2;let⟨xu,jt,c9⟩:=rv.get qa;let⟨yu,j7,b9⟩:=bf.get qk;have e1:its.toArray[j]=xu:=by have:its[j]?=a_ xu:=jt;simpa using(Zc.mp this).2
      have e2:its'.toArray[j]=yu:=by have:its'[j]?=a_ yu:=j7;simpa using(Zc.mp this).2
      rw[e1,e2];simp only[g1,g2];have zy:=D.depths_le g1;refine jD (ih ds[j] es[j] A.in1 xv yv xu yu ⋯ (by show A.units+1+n<cLine;omega) i9 md c9 b9) (λev=>by
      subst ev;have u5:xv=yv:=RelV.inj c9 b9;subst u5;rw[tG I n ds[j] es[j] xv ⋯ i9 md];exact oE _) (Dq i9 c9))
     have sz:((ZD (min its.toArray.size its'.toArray.size)).all (λj=>match ds[j]?,es[j]? with|some x,a_ y=>eqD x y|_,_=>false)&&its.toArray.size == its'.toArray.size)=eqD (.tup ds) (.tup es):=by
      have a1:its.toArray.size=ds.length:=by simp;omega
      have a2:its'.toArray.size=es.length:=by simp;omega
      rw[a1,a2];simp only[eqD];exact vT
     rw[<-sz];exact key
def P'(I:Inv X FR σ H s){d:D}{A:w_}(hd:d.depth<=n)(hu:A.units+n<cLine)(hx:Rep X.K H d x)(hy:Rep X.K H e y)(rx:RelV x v)(ry:RelV y u):EqAt A s v u (eqD d e):=jD (Us I n d e A x y v u hd hu hx hy rx ry) (λev=>by subst ev;have u5:x=y:=RelV.inj rx ry;subst u5;rw[tG I n d e x hd hx hy];exact oE _) (Dq hx rx)
def S5(I:Inv X FR σ H s):∀(n:Nat)(d e:D)(A:w_)(x y:V)(v u:s_),d.depth<=n->A.units+n<cLine->Rep X.K H d x->Rep X.K H e y->RelV x v->RelV y u->RcNeAt A s v u (!eqD d e):=by
 intro n
 induction n with
 |zero=>
  intro d e A x y v u hd hu hx hy rx ry;cases d with
  |tup ds=>exact absurd hd (by show ¬ D.depths ds+1<=0;omega)
  |non=>
   cases hx;cases rx;cases e with
   |non=>cases hy;cases ry;exact RcNeAt.none_none
   |bl b=>cases hy;cases ry;exact RcNeAt.none_bool b
   |int b=>cases hy;let⟨t,rfl⟩:=ry;exact RcNeAt.none_int b t
   |str b=>cases hy;let⟨t,rfl⟩:=ry;exact RcNeAt.none_str b t
   |tup es=>let⟨a,vs,rfl,q,r⟩:=hy;cases ry;let⟨its,_,p,_⟩:=I.tuple q;exact RcNeAt.none_tuple p ⋯
  |bl a=>
   cases hx;cases rx;cases e with
   |non=>cases hy;cases ry;exact RcNeAt.bool_none a
   |bl b=>cases hy;cases ry;exact RcNeAt.bool_bool a b
   |int b=>cases hy;let⟨t,rfl⟩:=ry;exact RcNeAt.bool_int a b t
   |str b=>cases hy;let⟨t,rfl⟩:=ry;exact RcNeAt.bool_str a b t
   |tup es=>let⟨a',vs,rfl,q,r⟩:=hy;cases ry;let⟨its,_,p,_⟩:=I.tuple q;exact RcNeAt.bool_tuple a p ⋯
  |int a=>
   cases hx;let⟨t',rfl⟩:=rx;cases e with
   |non=>cases hy;cases ry;exact RcNeAt.int_none a t'
   |bl b=>cases hy;cases ry;exact RcNeAt.int_bool a t' b
   |int b=>cases hy;let⟨t,rfl⟩:=ry;exact RcNeAt.int_int a t' b t
   |str b=>cases hy;let⟨t,rfl⟩:=ry;exact RcNeAt.int_str a t' b t
   |tup es=>let⟨a',vs,rfl,q,r⟩:=hy;cases ry;let⟨its,_,p,_⟩:=I.tuple q;exact RcNeAt.int_tuple a t' p ⋯
  |str a=>
   cases hx;let⟨t',rfl⟩:=rx;cases e with
   |non=>cases hy;cases ry;exact RcNeAt.str_none a t'
   |bl b=>cases hy;cases ry;exact RcNeAt.str_bool a t' b
   |int b=>cases hy;let⟨t,rfl⟩:=ry;exact RcNeAt.str_int a t' b t
   |str b=>cases hy;let⟨t,rfl⟩:=ry;exact RcNeAt.str_str a t' b t
   |tup es=>let⟨a',vs,rfl,q,r⟩:=hy;cases ry;let⟨its,_,p,_⟩:=I.tuple q;exact RcNeAt.str_tuple a t' p ⋯
 |succ n ih=>
  intro d e A x y v u hd hu hx hy rx ry;by_cases h0:d.depth<=n
  ·exact ih d e A x y v u h0 ⋯ hx hy rx ry
  ·cases d with
   |non=>exact absurd (show D.depth .non<=n from ZO n) h0
   |bl b=>exact absurd (show D.depth (.bl b)<=n from ZO n) h0
   |int b=>exact absurd (show D.depth (.int b)<=n from ZO n) h0
   |str b=>exact absurd (show D.depth (.str b)<=n from ZO n) h0
   |tup ds=>
    have jv:D.depths ds<=n:=by have:D.depths ds+1<=n+1:=hd;omega
    let⟨a,vs,rfl,q,r⟩:=hx;cases rx
    let⟨its,rv,p,_⟩:=I.tuple q;cases e with
    |non=>cases hy;cases ry;exact RcNeAt.tuple_none p ⋯
    |bl b=>cases hy;cases ry;exact RcNeAt.tuple_bool b p ⋯
    |int b=>cases hy;let⟨t,rfl⟩:=ry;exact RcNeAt.tuple_int b t p ⋯
    |str b=>cases hy;let⟨t,rfl⟩:=ry;exact RcNeAt.tuple_str b t p ⋯
    |tup es=>
     let⟨a',ir,rfl,q',r'⟩:=hy;cases ry
     let⟨its',bf,p',_⟩:=I.tuple q';have l1:=r.length;have l2:=r'.length;have l3:=rv.length;have l4:=bf.length;have key:=RcNeAt.tuples (A:=A) (e:=λj=>match ds[j]?,es[j]? with|some x,a_ y=>eqD x y|_,_=>false) p p' ⋯ (λj h1 h2=>by
      have dm:j<ds.length:=by simp at h1;omega
      have b7:j<es.length:=by simp at h2;omega
      have g1:ds[j]?=a_ ds[j]:=by simp[dm]
      have g2:es[j]?=a_ es[j]:=by simp[b7]
      let⟨xv,qa,i9⟩:=r.at g1;let⟨yv,qk,md⟩:=r'.at g2;let⟨xu,jt,c9⟩:=rv.get qa;let⟨yu,j7,b9⟩:=bf.get qk;have e1:its.toArray[j]=xu:=by have:its[j]?=a_ xu:=jt;simpa using(Zc.mp this).2
      have e2:its'.toArray[j]=yu:=by have:its'[j]?=a_ yu:=j7;simpa using(Zc.mp this).2
      rw[e1,e2];simp only[g1,g2];have zy:=D.depths_le g1;exact P' I (n:=n) ⋯ (by show A.units+1+n<cLine;omega) i9 md c9 b9)
     have sz:(!((ZD (min its.toArray.size its'.toArray.size)).all (λj=>match ds[j]?,es[j]? with|some x,a_ y=>eqD x y|_,_=>false)&&its.toArray.size == its'.toArray.size))=(!eqD (.tup ds) (.tup es)):=by
      have a1:its.toArray.size=ds.length:=by simp;omega
      have a2:its'.toArray.size=es.length:=by simp;omega
      rw[a1,a2];simp only[eqD];rw[vT]
     rw[<-sz];exact key
def Wp(K:Zf):R2:=λx y H Q=>∃d e,Rep K H d x/\Rep K H e y/\d.depth<=40/\Q (.bl (eqD d e)) H
def Wq(K:Zf):R2:=λx y H Q=>∃d e,Rep K H d x/\Rep K H e y/\d.depth<=40/\Q (.bl (!eqD d e)) H
def S6(hu:X.A.units+64<cLine)(K:Zf)(hK:X.K=K):OpR X (ZZ .Eq) (Wp K):=by subst hK;intro FR s σ H x y v u Q I rx ry h;let⟨d,e,hx,hy,hd,q⟩:=h;exact Us I 40 d e X.A x y v u hd ⋯ hx hy rx ry X.prog X.w X.xe _ ⟨.bl _,H,I,rfl,q⟩
def S7(hu:X.A.units+64<cLine)(K:Zf)(hK:X.K=K):OpR X (ZZ .NotEq) (Wq K):=by subst hK;intro FR s σ H x y v u Q I rx ry h;let⟨d,e,hx,hy,hd,q⟩:=h;exact S5 I 40 d e X.A x y v u hd ⋯ hx hy rx ry X.prog X.w X.xe _ ⟨.bl _,H,I,rfl,q⟩
def FB(K:Zf)(H:Hp)(ds:C_ D)(v:V):Prop:=∃a vs,v=.ref a/\SqL K H a vs/\jB K H ds vs
def yM{xs ys:C_ D}(h:xs.length=ys.length):(ZD xs.length).all (λj=>match xs[j]?,ys[j]? with|some x,a_ y=>eqD x y|_,_=>false)=jC xs ys:=by have:=vT (xs:=xs) (ys:=ys);rw[h,Nat.min_self,beq_self_eq_true,Bool.and_true]at this;rw[h];exact this
def B4{xs ys:C_ D}(h:jC xs ys=true):xs.length=ys.length:=by rw[<-vT,Z2]at h;exact eq_of_beq h.2
def uJ{I:Inv X FR σ H s}{A:w_}{ds es:C_ D}{its its':C_ s_}(r:jB X.K H ds vs)(r':jB X.K H es ir)(rv:bN vs its)(bf:bN ir its')(hd:D.depths ds<=40)(hu:A.units+42<cLine):
  ∀j(h1:j<its.toArray.size)(h2:j<its'.toArray.size),EqAt A.in1 s its.toArray[j] its'.toArray[j] (match ds[j]?,es[j]? with|some x,a_ y=>eqD x y|_,_=>false):=λj h1 h2=>by
 have l1:=r.length;have l2:=r'.length;have l3:=rv.length;have l4:=bf.length;have dm:j<ds.length:=by simp at h1;omega
 have b7:j<es.length:=by simp at h2;omega
 have g1:ds[j]?=a_ ds[j]:=by simp[dm]
 have g2:es[j]?=a_ es[j]:=by simp[b7]
 let⟨xv,qa,i9⟩:=r.at g1;let⟨yv,qk,md⟩:=r'.at g2;let⟨xu,jt,c9⟩:=rv.get qa;let⟨yu,j7,b9⟩:=bf.get qk;have e1:its.toArray[j]=xu:=by simpa using(Zc.mp jt).2
 have e2:its'.toArray[j]=yu:=by simpa using(Zc.mp j7).2
 rw[e1,e2];simp only[g1,g2];have zy:=D.depths_le g1;exact P' I (n:=40) ⋯ (by show A.units+1+40<cLine;omega) i9 md c9 b9
def Wr(K:Zf):R2:=λx y H Q=>∃ds es,FB K H ds x/\FB K H es y/\D.depths ds<=40/\Q (.bl (jC ds es)) H
def Ws(K:Zf):R2:=λx y H Q=>∃ds es,FB K H ds x/\FB K H es y/\D.depths ds<=40/\Q (.bl (!jC ds es)) H
def S8(hu:X.A.units+64<cLine)(K:Zf)(hK:X.K=K):OpR X (ZZ .Eq) (Wr K):=by
 subst hK;intro FR s σ H x y v u Q I rx ry h;let⟨ds,es,⟨a,vs,rfl,q,r⟩,⟨b,ir,rfl,q',r'⟩,hd,k⟩:=h;cases rx;cases ry;let⟨its,rv,p,_⟩:=I.list q;let⟨its',bf,p',_⟩:=I.list q';have l1:=r.length;have l2:=r'.length;have l3:=rv.length;have l4:=bf.length;by_cases hl:ds.length=es.length
 ·refine eq_listAt p.isList p'.isList (by simp;omega) ⋯ (uJ (I:=I) r r' rv bf hd ⋯) ⟨.bl _,H,I,rfl,?_⟩;have e1:its.toArray.size=ds.length:=by simp;omega
  rw[e1,yM hl];exact k
 ·refine eq_list_lengthsAt p.isList p'.isList (by simp;omega) ⋯ ⟨.bl false,H,I,rfl,?_⟩;have e:jC ds es=false:=by
   cases h:jC ds es with
   |false=>rfl
   |true=>exact absurd (B4 h) hl
  rw[e]at k;exact k
def S9(hu:X.A.units+64<cLine)(K:Zf)(hK:X.K=K):OpR X (ZZ .NotEq) (Ws K):=by
 subst hK;intro FR s σ H x y v u Q I rx ry h;let⟨ds,es,⟨a,vs,rfl,q,r⟩,⟨b,ir,rfl,q',r'⟩,hd,k⟩:=h;cases rx;cases ry;let⟨its,rv,p,_⟩:=I.list q;let⟨its',bf,p',_⟩:=I.list q';have l1:=r.length;have l2:=r'.length;have l3:=rv.length;have l4:=bf.length;by_cases hl:ds.length=es.length
 ·refine RcNeAt.lists p.isList p'.isList (by simp;omega) ⋯ (uJ (I:=I) r r' rv bf hd ⋯) X.prog X.w X.xe _ ⟨.bl _,H,I,rfl,?_⟩;have e1:its.toArray.size=ds.length:=by simp;omega
  rw[e1,yM hl];exact k
 ·refine RcNeAt.lists_lengths p.isList p'.isList (by simp;omega) ⋯ X.prog X.w X.xe _ ⟨.bl true,H,I,rfl,?_⟩;have e:jC ds es=false:=by
   cases h:jC ds es with
   |false=>rfl
   |true=>exact absurd (B4 h) hl
  rw[e]at k;exact k
def Ut(K:Zf)(neg:Bool):R2:=λx y H Q=>∃d p ds vs,y=.ref p/\(SqL K H p vs\/SqT K H p vs)/\Rep K H d x/\jB K H ds vs/\D.depths ds<=40/\Q (.bl (if neg then !ds.any (λe=>eqD e d) else ds.any (λe=>eqD e d))) H
noncomputable def isD(K:Zf)(H:Hp)(d:D)(u:s_):Bool:=@decide (∃e x,RelV x u/\Rep K H e x/\e.depth<=40/\eqD e d=true) (y06 _)
def Lv(I:Inv X FR σ H s){e:D}(r:RelV x u)(h:Rep X.K H e x)(hd:e.depth<=40):isD X.K H d u=eqD e d:=by
 unfold isD;cases q:eqD e d with
 |true=>exact @decide_eq_true _ (y06 _) ⟨e,x,r,h,hd,q⟩
 |false=>refine @decide_eq_false _ (y06 _) ?_;rintro⟨e',x',r',h',bx,q'⟩;have ex:x'=x:=RelV.inj r' r;subst ex;rw[tG I 40 e' e x' bx h' h]at q';rw[q]at q';cases q'
theorem vU(I:Inv X FR σ H s):∀{ds:C_ D}{vs:C_ V}{us:C_ s_},jB X.K H ds vs->bN vs us->D.depths ds<=40->us.any (isD X.K H d)=ds.any λe=>eqD e d
 |[],[],_,_,.nil,_=>rfl
 |e::ds,_::_,_,⟨h,r⟩,.cons rv d9,hd=>by
  have h1:e.depth<=40/\D.depths ds<=40:=by have:max e.depth (D.depths ds)<=40:=hd;omega
  rw[y2a,y2a,Lv I rv h h1.1,vU I r d9 h1.2]
 |[],_::_,_,h,_,_=>h.elim
 |_::_,[],_,h,_,_=>h.elim
theorem vV(I:Inv X FR σ H s){A:w_}(hx:Rep X.K H d x)(rx:RelV x v)(hu:A.units+42<cLine):∀{ds:C_ D}{vs:C_ V}{us:C_ s_},jB X.K H ds vs->bN vs us->D.depths ds<=40->∀u∈us,EqAt A.in1 s u v (isD X.K H d u)
 |[],[],_,_,.nil,_=>λu hu=>by cases hu
 |e::ds,_::_,_,⟨h,r⟩,.cons rv d9,hd=>λu hm=>by
  have h1:e.depth<=40/\D.depths ds<=40:=by have:max e.depth (D.depths ds)<=40:=hd;omega
  rcases Zs.mp hm with rfl|hm
  ·rw[Lv I rv h h1.1];exact P' I (n:=40) h1.1 (by show A.units+1+40<cLine;omega) h hx rv rx
  ·exact vV I hx rx hu r d9 h1.2 u hm
 |[],_::_,_,h,_,_=>h.elim
 |_::_,[],_,h,_,_=>h.elim
def Sa(hu:X.A.units+64<cLine)(K:Zf)(hK:X.K=K):OpR X (ZZ .In) (Ut K false):=by
 subst hK;intro FR s σ H x y v u Q I rx ry h;let⟨d,p,ds,vs,rfl,hq,hx,hr,hd,k⟩:=h;cases ry
 rcases hq with hq|hq
 ·let⟨its,r,pl,hz⟩:=I.list hq;refine SeqAt.in_listAt (isD X.K H d) pl.isList (λw hw=>vV I hx rx ⋯ hr r hd w (l_ hw)) ⟨.bl _,H,I,rfl,?_⟩;rw[show its.toArray.any (isD X.K H d)=its.any (isD X.K H d) by simp,vU I hr r hd];exact k
 ·let⟨its,r,pl,hz⟩:=I.tuple hq;refine SeqAt.in_tupleAt (isD X.K H d) pl (λw hw=>vV I hx rx ⋯ hr r hd w (l_ hw)) ⟨.bl _,H,I,rfl,?_⟩;rw[show its.toArray.any (isD X.K H d)=its.any (isD X.K H d) by simp,vU I hr r hd];exact k
def JT(hu:X.A.units+64<cLine)(K:Zf)(hK:X.K=K):OpR X (ZZ .NotIn) (Ut K true):=by
 subst hK;intro FR s σ H x y v u Q I rx ry h;let⟨d,p,ds,vs,rfl,hq,hx,hr,hd,k⟩:=h;cases ry
 rcases hq with hq|hq
 ·let⟨its,r,pl,hz⟩:=I.list hq;refine SeqAt.notIn_listAt (isD X.K H d) pl.isList (λw hw=>vV I hx rx ⋯ hr r hd w (l_ hw)) ⟨.bl _,H,I,rfl,?_⟩;rw[show its.toArray.any (isD X.K H d)=its.any (isD X.K H d) by simp,vU I hr r hd];exact k
 ·let⟨its,r,pl,hz⟩:=I.tuple hq;refine SeqAt.notIn_tupleAt (isD X.K H d) pl (λw hw=>vV I hx rx ⋯ hr r hd w (l_ hw)) ⟨.bl _,H,I,rfl,?_⟩;rw[show its.toArray.any (isD X.K H d)=its.any (isD X.K H d) by simp,vU I hr r hd];exact k
end
end L2
namespace L2
open PySem
def keyLt:Sum Int Str->Sum Int Str->Bool
 |.inl a,.inl b=>decide (a<b)
 |.inr a,.inr b=>decide (a.cps.toList<b.cps.toList)
 |_,_=>false
def nB:C_ (Sum Int Str)->C_ (Sum Int Str)->Bool
 |[],[]=>false
 |[],_::_=>true
 |_::_,[]=>false
 |x::xs,y::ys=>if x=y then nB xs ys else keyLt x y
def oF:Sum Int Str->Bool
 |.inl _=>true
 |.inr _=>false
abbrev shape(ks:C_ (Sum Int Str)):C_ Bool:=ks.map oF
def IQ{a b:Str}(h:a.cps.toList=b.cps.toList):a=b:=by
 cases a;cases b
 congr;exact Array.toList_inj.mp h
def Lw(h:keyLt a b=true):keyLt b a=false:=by
 cases a <;> cases b <;> first|rfl|skip
 ·have:_<_:=of_decide_eq_true h;exact decide_eq_false ⋯
 ·exact decide_eq_false (List.lt_asymm (of_decide_eq_true h))
def Dr(k:oF a=oF b)(h:keyLt a b=false)(h':keyLt b a=false):a=b:=by
 cases a <;> cases b <;> first|cases k|skip
 ·have h1:=of_decide_eq_false h;have h2:=of_decide_eq_false h';congr 1;omega
 ·have h1:=of_decide_eq_false h;have h2:=of_decide_eq_false h';congr 1;exact IQ (List.le_antisymm (y1o.mp h2) (y1o.mp h1))
theorem Lx:∀{a b c:Sum Int Str},oF a=oF b->oF b=oF c->keyLt b a=false->keyLt c b=false->keyLt c a=false
 |.inl a,.inl b,.inl c,_,_,h,h'=>by have h1:¬ b<a:=of_decide_eq_false h;have h2:¬ c<b:=of_decide_eq_false h';exact decide_eq_false ⋯
 |.inr a,.inr b,.inr c,_,_,h,h'=>by have h1:a.cps.toList<=b.cps.toList:=y1o.mp (of_decide_eq_false h);have h2:b.cps.toList<=c.cps.toList:=y1o.mp (of_decide_eq_false h');exact decide_eq_false (y1o.mpr (List.le_trans h1 h2))
 |.inl _,.inr _,_,k,_,_,_=>by cases k
 |.inr _,.inl _,_,k,_,_,_=>by cases k
 |.inl _,.inl _,.inr _,_,k,_,_=>by cases k
 |.inr _,.inr _,.inl _,_,k,_,_=>by cases k
theorem IR:∀{a b:C_ (Sum Int Str)},nB a b=true->nB b a=false
 |[],[],_=>rfl
 |[],_::_,_=>rfl
 |_::_,[],h=>by cases h
 |x::xs,y::ys,h=>by
  unfold nB at h⊢;by_cases e:x=y
  ·subst e;rw[if_pos rfl]at h⊢;exact IR h
  ·rw[if_neg e]at h;rw[if_neg λz=>e z.symm];exact Lw h
theorem FC:∀{a b:C_ (Sum Int Str)},shape a=shape b->nB a b=false->nB b a=false->a=b
 |[],[],_,_,_=>rfl
 |[],_::_,s,_,_=>by cases s
 |_::_,[],s,_,_=>by cases s
 |x::xs,y::ys,s,h,h'=>by
  have s1:oF x=oF y:=by simpa using congrArg List.head? s
  have s2:shape xs=shape ys:=by simpa using congrArg List.tail s
  unfold nB at h h';by_cases e:x=y
  ·subst e;rw[if_pos rfl]at h h';rw[FC s2 h h']
  ·rw[if_neg e]at h;rw[if_neg λz=>e z.symm]at h';exact absurd (Dr s1 h h') e
theorem IS:∀{a b c:C_ (Sum Int Str)},shape a=shape b->shape b=shape c->nB b a=false->nB c b=false->nB c a=false
 |[],[],[],_,_,_,_=>rfl
 |[],[],_::_,_,s',_,_=>by cases s'
 |[],_::_,_,s,_,_,_=>by cases s
 |_::_,[],_,s,_,_,_=>by cases s
 |_::_,_::_,[],_,s',_,_=>by cases s'
 |x::xs,y::ys,z::zs,s,s',h,h'=>by
  have s1:oF x=oF y:=by simpa using congrArg List.head? s
  have s2:shape xs=shape ys:=by simpa using congrArg List.tail s
  have s3:oF y=oF z:=by simpa using congrArg List.head? s'
  have s4:shape ys=shape zs:=by simpa using congrArg List.tail s'
  unfold nB at h h'⊢;by_cases e:y=x
  ·subst e;rw[if_pos rfl]at h;by_cases e':z=y
   ·subst e';rw[if_pos rfl]at h'⊢;exact IS s2 s4 h h'
   ·rw[if_neg e']at h'⊢;exact h'
  ·rw[if_neg e]at h;by_cases e':z=y
   ·subst e';rw[if_neg e];exact h
   ·rw[if_neg e']at h';by_cases e2:z=x
    ·subst e2;exfalso;exact e (Dr s3 h h')
    ·rw[if_neg e2];exact Lx s1 s3 h h'
end L2
namespace L2
open PySem PySem.W PyProof.Rows
section
variable(lt:Nat->Nat->Bool)
def evT{α:Type}:KasT α->α
 |.ret a=>a
 |.ask i j k=>evT (k (lt i j))
theorem oG{α β:Type}(f:α->KasT β):∀t:KasT α,evT lt (t.bind f)=evT lt (f (evT lt t))
 |.ret _=>rfl
 |.ask i j k=>oG f (k (lt i j))
abbrev pa'(p:Array Nat)(i:Nat):Nat:=p.getD i 0
def STo(p:Array Nat)(k:Nat):Prop:=∀i j,i<=j->j<k->lt (pa' p j) (pa' p i)=false
def NIc(p:Array Nat)(k:Nat):Prop:=∀i j,i<=j->j<k->lt (pa' p i) (pa' p j)=false
end
def lV{p:Array Nat}:pa' p i=(p[i]?).getD 0:=by unfold pa';simp[Array.getD_eq_getD_getElem?]
structure Ly(lt:Nat->Nat->Bool)(p:Array Nat)(n f:Nat)(r:Array Nat×Nat×Nat):Prop where
 perm:r.1.Perm p
 lo:n<=r.2.1
 hi:r.2.1<=n+f
 q:r.2.2+1<=r.2.1
 ni:NIc lt r.1 r.2.1
 eq:∀i j,r.2.1-(r.2.2+1)<=i->i<r.2.1->r.2.1-(r.2.2+1)<=j->j<r.2.1->lt (pa' r.1 i) (pa' r.1 j)=false
section
variable{lt:Nat->Nat->Bool}(tr:∀i j k,lt j i=false->lt k j=false->lt k i=false)(as:∀i j,lt i j=true->lt j i=false)
include as in
theorem kH(i:Nat):lt i i=false:=by
 cases h:lt i i with
 |false=>rfl
 |true=>have:=as i i h;rw[h]at this;exact this
include tr as
theorem Hr(p:Array Nat):∀f n,1<=n->STo lt p n->n<=evT lt (kas_asc p f n)/\evT lt (kas_asc p f n)<=n+f/\STo lt p (evT lt (kas_asc p f n))
 |0,n,_,h=>⟨Zi _,Zi _,h⟩
 |f+1,n,h1,h=>by
  have e:evT lt (kas_asc p (f+1) n)=evT lt (if lt (p.getD n 0) (p.getD (n-1) 0)=true then KasT.ret n else kas_asc p f (n+1)):=rfl;rw[e];by_cases c:lt (p.getD n 0) (p.getD (n-1) 0)=true
  ·rw[if_pos c];exact⟨Zi _,Nat.le_add_right _ _,h⟩
  ·rw[if_neg c];have c':lt (p.getD n 0) (p.getD (n-1) 0)=false:=by simpa using c
   have h2:STo lt p (n+1):=λi j bp hj=>by
    rcases y0N (Nat.le_of_lt_succ hj) with hj|rfl
    ·exact h i j bp hj
    ·rcases y0N bp with hi|rfl
     ·exact tr _ _ _ (h i (j-1) ⋯ ⋯) c'
     ·exact kH as _
   let⟨a,b,c⟩:=Hr p f (n+1) ⋯ h2;exact⟨⋯,⋯,c⟩
def rev_eq{p:Array Nat}(hn:n<=p.size)(eq:∀i j,a<=i->i<n->a<=j->j<n->lt (pa' p i) (pa' p j)=false)(i j:Nat):
  lt (pa' (kas_rev p a n) i) (pa' (kas_rev p a n) j)=lt (pa' p i) (pa' p j):=by
 have g:∀k,pa' (kas_rev p a n) k=if a<=k/\k<n then pa' p (a+n-1-k) else pa' p k:=λk=>by rw[lV,lV,lV];unfold kas_rev;rw[getElem?_mirror_all hn];split <;> rfl
 have sim:∀k,∃k',pa' (kas_rev p a n) k=pa' p k'/\lt (pa' p k) (pa' p k')=false/\lt (pa' p k') (pa' p k)=false:=λk=>by
  rw[g];by_cases h:a<=k/\k<n
  ·rw[if_pos h];exact⟨_,rfl,eq _ _ h.1 h.2 ⋯ ⋯,eq _ _ ⋯ ⋯ h.1 h.2⟩
  ·rw[if_neg h];exact⟨k,rfl,kH as _,kH as _⟩
 let⟨i',ei,i1,i2⟩:=sim i;let⟨j',ej,j1,j2⟩:=sim j;rw[ei,ej];cases h1:lt (pa' p i) (pa' p j) with
 |false=>exact tr _ _ _ j1 (tr _ _ _ h1 i2)
 |true=>
  cases h2:lt (pa' p i') (pa' p j') with
  |true=>rfl
  |false=>have:=tr _ _ _ j2 (tr _ _ _ h2 i1);rw[h1]at this;exact this.symm
theorem E7:∀f (p:Array Nat) n q,n+f<=p.size->q+1<=n->NIc lt p n->(∀i j,n-(q+1)<=i->i<n->n-(q+1)<=j->j<n->lt (pa' p i) (pa' p j)=false)->Ly lt p n f (evT lt (kas_desc f p n q))
 |0,p,n,q,_,hq,hN,hE=>⟨y2u _,Zi _,Zi _,hq,hN,hE⟩
 |f+1,p,n,q,hs,hq,hN,hE=>by
  have e:evT lt (kas_desc (f+1) p n q)=evT lt (if lt (p.getD n 0) (p.getD (n-1) 0)=true then(if q>0 then kas_desc f (kas_rev p (n-(q+1)) n) (n+1) 0 else kas_desc f p (n+1) 0)
    else .ask (p.getD (n-1) 0) (p.getD n 0) λd=>if d=true then .ret (p,n,q) else kas_desc f p (n+1) (q+1)):=rfl
  by_cases c:lt (p.getD n 0) (p.getD (n-1) 0)=true
  ·have down:∀p':Array Nat,p'.Perm p->(∀i j,lt (pa' p' i) (pa' p' j)=lt (pa' p i) (pa' p j))->evT lt (kas_desc (f+1) p n q)=evT lt (kas_desc f p' (n+1) 0)->Ly lt p n (f+1) (evT lt (kas_desc (f+1) p n q)):=λp' hp hl hev=>by
    have qb:NIc lt p' (n+1):=λi j bp hj=>by
     rw[hl];rcases y0N (Nat.le_of_lt_succ hj) with hj|rfl
     ·exact hN i j bp hj
     ·rcases y0N bp with hi|rfl
      ·exact tr _ _ _ (as _ _ c) (hN i (j-1) ⋯ ⋯)
      ·exact kH as _
    have m9:∀i j,n+1-(0+1)<=i->i<n+1->n+1-(0+1)<=j->j<n+1->lt (pa' p' i) (pa' p' j)=false:=λi j h1 h2 h3 h4=>by
     have:i=j:=⋯;subst this;exact kH as _
    have ih:=E7 f p' (n+1) 0 (by rw[hp.size_eq];omega) ⋯ qb m9;rw[<-hev]at ih;let⟨a1,a2,a3,a4,a5,a6⟩:=ih;exact⟨a1.trans hp,⋯,⋯,a4,a5,a6⟩
   rw[if_pos c]at e;by_cases hq0:q>0
   ·rw[if_pos hq0]at e;exact down _ (y2v _ _ _ _) (rev_eq tr as ⋯ hE) e
   ·rw[if_neg hq0]at e;exact down p (y2u _) (λ_ _=>rfl) e
  ·rw[if_neg c]at e;have c':lt (p.getD n 0) (p.getD (n-1) 0)=false:=by simpa using c
   have e2:evT lt (kas_desc (f+1) p n q)=evT lt (if lt (p.getD (n-1) 0) (p.getD n 0)=true then KasT.ret (p,n,q) else kas_desc f p (n+1) (q+1)):=e;by_cases d:lt (p.getD (n-1) 0) (p.getD n 0)=true
   ·rw[if_pos d]at e2;rw[e2];exact⟨y2u _,Zi _,Nat.le_add_right _ _,hq,hN,hE⟩
   ·rw[if_neg d]at e2;have d':lt (p.getD (n-1) 0) (p.getD n 0)=false:=by simpa using d
    have qb:NIc lt p (n+1):=λi j bp hj=>by
     rcases y0N (Nat.le_of_lt_succ hj) with hj|rfl
     ·exact hN i j bp hj
     ·rcases y0N bp with hi|rfl
      ·exact tr _ _ _ d' (hN i (j-1) ⋯ ⋯)
      ·exact kH as _
    have m9:∀i j,n+1-(q+1+1)<=i->i<n+1->n+1-(q+1+1)<=j->j<n+1->lt (pa' p i) (pa' p j)=false:=λi j h1 h2 h3 h4=>by
     by_cases hi:i=n
     ·by_cases hj:j=n
      ·rw[hi,hj];exact kH as _
      ·rw[hi];exact tr _ _ _ (hE (n-1) j ⋯ ⋯ ⋯ ⋯) c'
     ·by_cases hj:j=n
      ·rw[hj];exact tr _ _ _ d' (hE i (n-1) ⋯ ⋯ ⋯ ⋯)
      ·exact hE i j ⋯ ⋯ ⋯ ⋯
    have ih:=E7 f p (n+1) (q+1) ⋯ ⋯ qb m9;rw[<-e2]at ih;let⟨a1,a2,a3,a4,a5,a6⟩:=ih;exact⟨a1,⋯,⋯,a4,a5,a6⟩
def FD{p:Array Nat}(h1:1<=n)(hn:n<=nrem)(hz:nrem<=p.size)(hN:NIc lt p n):
  n<=(evT lt (kas_tail3 n nrem p)).1/\(evT lt (kas_tail3 n nrem p)).1<=nrem/\(evT lt (kas_tail3 n nrem p)).2.Perm p/\STo lt (evT lt (kas_tail3 n nrem p)).2 (evT lt (kas_tail3 n nrem p)).1:=by
 have e:evT lt (kas_tail3 n nrem p)=(evT lt (kas_asc (kas_rev p 0 n) (nrem-n) n),kas_rev p 0 n):=by unfold kas_tail3;rw[oG];rfl
 have g:∀k,k<n->pa' (kas_rev p 0 n) k=pa' p (n-1-k):=λk hk=>by
  rw[lV,lV];unfold kas_rev;rw[getElem?_mirror_all ⋯,if_pos ⋯];congr 2;omega
 have hS:STo lt (kas_rev p 0 n) n:=λi j bp hj=>by rw[g i ⋯,g j hj];exact hN _ _ ⋯ ⋯
 let⟨a,b,c⟩:=Hr tr as (kas_rev p 0 n) (nrem-n) n h1 hS;rw[e];exact⟨a,by show evT lt (kas_asc (kas_rev p 0 n) (nrem-n) n)<=nrem;omega,y2v _ _ _ _,c⟩
def A2{p:Array Nat}(h1:1<=n)(hn:n+1<=nrem)(hz:nrem<=p.size)(hN:NIc lt p n)(hd:lt (pa' p n) (pa' p (n-1))=true):
  1<=(evT lt (kas_descPart n nrem p)).1/\(evT lt (kas_descPart n nrem p)).1<=nrem/\(evT lt (kas_descPart n nrem p)).2.Perm p/\STo lt (evT lt (kas_descPart n nrem p)).2 (evT lt (kas_descPart n nrem p)).1:=by
 have qb:NIc lt p (n+1):=λi j bp hj=>by
  rcases y0N (Nat.le_of_lt_succ hj) with hj|rfl
  ·exact hN i j bp hj
  ·rcases y0N bp with hi|rfl
   ·exact tr _ _ _ (as _ _ hd) (hN i (j-1) ⋯ ⋯)
   ·exact kH as _
 have m9:∀i j,n+1-(0+1)<=i->i<n+1->n+1-(0+1)<=j->j<n+1->lt (pa' p i) (pa' p j)=false:=λi j h1 h2 h3 h4=>by
  have:i=j:=⋯;subst this;exact kH as _
 have D:=E7 tr as (nrem-(n+1)) p (n+1) 0 ⋯ ⋯ qb m9;have e:evT lt (kas_descPart n nrem p)=evT lt (if(evT lt (kas_desc (nrem-(n+1)) p (n+1) 0)).2.2>0 then kas_tail3 (evT lt (kas_desc (nrem-(n+1)) p (n+1) 0)).2.1 nrem (kas_rev (evT lt (kas_desc (nrem-(n+1)) p (n+1) 0)).1 ((evT lt (kas_desc (nrem-(n+1)) p (n+1) 0)).2.1-((evT lt (kas_desc (nrem-(n+1)) p (n+1) 0)).2.2+1)) (evT lt (kas_desc (nrem-(n+1)) p (n+1) 0)).2.1) else kas_tail3 (evT lt (kas_desc (nrem-(n+1)) p (n+1) 0)).2.1 nrem (evT lt (kas_desc (nrem-(n+1)) p (n+1) 0)).1):=by unfold kas_descPart;rw[oG]
 generalize evT lt (kas_desc (nrem-(n+1)) p (n+1) 0)=r at D e;let⟨a1,a2,a3,a4,a5,a6⟩:=D;have sz:r.1.size=p.size:=a1.size_eq;rw[e];by_cases hq:r.2.2>0
 ·rw[if_pos hq];have hl:=rev_eq tr as (p:=r.1) (a:=r.2.1-(r.2.2+1)) (n:=r.2.1) ⋯ a6;let⟨b1,b2,b3,b4⟩:=FD tr as (n:=r.2.1) (nrem:=nrem) (p:=kas_rev r.1 (r.2.1-(r.2.2+1)) r.2.1) ⋯ ⋯ (by unfold kas_rev;rw[mirror_size];omega) (λi j bp hj=>by rw[hl];exact a5 i j bp hj);exact⟨⋯,b2,(b3.trans (y2v _ _ _ _)).trans a1,b4⟩
 ·rw[if_neg hq];let⟨b1,b2,b3,b4⟩:=FD tr as (n:=r.2.1) (nrem:=nrem) (p:=r.1) ⋯ ⋯ ⋯ a5;exact⟨⋯,b2,b3.trans a1,b4⟩
theorem B5(p:Array Nat):∀f n,1<=n->evT lt (kas_asc p f n)<n+f->lt (pa' p (evT lt (kas_asc p f n))) (pa' p (evT lt (kas_asc p f n)-1))=true
 |0,n,_,h=>absurd h (y0A _)
 |f+1,n,h1,h=>by
  have e:evT lt (kas_asc p (f+1) n)=evT lt (if lt (p.getD n 0) (p.getD (n-1) 0)=true then KasT.ret n else kas_asc p f (n+1)):=rfl;rw[e]at h⊢;by_cases c:lt (p.getD n 0) (p.getD (n-1) 0)=true
  ·rw[if_pos c];exact c
  ·rw[if_neg c]at h⊢;exact B5 p f (n+1) ⋯ ⋯
def Lz{p:Array Nat}(h1:1<=nrem)(hz:nrem<=p.size):
  1<=(evT lt (kas_count nrem p)).1/\(evT lt (kas_count nrem p)).1<=nrem/\(evT lt (kas_count nrem p)).2.Perm p/\STo lt (evT lt (kas_count nrem p)).2 (evT lt (kas_count nrem p)).1:=by
 have h0:STo lt p 1:=λi j bp hj=>by
  have:i=j:=⋯;subst this;exact kH as _
 let⟨a,b,c⟩:=Hr tr as p (nrem-1) 1 (Zi _) h0;have stop:=B5 tr as p (nrem-1) 1 (Zi _);have e:evT lt (kas_count nrem p)=evT lt (if(evT lt (kas_asc p (nrem-1) 1) == nrem)=true then .ret (evT lt (kas_asc p (nrem-1) 1),p) else if evT lt (kas_asc p (nrem-1) 1)>1 then .ask (p.getD 0 0) (p.getD (evT lt (kas_asc p (nrem-1) 1)-1) 0) λc=>if c=true then .ret (evT lt (kas_asc p (nrem-1) 1),p) else kas_descPart (evT lt (kas_asc p (nrem-1) 1)) nrem (kas_rev p 0 (evT lt (kas_asc p (nrem-1) 1))) else kas_descPart (evT lt (kas_asc p (nrem-1) 1)) nrem p):=by unfold kas_count;rw[oG]
 generalize evT lt (kas_asc p (nrem-1) 1)=n at a b c e stop;rw[e];by_cases hn:(n == nrem)=true
 ·rw[if_pos hn];exact⟨a,by show n<=nrem;omega,y2u _,c⟩
 ·rw[if_neg hn];have ko:n≠nrem:=by simpa using hn
  have st:=stop ⋯;by_cases h2:n>1
  ·rw[if_pos h2];have e2:∀k:Bool->KasT (Nat×Array Nat),evT lt (.ask (p.getD 0 0) (p.getD (n-1) 0) k)=evT lt (k (lt (p.getD 0 0) (p.getD (n-1) 0))):=λ_=>rfl;rw[e2];by_cases h3:lt (p.getD 0 0) (p.getD (n-1) 0)=true
   ·rw[if_pos h3];exact⟨a,by show n<=nrem;omega,y2u _,c⟩
   ·rw[if_neg h3];have xf:lt (pa' p 0) (pa' p (n-1))=false:=by simpa using h3
    have eq:∀i j,0<=i->i<n->0<=j->j<n->lt (pa' p i) (pa' p j)=false:=λi j _ hi _ hj=>by exact tr _ _ _ (c j (n-1) ⋯ ⋯) (tr _ _ _ xf (c 0 i ⋯ hi))
    have hl:=rev_eq tr as (p:=p) (a:=0) (n:=n) ⋯ eq;have g:pa' (kas_rev p 0 n) n=pa' p n:=by rw[lV,lV];unfold kas_rev;rw[getElem?_mirror_all ⋯,if_neg ⋯]
    let⟨b1,b2,b3,b4⟩:=A2 tr as (n:=n) (nrem:=nrem) (p:=kas_rev p 0 n) a ⋯ (by unfold kas_rev;rw[mirror_size];omega) (λi j bp hj=>by rw[hl];exact eq i j ⋯ ⋯ ⋯ hj) (by rw[hl];exact st);exact⟨b1,b2,b3.trans (y2v _ _ _ _),b4⟩
  ·rw[if_neg h2];have XG:n=1:=⋯;subst XG;exact A2 tr as (n:=1) (nrem:=nrem) (p:=p) (Zi _) ⋯ hz (λi j bp hj=>by
    have:i=j:=⋯;subst this;exact kH as _) st
theorem B6(p:Array Nat)(k:Nat)(hS:STo lt p k):∀f l r,r-l<=f->l<=r->r<=k->(∀i,i<l->lt (pa' p k) (pa' p i)=false)->(∀i,r<=i->i<k->lt (pa' p k) (pa' p i)=true)->
  l<=evT lt (kas_place p k f l r)/\evT lt (kas_place p k f l r)<=k/\(∀i,i<evT lt (kas_place p k f l r)->lt (pa' p k) (pa' p i)=false)/\(∀i,evT lt (kas_place p k f l r)<=i->i<k->lt (pa' p k) (pa' p i)=true)
 |0,l,r,hf,hl,hr,h1,h2=>by
  have:l=r:=⋯;subst this;exact⟨Zi _,hr,h1,h2⟩
 |f+1,l,r,hf,hl,hr,h1,h2=>by
  have e:evT lt (kas_place p k (f+1) l r)=evT lt (if l >= r then .ret l else .ask (p.getD k 0) (p.getD ((l+r)/2) 0) λc=>if c=true then kas_place p k f l ((l+r)/2) else kas_place p k f ((l+r)/2+1) r):=rfl;rw[e];by_cases kr:l >= r
  ·rw[if_pos kr];have:l=r:=⋯;subst this;exact⟨Zi _,hr,h1,h2⟩
  ·rw[if_neg kr];have e2:∀q:Bool->KasT Nat,evT lt (.ask (p.getD k 0) (p.getD ((l+r)/2) 0) q)=evT lt (q (lt (p.getD k 0) (p.getD ((l+r)/2) 0))):=λ_=>rfl;rw[e2];by_cases c:lt (p.getD k 0) (p.getD ((l+r)/2) 0)=true
   ·rw[if_pos c];refine B6 p k hS f l ((l+r)/2) ⋯ ⋯ ⋯ h1 λi hi hk=>?_;cases q:lt (pa' p k) (pa' p i) with
    |true=>rfl
    |false=>
     have:=tr _ _ _ (hS ((l+r)/2) i hi hk) q;rw[show lt (pa' p k) (pa' p ((l+r)/2))=true from c]at this
     exact this.symm
   ·rw[if_neg c];have c':lt (pa' p k) (pa' p ((l+r)/2))=false:=by simpa using c
    let⟨b1,b2,b3,b4⟩:=B6 p k hS f ((l+r)/2+1) r ⋯ ⋯ hr (λi hi=>by
     cases q:lt (pa' p k) (pa' p i) with
     |false=>rfl
     |true=>
      exfalso;have s1:=hS i ((l+r)/2) ⋯ ⋯;have s2:=as _ _ q;have:lt (pa' p k) (pa' p i)=false:=by
       -- p[mid]<=p[k] (c'),p[i]<=p[mid]
       exact tr _ _ _ s1 c'
      rw[q]at this;cases this) h2
    exact⟨⋯,b2,b3,b4⟩
theorem LA:∀f (p:Array Nat) k,1<=k->k+f<=p.size->STo lt p k->(evT lt (kas_bin f p k)).Perm p/\STo lt (evT lt (kas_bin f p k)) (k+f)
 |0,p,k,_,_,h=>⟨y2u _,h⟩
 |f+1,p,k,h1,hz,h=>by
  have e:evT lt (kas_bin (f+1) p k)=evT lt (kas_bin f (bubble p k (k-evT lt (kas_place p k k 0 k))) (k+1)):=by
   show evT lt ((kas_place p k k 0 k).bind λl=>kas_bin f (bubble p k (k-l)) (k+1))=_
   rw[oG]
  let⟨b1,b2,b3,b4⟩:=B6 tr as p k h k 0 k ⋯ (ZO _) (Zi _) (λi hi=>absurd hi (Nat.not_lt_zero _)) (λi hi hk=>absurd hk ⋯);generalize evT lt (kas_place p k k 0 k)=l at e b1 b2 b3 b4;have g:∀i,pa' (bubble p k (k-l)) i=if i=l then pa' p k else if l<i/\i<=k then pa' p (i-1) else pa' p i:=λi=>by
   rw[lV,lV,lV,lV,getElem?_bubble ⋯ _ ⋯];have el:k-(k-l)=l:=⋯;rw[el];split
   ·rfl
   ·split <;> rfl
  have hS:STo lt (bubble p k (k-l)) (k+1):=λi j bp hj=>by
   rw[g i,g j];by_cases hj1:j=l
   ·by_cases gq:i=l
    ·rw[if_pos hj1,if_pos gq];exact kH as _
    ·rw[if_pos hj1,if_neg gq,if_neg ⋯];exact b3 i ⋯
   ·rw[if_neg hj1];by_cases gq:i=l
    ·rw[if_pos gq,if_pos ⋯];exact as _ _ (b4 (j-1) ⋯ ⋯)
    ·rw[if_neg gq];by_cases hj2:l<j/\j<=k
     ·rw[if_pos hj2];by_cases r8:l<i/\i<=k
      ·rw[if_pos r8];exact h _ _ ⋯ ⋯
      ·rw[if_neg r8];exact h _ _ ⋯ ⋯
     ·rw[if_neg hj2,if_neg ⋯];exact h _ _ bp ⋯
  have ih:=LA f (bubble p k (k-l)) (k+1) ⋯ (by rw[bubble_size];omega) hS;rw[e];exact⟨ih.1.trans (bubble_perm _ _ _),by rw[show k+(f+1)=k+1+f by omega];exact ih.2⟩
def Pa(h1:1<=n):(evT lt (kas_sort n)).toList.Perm (ZD n)/\(evT lt (kas_sort n)).toList.Pairwise (λi j=>lt j i=false):=by
 have e:evT lt (kas_sort n)=evT lt (if(evT lt (kas_count n (y1L (ZD n)))).1<n then kas_bin (n-max (evT lt (kas_count n (y1L (ZD n)))).1 1) (evT lt (kas_count n (y1L (ZD n)))).2 (max (evT lt (kas_count n (y1L (ZD n)))).1 1) else .ret (evT lt (kas_count n (y1L (ZD n)))).2):=by unfold kas_sort;rw[oG]
 let⟨a1,a2,a3,a4⟩:=Lz tr as (nrem:=n) (p:=y1L (ZD n)) h1 (by simp);generalize evT lt (kas_count n (y1L (ZD n)))=r at e a1 a2 a3 a4;have fin:∀p:Array Nat,p.Perm (y1L (ZD n))->STo lt p n->p.toList.Perm (ZD n)/\p.toList.Pairwise (λi j=>lt j i=false):=λp hp hs=>by
  have hsz:p.size=n:=by rw[hp.size_eq];simp
  refine⟨by simpa using Array.perm_iff_toList_perm.mp hp,?_⟩
  rw[y0o];intro i j hi hj bp;have ax:i<p.size:=by simpa using hi
  have jk:j<p.size:=by simpa using hj
  have:=hs i j (y1J bp) ⋯;simpa[pa',y27,ax,jk] using this
 rw[e];by_cases af:r.1<n
 ·rw[if_pos af];have hm:max r.1 1=r.1:=⋯;rw[hm];let⟨b1,b2⟩:=LA tr as (n-r.1) r.2 r.1 a1 (by rw[a3.size_eq];simp;omega) a4;refine fin _ (b1.trans a3) ?_;rw[show r.1+(n-r.1)=n by omega]at b2;exact b2
 ·rw[if_neg af];have:r.1=n:=⋯;exact fin _ a3 (this▸a4)
end
end L2
namespace L2
open PySem.SeqAt PySem.W
def InP{α:Type}(n:Nat)(P:α->Prop):KasT α->Prop
 |.ret a=>P a
 |.ask i j k=>i<n/\j<n/\∀b,InP n P (k b)
theorem InP.bind{α β:Type}{P:α->Prop}{Q:β->Prop}{f:α->KasT β}:∀{t:KasT α},InP n P t->(∀a,P a->InP n Q (f a))->InP n Q (t.bind f)
 |.ret a,h,hf=>hf a h
 |.ask i j k,⟨h1,h2,h3⟩,hf=>⟨h1,h2,λb=>InP.bind (h3 b) hf⟩
theorem InP.mono{α:Type}{P Q:α->Prop}(hq:∀a,P a->Q a):∀{t:KasT α},InP n P t->InP n Q t
 |.ret a,h=>hq a h
 |.ask i j k,⟨h1,h2,h3⟩=>⟨h1,h2,λb=>InP.mono hq (h3 b)⟩
def AllLt(n:Nat)(p:Array Nat):Prop:=∀k,p.getD k 0<n
theorem AllLt.of{p q:Array Nat}(h:AllLt n p)(g:∀k:Nat,q[k]?=b_\/∃k':Nat,q[k]?=p[k']?)(hn:0<n):AllLt n q:=λk=>by
 have e:∀(r:Array Nat) k,r.getD k 0=(r[k]?).getD 0:=λr k=>by simp[Array.getD_eq_getD_getElem?]
 rw[e];rcases g k with h1|⟨k',h1⟩
 ·rw[h1];exact hn
 ·rw[h1,<-e];exact h k'
theorem AllLt.perm{q:Array Nat}(h:AllLt n p)(hp:q.Perm p)(hn:0<n):AllLt n q:=by
 refine AllLt.of h (λk=>?_) hn;cases e:q[k]? with
 |none=>exact .inl rfl
 |some v=>
  right;have hm:v∈q.toList:=by
   have:q.toList[k]?=a_ v:=by simpa using e
   exact ZP this
  have Ys:v∈p.toList:=(Array.perm_iff_toList_perm.mp hp).mem_iff.mp hm;let⟨k',hk⟩:=y2w.mp Ys;exact⟨k',by rw[<-hk];simp⟩
section
variable{n:Nat}(hn:0<n)
include hn
theorem E8(h:AllLt n p):∀f m,InP n (λ_=>True) (kas_asc p f m)
 |0,m=>trivial
 |f+1,m=>⟨h _,h _,λb=>by
  cases b with
  |true=>exact trivial
  |false=>exact E8 h f (m+1)⟩
theorem vW:∀f (p:Array Nat) m q,AllLt n p->InP n (λr=>AllLt n r.1) (kas_desc f p m q)
 |0,p,m,q,h=>h
 |f+1,p,m,q,h=>⟨h _,h _,λb=>by
  cases b with
  |true=>
   show InP n _ (if q>0 then kas_desc f (kas_rev p (m-(q+1)) m) (m+1) 0 else kas_desc f p (m+1) 0)
   by_cases hq:q>0
   ·rw[if_pos hq];exact vW f _ _ _ (h.perm (y2v _ _ _ _) hn)
   ·rw[if_neg hq];exact vW f _ _ _ h
  | false=>exact ⟨h _,h _,fun d=>by
    cases d with
    |true=>exact h
    |false=>exact vW f _ _ _ h⟩⟩
def Ds(h:AllLt n p)(m r:Nat):InP n (λx=>AllLt n x.2) (kas_tail3 m r p):=by unfold kas_tail3;exact InP.bind (E8 hn (h.perm (y2v _ _ _ _) hn) _ _) λa _=>h.perm (y2v _ _ _ _) hn
def vX(h:AllLt n p)(m r:Nat):InP n (λx=>AllLt n x.2) (kas_descPart m r p):=by
 unfold kas_descPart;refine InP.bind (vW hn _ _ _ _ h) λa ha=>?_;by_cases hq:a.2.2>0
 ·rw[if_pos hq];exact Ds hn (ha.perm (y2v _ _ _ _) hn) _ _
 ·rw[if_neg hq];exact Ds hn ha _ _
def JU(h:AllLt n p)(r:Nat):InP n (λx=>AllLt n x.2) (kas_count r p):=by
 unfold kas_count;refine InP.bind (E8 hn h _ _) λa _=>?_;by_cases h1:(a == r)=true
 ·rw[if_pos h1];exact h
 ·rw[if_neg h1];by_cases h2:a>1
  ·rw[if_pos h2];exact⟨h _,h _,λb=>by
    cases b with
    |true=>exact h
    |false=>exact vX hn (h.perm (y2v _ _ _ _) hn) _ _⟩
  ·rw[if_neg h2];exact vX hn h _ _
theorem yN(h:AllLt n p)(k:Nat):∀f l r,InP n (λ_=>True) (kas_place p k f l r)
 |0,l,r=>trivial
 |f+1,l,r=>by
  show InP n _ (if l >= r then .ret l else .ask (p.getD k 0) (p.getD ((l+r)/2) 0) λc=>if c=true then kas_place p k f l ((l+r)/2) else kas_place p k f ((l+r)/2+1) r)
  by_cases hl:l >= r
  ·rw[if_pos hl];exact trivial
  ·rw[if_neg hl];exact⟨h _,h _,λb=>by
    cases b with
    |true=>exact yN h k f _ _
    |false=>exact yN h k f _ _⟩
theorem IT:∀f (p:Array Nat) k,AllLt n p->InP n (λ_=>True) (kas_bin f p k)
 |0,p,k,_=>trivial
 |f+1,p,k,h=>InP.bind (yN hn h k _ _ _) λl _=>IT f _ _ (h.perm (bubble_perm _ _ _) hn)
def B7:InP n (λ_=>True) (kas_sort n):=by
 have h0:AllLt n (y1L (ZD n)):=λk=>by
  by_cases hk:k<n
  ·simp[y27,hk]
  ·simp[y27,hk,hn]
 unfold kas_sort;refine InP.bind (JU hn h0 n) λr hr=>?_;by_cases h:r.1<n
 ·rw[if_pos h];exact IT hn _ _ _ hr
 ·rw[if_neg h];exact trivial
end
theorem B8{α:Type}{cmp:Nat->Nat->(j_ Bool)->t_->Prop}{lt:Nat->Nat->Bool}(hc:∀i j C,i<n->j<n->C (lt i j) s->cmp i j C s){Q:α->t_->Prop}{P:α->Prop}:
  ∀{t:KasT α},InP n P t->Q (evT lt t) s->t.kasWp cmp Q s
 |.ret _,_,h=>h
 |.ask i j k,⟨h1,h2,h3⟩,h=>hc i j _ h1 h2 (B8 hc (h3 _) h)
def ltX(n:Nat)(lt:Nat->Nat->Bool)(i j:Nat):Bool:=if i<n then(if j<n then lt i j else true) else false
def Sb{lt:Nat->Nat->Bool}(tr:∀i j k,i<n->j<n->k<n->lt j i=false->lt k j=false->lt k i=false)(i j k:Nat)(h1:ltX n lt j i=false)(h2:ltX n lt k j=false):ltX n lt k i=false:=by
 unfold ltX at*;by_cases hi:i<n <;> by_cases hj:j<n <;> by_cases hk:k<n <;> simp only[hi,hj,hk,if_true,if_false]at h1 h2⊢ <;> first|exact tr i j k hi hj hk h1 h2|exact absurd h2 nofun|exact absurd h1 nofun|rfl
def Sd{lt:Nat->Nat->Bool}(as:∀i j,i<n->j<n->lt i j=true->lt j i=false)(i j:Nat)(h:ltX n lt i j=true):ltX n lt j i=false:=by
 unfold ltX at*;by_cases hi:i<n <;> by_cases hj:j<n <;> simp only[hi,hj,if_true,if_false]at h⊢ <;> first|exact as i j hi hj h|exact absurd h nofun|rfl
theorem Dt{α:Type}{lt lt':Nat->Nat->Bool}(h:∀i j,i<n->j<n->lt i j=lt' i j){P:α->Prop}:∀{t:KasT α},InP n P t->evT lt t=evT lt' t
 |.ret _,_=>rfl
 |.ask i j k,⟨h1,h2,h3⟩=>by
  show evT lt (k (lt i j))=evT lt' (k (lt' i j))
  rw[h i j h1 h2];exact Dt h (h3 _)
def FF{lt:Nat->Nat->Bool}(tr:∀i j k,i<n->j<n->k<n->lt j i=false->lt k j=false->lt k i=false)(as:∀i j,i<n->j<n->lt i j=true->lt j i=false)(h1:1<=n):
  (evT lt (kas_sort n)).toList.Perm (ZD n)/\(evT lt (kas_sort n)).toList.Pairwise (λi j=>lt j i=false):=by
 have e:evT lt (kas_sort n)=evT (ltX n lt) (kas_sort n):=Dt (λi j hi hj=>by unfold ltX;rw[if_pos hi,if_pos hj]) (B7 ⋯);let⟨a,b⟩:=Pa (lt:=ltX n lt) (Sb tr) (Sd as) h1;rw[e];refine⟨a,b.imp_of_mem λ{i j} hi hj h=>?_⟩;have ax:i<n:=by simpa using a.mem_iff.mp hi
 have jk:j<n:=by simpa using a.mem_iff.mp hj
 unfold ltX at h;rw[if_pos jk,if_pos ax]at h;exact h
section
variable{prog:z_}{w:y_}{A:w_}{E:f_ 0}{s:t_}
def Am{vs:C_ s_}{P:PySem.Fin->t_->Prop}(lt:Nat->Nat->Bool)(tr:∀i j k,i<vs.length->j<vs.length->k<vs.length->lt j i=false->lt k j=false->lt k i=false)(as:∀i j,i<vs.length->j<vs.length->lt i j=true->lt j i=false)(ho:s.heap.get? a=a_ (seqObj "list" vs.toArray n))(h64:vs.length<64)(hk:∀s':t_,(∀b o,b≠a->s.heap.get? b=a_ o->s'.heap.get? b=a_ o)->∀Q:j_ SortKind,Q κ s'->m_ prog w A (keyKind' vs.toArray) Q E s')(af:∀s':t_,(∀b o,b≠a->s.heap.get? b=a_ o->s'.heap.get? b=a_ o)->∀i j,i<vs.length->j<vs.length->∀Q:j_ Bool,Q (lt i j) s'->m_ prog w A (keyLt' κ (vs.getD i ZE) (vs.getD j ZE)) Q (λ_ _=>False) s')(h:∀p:C_ Nat,p.Perm (ZD vs.length)->p.Pairwise (λi j=>lt j i=false)->P (.done (.ret .none)) {s with heap:=sortedHeap s.heap a vs (p.map λi=>vs.getD i ZE).toArray}):
  m_ prog w A (Builtin.«list.sort» ⟨[.ref a],[]⟩) P E s:=by
 rw[list_sort_plain];have ha:a<(e_ s):=Zl ho;refine Zb (listItems_at ho rfl ?_);refine Zb (y1M ho rfl ?_ (by rw[Zp,y0b];omega) (ZO _));obtain⟨e1,d4⟩:∃e1,(s.heap.update a (ZT λ_=>#[])).get? a=a_ (seqObj "list" #[] e1):=⟨_,y2x ho (λ_=>#[])⟩;refine Zb (seqEpoch_at d4 rfl ?_);refine Zb (wpAny_newTuple ?_ (by show vs.length<=_;rw[y0b];omega));refine Zb (wpAny_newList ?_ (ZO _));refine Z3 ?_;have ju:(((s.heap.update a (ZT λ_=>#[])).push (seqObj "tuple" vs.toArray 0)).push (seqObj "list" #[] 0)).get? a=a_ (seqObj "list" #[] e1):=by rw[y2I _ _ _ (by rw[size_push',y2U];exact Zt (y1z ha)),y2I _ _ _ (by rw[y2U];exact Zt ha)];exact d4
 have kept:∀b o,b≠a->s.heap.get? b=a_ o->(((s.heap.update a (ZT λ_=>#[])).push (seqObj "tuple" vs.toArray 0)).push (seqObj "list" #[] 0)).get? b=a_ o:=λb o hb e=>Ze _ (Ze _ ((y0c s.heap (ZT λ_=>#[]) (ZV hb)).trans e))
 show m_ prog w A _ P E {s with heap:=((s.heap.update a (ZT λ_=>#[])).push (seqObj "tuple" vs.toArray 0)).push (seqObj "list" #[] 0)}
 dsimp only;have hsz:vs.toArray.size=vs.length:=by simp
 by_cases h2:vs.toArray.size<2
 ·rw[if_pos h2,if_pos h2];refine Zb (Zd ?_);rw[StateT.run_pure];refine Zb (Zd ?_);dsimp only;refine Zb (seqEpoch_at ju rfl ?_);refine Zb (y1M ju rfl ?_ (ZO _) (hsz2:=by rw[Array.size_map];show(pairsOf vs).size<=_;rw[pairsOf_size,y0b];omega));simp only[bne_self_eq_false,ZU,if_false];have e:(vs.toArray.zip vs.toArray).map (·.2)=((ZD vs.length).map λi=>vs.getD i ZE).toArray:=by
   apply Array.toList_inj.mp;apply y01;intro i;by_cases hi:i<vs.length
   ·simp[hi]
   ·simp[hi]
  have key:=h (ZD vs.length) (y0f _) (by rw[y0o];intro i j hi hj bp;simp only[y2J]at hi hj;omega);rw[<-e]at key;exact Zd key
 ·rw[if_neg h2,if_neg h2];have b7:2<=vs.length:=⋯;refine Zb (hk _ kept _ ?_);refine Zb (y0I (kat_run (ks:=vs) (vs:=vs) (E:=E) (Q:=λb8 s'=>s'={s with heap:=((s.heap.update a (ZT λ_=>#[])).push (seqObj "tuple" vs.toArray 0)).push (seqObj "list" #[] 0)}/\arrOf b8=(evT lt (kas_sort vs.length)).map (kas_item (vs.toArray.zip vs.toArray))/\failedOf b8=b_)
   (G:=λp s'=>p=evT lt (kas_sort vs.length)/\s'={s with heap:=((s.heap.update a (ZT λ_=>#[])).push (seqObj "tuple" vs.toArray 0)).push (seqObj "list" #[] 0)}) rfl b7 h64 (λp b8 s' _ a2 a3 a4=>⟨a4.2,by rw[a2,a4.1],a3⟩)
   (B8 (n:=vs.length) (lt:=lt) (λi j C hi hj hC=>af _ kept i j hi hj C hC) (B7 ⋯) ⟨rfl,rfl⟩)) ?_ λ_ _ e=>e)
  rintro⟨⟨⟩,b8⟩ s' ⟨rfl,har,hf⟩;dsimp only;have gg:=kat_snds (ks:=vs) (vs:=vs) rfl har;let⟨c1,c2⟩:=FF tr as ⋯;refine Zb (seqEpoch_at ju rfl ?_);refine Zb (y1M ju rfl ?_ (ZO _) (hsz2:=by
   have:(Array.map (λx=>x.snd) (arrOf b8)).size<=Zq:=by rw[gg,Zp,Zg,c1.length_eq,y2J,y0b];omega
   first|exact this|exact Nat.le_succ_of_le this))
  rw[hf];simp only[bne_self_eq_false,ZU,if_false];have key:=h _ c1 c2;rw[<-gg]at key;exact Zd key
end
def kD:Key->D
 |.inl i=>.int i
 |.inr x=>.str x
section
variable{prog:z_}{w:y_}{A:w_}{E:f_ 0}{s:t_}
def yO{P:PySem.Fin->t_->Prop}(ho:s.heap.get? a=a_ (seqObj "list" ([]:C_ s_).toArray n))(h:P (.done (.ret .none)) {s with heap:=sortedHeap s.heap a [] #[]}):m_ prog w A (Builtin.«list.sort» ⟨[.ref a],[]⟩) P E s:=by
 rw[list_sort_plain];refine Zb (listItems_at ho rfl ?_);refine Zb (y1M ho rfl ?_ (ZO _) (ZO _));have ha:a<(e_ s):=Zl ho;obtain⟨e1,d4⟩:∃e1,(s.heap.update a (ZT λ_=>#[])).get? a=a_ (seqObj "list" #[] e1):=⟨_,y2x ho (λ_=>#[])⟩;refine Zb (seqEpoch_at d4 rfl ?_);refine Zb (wpAny_newTuple ?_ (ZO _));refine Zb (wpAny_newList ?_ (ZO _));refine Z3 ?_;have ju:(((s.heap.update a (ZT λ_=>#[])).push (seqObj "tuple" ([]:C_ s_).toArray 0)).push (seqObj "list" #[] 0)).get? a=a_ (seqObj "list" #[] e1):=by rw[y2I _ _ _ (by rw[size_push',y2U];exact Zt (y1z ha)),y2I _ _ _ (by rw[y2U];exact Zt ha)];exact d4
 show m_ prog w A _ P E {s with heap:=((s.heap.update a (ZT λ_=>#[])).push (seqObj "tuple" ([]:C_ s_).toArray 0)).push (seqObj "list" #[] 0)}
 dsimp only;rw[if_pos nofun,if_pos nofun];refine Zb (Zd ?_);rw[StateT.run_pure];refine Zb (Zd ?_);dsimp only;refine Zb (seqEpoch_at ju rfl ?_);have e0:(Array.map (λx=>x.snd) (arrOf (SortSt.mk' general' ((#[]:Array s_).zip (#[]:Array s_)) #[] 7 b_)))=(#[]:Array s_):=by
  show Array.map (λx=>x.snd) ((#[]:Array s_).zip (#[]:Array s_))=#[]
  simp
 refine Zb (y1M ju rfl ?_ (ZO _) (hsz2:=by
  have e1:(Array.map (λx=>x.snd) (arrOf (SortSt.mk' general' ((#[]:Array s_).zip (#[]:Array s_)) #[] 7 b_))).size=0:=by rw[e0];rfl
  first|exact y0e (Nat.le_of_eq e1) (ZO _)|(show _<=_;omega)))
 simp only[bne_self_eq_false,ZU,if_false];refine Zd ?_
 show P (.done (.ret .none)) {s with heap:=(((s.heap.update a (ZT λx=>#[])).push (seqObj "tuple" ([]:C_ s_).toArray 0)).push (seqObj "list" #[] 0)).update a (ZT λx=>Array.map (λx=>x.snd) (arrOf (SortSt.mk' general' ((#[]:Array s_).zip (#[]:Array s_)) #[] 7 b_)))}
 rw[e0];exact h
def JV{Q:f_ 0}(Xt:C_ s_->t_->Prop)(hc:m_ prog w A.in1 (collect v) Xt E s)(h:∀vs s1,Xt vs s1->vs.length<64/\∃lt:Nat->Nat->Bool,(∀i j k,i<vs.length->j<vs.length->k<vs.length->lt j i=false->lt k j=false->lt k i=false)/\(∀i j,i<vs.length->j<vs.length->lt i j=true->lt j i=false)/\
   (∀(A':w_)(s':t_),(∀b o,s1.heap.get? b=a_ o->s'.heap.get? b=a_ o)->0<vs.length->∀(Q:j_ SortKind) E',Q κ s'->m_ prog w A' (keyKind' vs.toArray) Q E' s')/\
   (∀(s':t_),(∀b o,s1.heap.get? b=a_ o->s'.heap.get? b=a_ o)->∀i j,i<vs.length->j<vs.length->∀Q:j_ Bool,Q (lt i j) s'->m_ prog w A.in1.in1 (keyLt' κ (vs.getD i ZE) (vs.getD j ZE)) Q (λ_ _=>False) s')/\
   ∀(p:C_ Nat)(h':x_)(e:Nat),p.Perm (ZD vs.length)->p.Pairwise (λi j=>lt j i=false)->(∀b o,s1.heap.get? b=a_ o->h'.get? b=a_ o)->h'.get? (e_ s1)=a_ (seqObj "list" (p.map λi=>vs.getD i ZE).toArray e)->Q (.ref (e_ s1)) {s1 with heap:=h'}):
  m_ prog w A (call (.builtin "sorted") [v]) Q E s:=by
 refine Calls.call_function_entry kind_sorted plain_sorted entry_sorted (args_sorted1 _) ?_;unfold Builtin.«sorted»;refine Zb (m:=checkCount "sorted" 1 1 _) (Zd ?_);refine Zb (y0I hc (λvs s1 c=>?_) λ_ _ x=>x);let⟨h64,lt,tr,as,hk,af,fin⟩:=h vs s1 c;refine Zb (wpAny_newList ?_ (by rw[y0b];omega));have ia:(s1.heap.push (seqObj "list" vs.toArray 0)).get? (e_ s1)=a_ (seqObj "list" vs.toArray 0):=Zj _ rfl;have keep:∀b o,s1.heap.get? b=a_ o->b≠(e_ s1)/\(s1.heap.push (seqObj "list" vs.toArray 0)).get? b=a_ o:=λb o q=>⟨Zt (Zl q),Ze _ q⟩
 show wpAny _ _ _ _ _ {s1 with heap:=s1.heap.push (seqObj "list" vs.toArray 0)}
 refine Zb (Z3 (Z1 slot_list_sort ⟨_,ia,rfl⟩ entry_list_sort ?_ (args_list_sort _)));have tree:m_ prog w A.in1.in1 (Builtin.«list.sort» ⟨[.ref (e_ s1)],[]⟩) (λr s'=>∃p:C_ Nat,r=.done (.ret .none)/\p.Perm (ZD vs.length)/\p.Pairwise (λi j=>lt j i=false)/\s'={s1 with heap:=sortedHeap (s1.heap.push (seqObj "list" vs.toArray 0)) (e_ s1) vs (p.map λi=>vs.getD i ZE).toArray}) E {s1 with heap:=s1.heap.push (seqObj "list" vs.toArray 0)}:=by
  by_cases h0:0<vs.length
  ·exact Am (κ:=κ) lt tr as ia h64 (λs' kp Q hq=>hk _ s' (λb o e=>kp b o (keep b o e).1 (keep b o e).2) h0 Q _ hq) (λs' kp i j hi hj Q hq=>af s' (λb o e=>kp b o (keep b o e).1 (keep b o e).2) i j hi hj Q hq) λp a1 a2=>⟨p,rfl,a1,a2,rfl⟩
  ·have e0:vs=[]:=List.length_eq_zero_iff.mp ⋯;subst e0;exact yO ia ⟨[],rfl,y0f _,y1y,rfl⟩
 refine y0I tree (λr s' hr=>?_) λ_ _ x=>x;let⟨p,rfl,a1,a2,rfl⟩:=hr;refine⟨_,rfl,Zd ⟨_,rfl,?_⟩⟩;let⟨e,he⟩:=sortedHeap_at (h:=s1.heap.push (seqObj "list" vs.toArray 0)) (out:=(p.map λi=>vs.getD i ZE).toArray) ia;exact fin p _ e a1 a2 (λb o q=>(sortedHeap_old (keep b o q).1 (by rw[size_push'];exact y1z (Zl q))).trans (keep b o q).2) he
end
def E9(H:Hp)(ps:C_ (u_×C_ V)):Hp:=λb=>match ps.lookup b with
 |some xs=>a_ (.tup xs)
 |none=>H b
theorem A3{κ:Type}{x:u_}{k:κ}:∀{l:C_ (u_×κ)},l.lookup x=a_ k->(x,k)∈l
 |[],h=>by simp at h
 |(n,v)::r,h=>by
  by_cases hx:x=n
  ·subst hx;simp only[ZH,beq_self_eq_true]at h;cases h
   exact Zn
  ·have:(x == n)=false:=by simpa using hx
   simp only[ZH,this]at h;exact Zh _ (A3 h)
theorem vY{κ:Type}:∀{l:C_ (u_×κ)},(∀p∈l,p.1≠x)->l.lookup x=b_
 |[],_=>rfl
 |(n,v)::r,h=>by
  have hx:(x == n)=false:=by have:=h (n,v) Zn;simpa using λe:x=n=>this e.symm
  simp only[ZH,hx];exact vY λp hp=>h p (Zh _ hp)
def FG(h:∀p∈ps,p.1≠b):E9 H ps b=H b:=by unfold E9;rw[vY h]
theorem FH:∀{ps:C_ (u_×C_ V)}{j:Nat}{a:u_}{xs:C_ V},(ps.map (·.1)).Nodup->ps[j]?=a_ (a,xs)->E9 H ps a=a_ (.tup xs)
 |[],_,_,_,_,h=>by simp at h
 |(n,v)::r,0,a,xs,_,h=>by simp at h;let⟨rfl,rfl⟩:=h;unfold E9;simp[ZH]
 |(n,v)::r,j+1,a,xs,nd,h=>by
  have mn:(n::r.map (·.1)).Nodup:=nd;let⟨n1,n2⟩:=y1i.mp mn;have h':r[j]?=a_ (a,xs):=by simpa using h
  have ne:(a == n)=false:=by have:a∈r.map (·.1):=Zu.mpr ⟨_,ZP h',rfl⟩;simpa using λe:a=n=>n1 (e▸this)
  have ih:=FH (H:=H) n2 h';unfold E9 at ih⊢;simp only[ZH,ne];exact ih
section
variable{X:Cx}{FR:g_ 0}{σ:St}{H:Hp}{s:t_}{h':x_}
theorem Inv.laidT{ps:C_ (u_×C_ V)}{t':Nat}(I:Inv X FR σ H s)(k:∀b u,s.heap.get? b=a_ u->h'.get? b=a_ u)(hp:∀p∈ps,(e_ s)<=p.1)(new:∀p∈ps,p.2.length<=Zq/\∃its:C_ s_,bN p.2 its/\Ak h' p.1 its.toArray):
  Inv X FR σ (E9 H ps) {s with heap:=h',toks:=t'}:=by
 have nb:∀b,b<(e_ s)->∀p∈ps,p.1≠b:=λb hb p jr e=>y0A _ (Zz hb (e▸hp p jr));have old:∀b,b<(e_ s)->E9 H ps b=H b:=λb hb=>FG (nb b hb);refine I.un ⟨λb u q _ _ _=>k b u q,λb u q _ _ _=>⟨u.slots,k b u q⟩,λb u q n _=>(old b (Zl q)).trans n,λb u q _=>⟨u,k b u q⟩,λb xs q=>(old b (I.hok.lt q)).trans q,λb u xs q=>(old b (I.hok.lt q)).trans q,λb ps' q=>⟨#[],by rw[old b (I.hok.lt q),q];simp⟩⟩ ?_;intro b u e;unfold E9 at e;cases q:ps.lookup b with
 |some xs=>
  rw[q]at e;cases e
  let⟨z,its,r,p⟩:=new _ (A3 q);exact⟨z,its,r,p⟩
 |none=>rw[q]at e;have hb:=I.hok.lt e;exact(I.hok b u e).stay (λc v _ q=>k c v q) (λc q=>(old c (I.hok.lt q)).trans q) λc xs q=>(old c (I.hok.lt q)).trans q
def Du(I:Inv X FR σ H s)(hp:∀p∈ps,(e_ s)<=p.1):AX H (E9 H ps):=λb o e=>by have nb:∀p∈ps,p.1≠b:=λp jr z=>y0A _ (Zz (I.hok.lt e) (z▸hp p jr));rw[FG nb];exact e
end
section
variable{X:Cx}
def JW{α:Type}{xs:C_ α}{d:α}{p:C_ Nat}(h:p.Perm (ZD xs.length)):(p.map λi=>xs.getD i d).Perm xs:=by
 have e:(ZD xs.length).map (λi=>xs.getD i d)=xs:=by
  apply y01;intro i;by_cases hi:i<xs.length
  ·simp[hi]
  ·simp[hi]
 have:=h.map λi=>xs.getD i d
 rwa[e]at this
theorem Dv{vs:C_ V}{us:C_ s_}(r:bN vs us):∀{p:C_ Nat},(∀i∈p,i<vs.length)->bN (p.map λi=>vs.getD i .non) (p.map λi=>us.getD i ZE)
 |[],_=>.nil
 |i::p,h=>by
  have hi:=h i Zn;have g:vs[i]?=a_ (vs.getD i .non):=by simp[hi]
  let⟨u,hu,hr⟩:=r.get g;have e:us.getD i ZE=u:=by simp[y0M,hu]
  refine .cons ?_ (Dv r λj hj=>h j (Zh _ hj))
  show RelV (vs.getD i .non) (us.getD i ZE)
  rw[e];exact hr
end
end L2
namespace L2
def uC:entryFor table "dict.update.loop" = a_ Builtin.«dict.update.loop»:=entryFor_of_tree (by kernel_rfl)
def jU:plainId "dict.update.loop" = true:=by decide +kernel
section
variable{prog:z_}{w:y_}{K:Type}[DecidableEq K]{A:w_}{E:f_ 0}{s:t_}
def An{knd:HeapKind prog w K}{xs:C_ (K×u_×s_)}{Q:f_ 0}(hu:knd.room A)(ah:knd.is s.heap k a)(hm:s.heap.DictOfH knd d xs)(hz:xs.length<=Zq)(there:∀p,atKey xs k=a_ p->Q p.2 { s with toks:=s.toks+knd.draws k})(new:atKey xs k=b_->∀h',h'.DictOfH knd d (storedH xs k a x)->y0z d s.heap h'->Q x {s with heap:=h',toks:=s.toks+knd.draws k}):m_ prog w A (y2Q d (.ref a) x) Q E s:=by
 let⟨o,es,ep,ho,hc,hd,he,k0,hn⟩:=hm;unfold y2Q;refine Z3 (Zb (knd.pyHash hu ah ?_));refine Zb (wpAny_dictFind_heap (s:={ s with toks:=s.toks+knd.draws k}) hu ah ho hd he k0 hn (λfu=>?_) (λj p hj=>?_))
 ·have lq:=atKey_none_of_get fu;have fresh:=not_mem_keys_of_get fu;refine Zb (y07 (Zb (wpAny_updateDictKeys (hz:=by have e:=size_of_entries he;omega) (s:={ s with toks:=s.toks+knd.draws k}) ho hd (Zd (new lq _ ⟨_,_,ep+1,ZX _ ho (Obj.isFreed_of_dict (y1r hd _)),hc.mapDictKeys _,y1r hd _,?_,?_,?_⟩ (ZK ..))))))
  ·rw[storedH_new lq,Array.toList_push,he,Z4];rfl
  ·rw[storedH_new lq];intro z f7;rcases ZQ.mp f7 with q|q
   ·exact knd.keeps (k0 z q) ho hd (ZK ..)
   ·rw[ZN.mp q];exact knd.keeps ah ho hd (ZK ..)
  ·rw[storedH_new lq,Z4,y1b];refine⟨hn,by simp,λu kg v hv e=>fresh ?_⟩;have:v=k:=by simpa using hv
   rw[<-this,<-e];exact kg
 ·have lq:atKey xs k=a_ p:=atKey_of_get hn hj;refine Zb (y0x (s:={ s with toks:=s.toks+knd.draws k}) ho hd ?_);rw[entry_at he j,hj];exact Zb (y07 (Zd (there p lq)))
def yP{knd:KeyKind prog w K}{kvs:C_ (K×s_)}{Q:f_ 0}(ah:knd.is k key=true)(hm:s.heap.DictOf knd d kvs)(hz:kvs.length<=Zq)(there:∀v,valueAt kvs k=a_ v->Q v { s with toks:=s.toks+1})(new:valueAt kvs k=b_->∀h',h'.DictOf knd d (stored kvs k x)->y0z d s.heap h'->Q x {s with heap:=h',toks:=s.toks+1}):m_ prog w A (y2Q d key x) Q E s:=by
 have ph:=hm.mapOf;let⟨o,es,ep,ho,hc,hd,hk,hp,hn⟩:=id hm;have fg:es.size<=Zq:=by have e1:=hp.length;rw[y18]at e1;omega
 unfold y2Q;refine Z3 (Zb (knd.pyHash ah (Zb (wpAny_dictFind_of (s:={ s with toks:=s.toks+1}) ah ho hd hk ?_))));have vj:(es.findIdx? λe=>knd.is k e.key)=kvs.findIdx? λkv=>decide (kv.1=k):=by rw[<-hp.findIdx k];let⟨l⟩:=es;simp
 cases hi:es.findIdx? λe=>knd.is k e.key with
 |some i=>
  refine Zb (y0x (s:={ s with toks:=s.toks+1}) ho hd ?_);let⟨o',es',c5,bw,_,bx,_,hf⟩:=ph;obtain rfl:o=o':=ZI (ho.symm.trans bw);have vi:es=es':=by rw[hd]at bx;injection bx
  subst vi;have yj:valueAt kvs k=(es[i]?).map (·.val):=by rw[<-hf k,findBy_of_findIdx?,hi]
  have af:i<es.size:=(Array.findIdx?_eq_some_iff_findIdx_eq.mp hi).1;rw[ZG af]at yj⊢;exact Zb (y07 (Zd (there _ yj)))
 |none=>
  have fresh:k∉kvs.map (·.1):=not_mem_of_findIdx_none (vj▸hi);have oq:¬ (kvs.any λkv=>decide (kv.1=k))=true:=by rw[y2V];rintro⟨kv,q1,q2⟩;exact fresh (Zu.mpr ⟨kv,q1,of_decide_eq_true q2⟩)
  have hv:valueAt kvs k=b_:=by
   let⟨o',es',c5,bw,_,bx,_,hf⟩:=ph;obtain rfl:o=o':=ZI (ho.symm.trans bw);have vi:es=es':=by rw[hd]at bx;injection bx
   subst vi;rw[<-hf k,findBy_of_findIdx?,hi]
  refine Zb (y07 (Zb (wpAny_updateDictKeys (hz:=fg) (s:={ s with toks:=s.toks+1}) ho hd (Zd (new hv _ ⟨_,_,ep+1,ZX _ ho (Obj.isFreed_of_dict (y1r hd _)),hc.mapDictKeys _,y1r hd _,hk.push ah _,?_,?_⟩ (ZK ..))))))
  ·rw[stored,if_neg oq];have q:=hp.append ah (knd.hash k) x;let⟨l⟩:=es;simpa using q
  ·rw[stored,if_neg oq,Z4,y1b];refine⟨hn,by simp,λu kg v kz e=>fresh ?_⟩;have:v=k:=by simpa using kz
   rw[<-this,<-e];exact kg
end
section
variable{prog:z_}{w:y_}{K:Type}[DecidableEq K]
def rD(knd:HeapKind prog w K)(d a:u_)(hd:(d == y0p)=false)(x:s_):
  MeetsIn prog w (Builtin.«dict.setdefault» ⟨[.ref d,.ref a,x],[]⟩) (λA R s=>knd.room A.in1/\∃k xs,knd.is s.heap k a/\s.heap.DictOfH knd d xs/\xs.length<=Zq/\(∀p,atKey xs k=a_ p->R (.ok (.ret p.2)) { s with toks:=s.toks+knd.draws k})/\
   (atKey xs k=b_->∀h',h'.DictOfH knd d (storedH xs k a x)->y0z d s.heap h'->R (.ok (.ret x)) {s with heap:=h',toks:=s.toks+knd.draws k})):=
 .of_wp λA R s ⟨hu,k,xs,ah,hm,hz,r1,r2⟩=>by
  unfold Builtin.«dict.setdefault»;refine Zb ?_;unfold y2M;refine Zb (y1k hm.typeIs (show wpAny _ _ (pure (d,ZC a,a_ x)) _ _ s from Zd ?_))
  show wpAny _ _ (if(d == y0p)=true then _ else(y2Q d (.ref a) x >>= _)) _ _ s
  rw[if_neg (show ¬ _ from by rw[hd];decide)]
  exact Zb (An hu ah hm hz (λp e=>Zd ⟨p.2,rfl,r1 p e⟩) λe h' q1 q2=>Zd ⟨x,rfl,r2 e h' q1 q2⟩)
def oX(knd:KeyKind prog w K)(d:u_)(hd:(d == y0p)=false)(ah:knd.is k key=true)(x:s_):
  MeetsIn prog w (Builtin.«dict.setdefault» ⟨[.ref d,key,x],[]⟩) (λA R s=>∃kvs,s.heap.DictOf knd d kvs/\kvs.length<=Zq/\(∀v,valueAt kvs k=a_ v->R (.ok (.ret v)) { s with toks:=s.toks+1})/\
   (valueAt kvs k=b_->∀h',h'.DictOf knd d (stored kvs k x)->y0z d s.heap h'->R (.ok (.ret x)) {s with heap:=h',toks:=s.toks+1})):=
 .of_wp λA R s ⟨kvs,hm,hz,r1,r2⟩=>by
  unfold Builtin.«dict.setdefault»;refine Zb ?_;unfold y2M;refine Zb (y1k hm.typeIs (show wpAny _ _ (pure (d,key,a_ x)) _ _ s from Zd ?_))
  show wpAny _ _ (if(d == y0p)=true then _ else(y2Q d key x >>= _)) _ _ s
  rw[if_neg (show ¬ _ from by rw[hd];decide)]
  exact Zb (yP ah hm hz (λv e=>Zd ⟨v,rfl,r1 v e⟩) λe h' q1 q2=>Zd ⟨x,rfl,r2 e h' q1 q2⟩)
end
section
variable{prog:z_}{w:y_}{A:w_}{E:f_ 0}{s:t_}{v dc it:u_}{oc:Obj}{es:Array y1q}{ep:Nat}{ok ov:s_}
def Hs{Q:f_ 0}(hv:s.heap.IsItemsView v dc)(h1:s.heap.get? dc=a_ oc)(h2:oc.data=.dict es ep)
  (q:Q (.ref (e_ s)) {s with heap:=s.heap.push {cls:=.type "dict_itemiterator",data:=.fields #[.none,.bool false,.ref dc,.int 0 0,.int es.size 0,.int ep 0,.none,.none]} }):m_ prog w A (pyIter (.ref v)) Q E s:=by
 let⟨ov,g1,g2,g3⟩:=id hv;refine wpAny_pyIter_slot hv.typeIs F.slot_dict_items_iter (Z1 F.slot_dict_items_iter hv.typeIs F.entry_dict_items_iter (show wpAny _ _ (Builtin.«dict_items.__iter__» _) _ _ _ from ?_) (F.args_dict_items_iter_1 _))
 unfold Builtin.«dict_items.__iter__»;refine Zb (Zd (Zb ?_));unfold Builtin.Dict_items.dictOf;refine Zb (y0V g1 g3 (x:=.ref dc) rfl (Zd (Zb ?_)));unfold Builtin.Dict_items.newIterator;refine Zb (y0x h1 h2 (Zb (y2y h1 h2 ?_)));rw[show y02 "dict_itemiterator" = true by decide];simp only[if_true,Builtin.Dict_items.ownedTupleFields,y2T,y2z,ZU,if_false];refine ZJ (Zd ⟨_,rfl,"dict_itemiterator",_,⟨_,Zj _ rfl,rfl⟩,y0S.lookup,(by simpa[rawInt] using q)⟩)
def FI(dc:u_)(hd:(dc == y0p)=false):MeetsIn prog w (Builtin.«dict.items» ⟨[.ref dc],[]⟩) (λ_ R s=>s.TypeIs (.ref dc) "dict" /\
   R (.ok (.ret (.ref (e_ s)))) {s with heap:=s.heap.push {cls:=.type "dict_items",data:=.fields #[.ref dc]} }):=
 .of_wp λA R s ⟨hT,h⟩=>by
  refine Zb ?_;unfold Builtin.Dict.noArgs;refine Zb (y1k hT (show wpAny _ _ (pure dc) _ _ s from Zd (show wpAny _ _ (y2A dc >>= _) _ _ s from ?_)))
  unfold y2A;rw[if_neg (show ¬ _ from by rw[hd];decide)]
  refine Zb (Zd (Zb (ZJ (Zd ⟨_,rfl,h⟩))))
end
def LB(xs:Array Nat)(j:Nat):∀(fuel lo hi:Nat),hi-lo<=fuel->lo<=hi->hi<=xs.size->(∀i(h:i<xs.size),i<lo->xs[i]<j)->(∀i(h:i<xs.size),hi<=i->¬ xs[i]<j)->
  (xs.toList.Pairwise (· < ·))->SetTable.below.go xs j fuel lo hi<=xs.size/\(∀i(h:i<xs.size),(xs[i]<j↔i<SetTable.below.go xs j fuel lo hi)):=by
 intro fuel
 induction fuel with
 |zero=>
  intro lo hi hf hl hs ha hb _;have:lo=hi:=⋯;subst this
  show lo<=_/\∀i(h:i<xs.size),(xs[i]<j↔i<lo)
  refine⟨hs,λi h=>⟨λh1=>Decidable.byContradiction λh2=>hb i h ⋯ h1,λh1=>ha i h h1⟩⟩
 |succ fuel ih=>
  intro lo hi hf hl hs ha hb hp
  show(if lo<hi then _ else lo)<=_/\∀i(h:i<xs.size),(xs[i]<j↔i<(if lo<hi then _ else lo))
  by_cases h:lo<hi
  ·simp only[if_pos h];have hm:(lo+hi)/2<xs.size:=⋯;have mono:∀a b(ha:a<xs.size)(hb:b<xs.size),a<b->xs[a]<xs[b]:=λa b h1 h2 h3=>by
    have:=(y0o.mp hp) a b (l_ h1) (l_ h2) h3
    simpa using this
   show(if xs.getD ((lo+hi)/2) j<j then _ else _)<=_/\∀i(h:i<xs.size),(xs[i]<j↔i<(if xs.getD ((lo+hi)/2) j<j then _ else _))
   have e:xs.getD ((lo+hi)/2) j=xs[(lo+hi)/2]:=by simp[y27,hm]
   rw[e];by_cases hc:xs[(lo+hi)/2]<j
   ·simp only[if_pos hc];exact ih _ _ ⋯ ⋯ hs (λi h1 h2=>by
     by_cases h3:i=(lo+hi)/2
     ·subst h3;exact hc
     ·have:=mono i _ h1 hm ⋯;omega) hb hp
   ·simp only[if_neg hc];exact ih _ _ ⋯ ⋯ ⋯ ha (λi h1 h2=>by
     by_cases h3:i=(lo+hi)/2
     ·subst h3;exact hc
     ·have:=mono _ i hm h1 ⋯;omega) hp
  ·simp only[if_neg h];have:lo=hi:=⋯;subst this;exact⟨hs,λi h=>⟨λh1=>Decidable.byContradiction λh2=>hb i h ⋯ h1,λh1=>ha i h h1⟩⟩
def B9{xs:Array Nat}(hp:xs.toList.Pairwise (· < ·))(j:Nat):y1U xs j<=xs.size/\(∀i(h:i<xs.size),(xs[i]<j↔i<y1U xs j)):=LB xs j xs.size 0 xs.size ⋯ ⋯ ⋯ (λi h h1=>by omega) (λi h h1=>by omega) hp
def Cz{xs:Array Nat}(hp:xs.toList.Pairwise (· < ·))(hj:xs[y1U xs j]?≠a_ j):(SetTable.insertAt xs (y1U xs j) j).toList.Pairwise (· < ·):=by
 let⟨h1,h2⟩:=B9 hp j;generalize y1U xs j=p at h1 h2 hj;have e:(SetTable.insertAt xs p j).toList=xs.toList.take p++[j]++xs.toList.drop p:=by simp[SetTable.insertAt,List.take_of_length_le]
 rw[e];rw[y0J,List.pairwise_append,List.singleton_append,y0O];refine⟨hp.sublist (List.take_sublist ..),⟨λa ha=>?_,hp.sublist (List.drop_sublist ..)⟩,λa ha b hb=>?_⟩
 ·let⟨i,hi,rfl⟩:=y2N.mp ha;rw[List.getElem_drop];have af:p+i<xs.size:=by simp at hi;omega
  have hn:=mt (h2 (p+i) af).mp ⋯;have cz:xs[p+i]≠j:=by
   intro he;by_cases hi0:i=0
   ·subst hi0;apply hj;rw[ZG ⋯];exact congrArg a_ he
   ·have:=(y0o.mp hp) p (p+i) (by simp;omega) (l_ af) ⋯
    have h3:=mt (h2 p ⋯).mp ⋯;simp at this;omega
  simp;omega
 ·let⟨i,hi,rfl⟩:=y2N.mp ha;rw[List.getElem_take];have ax:i<p:=by simp at hi;omega
  have af:i<xs.size:=⋯;have hx:=(h2 i af).mpr ax;rcases Zs.mp hb with rfl|hb
  ·simpa using hx
  ·let⟨k,hk,rfl⟩:=y2N.mp hb;rw[List.getElem_drop];have ub:p+k<xs.size:=by simp at hk;omega
   have:=(y0o.mp hp) i (p+k) (l_ af) (l_ ub) ⋯
   simpa using this
structure TOk(bt:Bool)(t:y1s):Prop where
 dum:t.dummies=#[]
 led:bt=false->t.led=true
 ris:t.plain=true->t.place.toList.Pairwise (· < ·)
theorem TOk.standIn{t:y1s}(h:TOk bt t)(n:Nat):TOk bt (t.standIn n):=⟨rfl,h.led,λe=>by cases e⟩
theorem TOk.off(h:TOk bt t):TOk bt { t with plain:=false}:=⟨h.dum,h.led,λe=>by cases e⟩
def Ea{t:y1s}(h:t.dummies=#[])(j:Nat):t.slot j≠.dummy:=by
 unfold SetTable.slot;simp only[h,show SetTable.has #[] j=false from by simp[SetTable.has]]
 split <;> simp
def Ht{t:y1s}(h:t.slot j=.empty):t.place[y1U t.place j]?≠a_ j:=by unfold SetTable.slot at h;intro e;simp[e]at h
def JX(t:y1s)(p:SetTable.Probe):(t.advance p).dummy=p.dummy:=by
 unfold SetTable.advance;split
 ·rfl
 ·rfl
def LC{t:y1s}(hd:t.dummies=#[])(f:Nat->Int)(h:Int):∀(fuel:Nat)(p:SetTable.Probe),p.dummy=b_->∀j d,SetTable.probe.go t f h fuel p=a_ (.empty j d)->d=b_/\t.slot j=.empty:=by
 intro fuel
 induction fuel with
 |zero=>intro p _ j d e;cases e
 |succ fuel ih=>
  intro p hp j d e;unfold SetTable.probe.go at e;split at e
  ·rename_i he;cases e
   exact⟨hp,he⟩
  ·rename_i he;exact(Ea hd _ he).elim
  ·split at e
   ·cases e
   ·exact ih _ (by rw[JX];exact hp) j d e
def JY{t:y1s}(hd:t.dummies=#[])(e:t.freeSlot h=a_ (j,b)):t.slot j=.empty:=by
 unfold SetTable.freeSlot at e;split at e
 ·rename_i j' d he;let⟨h1,h2⟩:=LC hd _ _ _ _ rfl _ _ he;subst h1;cases e
  exact h2
 ·cases e
theorem TOk.put{t:y1s}(h:TOk bt t)(he:t.slot j=.empty):TOk bt (t.put j).1:=by refine⟨?_,h.led,λe=>Cz (h.ris e) (Ht he)⟩;simp[SetTable.put,h.dum,SetTable.has]
theorem TOk.orSt{t:y1s}(h:TOk bt t)(n:Nat):TOk bt (t.orStandIn n):=by
 unfold SetTable.orStandIn;split
 ·exact h
 ·exact h.standIn n
theorem TOk.lay(h:TOk bt t)(es:Array (Int×s_))(k:Int)(x:s_):TOk bt (layNew t es k x).2.1:=by
 unfold layNew;split
 ·rename_i slot wd e;exact(h.put (JY h.dum e)).orSt _
 ·exact h.standIn _
def JZ(f:Nat->D_ Nat):∀n,((List.filterMap (λj=>Option.map (λx=>(j,x)) (f j)) (ZD n)).map (·.1)).Pairwise (· < ·):=by
 intro n;have h1:(ZD n).Pairwise (· < ·):=List.pairwise_lt_range;have h2:((List.filterMap (λj=>Option.map (λx=>(j,x)) (f j)) (ZD n)).map (·.1)).Sublist (ZD n):=by
  induction ZD n with
  |nil=>simp
  |cons a l ih=>
   simp only[y1B];cases f a with
   |none=>exact ih.cons _
   |some x=>exact ih.cons₂ _
 exact h1.sublist h2
theorem TOk.relay(h:TOk bt t)(es:Array (Int×s_))(n:Nat):TOk bt (relayAll t es n).2.1:=by
 unfold relayAll;split
 ·rename_i t' order e;have ht':TOk bt t':=by
   unfold SetTable.relaid SetTable.laid at e;simp only[Option.bind_eq_bind]at e;cases ho:SetTable.layClean (SetTable.sizeAbove n-1) (Array.map (λx=>x.fst) es) with
   |none=>rw[ho]at e;cases e
   |some owner=>rw[ho]at e;have e2:=ZI e;have e3:_=t':=congrArg y0D e2;subst e3;refine⟨rfl,h.led,λ_=>?_⟩;exact JZ (λj=>owner.getD j b_) _
  dsimp only;split
  ·exact ht'
  ·exact h.standIn _
 ·exact h.standIn _
def fM(w:y_):Bool:=w.params.followText "set-order"
section
variable{prog:z_}{w:y_}{A:w_}{E:f_ 0}{s:t_}{a:u_}
def IU{h:x_}{o:Obj}(ho:h.get? a=a_ o)(hd:o.data=.set es ep t):
  (h.update a (Obj.putSet es' t')).get? a=a_ { o with data:=.set es' (ep+1) t'}:=by
 let⟨c,d,da,sl⟩:=o;cases hd
 rw[ZX _ ho (by rfl)];rfl
end
section
variable{prog:z_}{w:y_}{A:w_}{E:f_ 0}{s:t_}{a:u_}
def code_set_new(x:s_){Q₁:f_ 0}(q:Q₁ (.ref (e_ s)) {s with heap:=s.heap.push {cls:=.type "set",data:=.set #[] 0 (y0H 0 0 !fM w)} }):
  codeAny (model prog w) A (.call (.builtin "set.__new__") ⟨[.type "set",x],[]⟩) (wants Q₁ E) s:=by
 refine codeAny_of_tree ?_;refine Zb (y1E (F.newCall_set_1 x) (Zd ⟨y1e F.plain_set_new _,y0E F.entry_set_new ?_⟩));rw[y0g F.plain_set_new];unfold Builtin.«set.__new__»;refine Zb ?_;unfold Builtin.Frozenset.newClass;refine(show wpAny _ _ (isType (.type "set") >>= _) _ _ s from Zb (Zd ?_))
 rw[if_neg nofun];refine Zb (y1E sub_set_self ?_);rw[if_neg nofun];refine Zd (Zb ?_);unfold newSet setsByText;refine Zb (Zb (y2W (Zd ?_)));exact ZJ (Zd q)
end
def cL:Slot "set_iterator" (y0i "__next__") "set_iterator.__next__" := Slot.of (owner:="set_iterator") (n:="__next__")
 (by rw[typeLookup_type,y2B];rfl) (by decide +kernel) (by decide +kernel) (by decide +kernel) (.inl (by decide +kernel)) (by rw[isSubtype_type];rfl) (by decide +kernel)
def vZ:Slot "set_iterator" (y0i "__iter__") "set_iterator.__iter__" := Slot.of (owner:="set_iterator") (n:="__iter__")
 (by rw[typeLookup_type,y2B];rfl) (by decide +kernel) (by decide +kernel) (by decide +kernel) (.inl (by decide +kernel)) (by rw[isSubtype_type];rfl) (by decide +kernel)
def jV:entryFor table "set_iterator.__next__" = a_ Builtin.«set_iterator.__next__»:=entryFor_of_tree (by rfl)
def B':entryFor table "set.__iter__" = a_ Builtin.«frozenset.__iter__»:=entryFor_alias (id:="set.__iter__") (id':="frozenset.__iter__") (by first|rfl|decide +kernel) (by first|rfl|decide +kernel) (by decide +kernel) (by rfl)
def FJ:y2r (String.ofList ['r','o','t','a','r','e','t','i','_','t','e','s'].reverse) Manifest.owners=a_ Manifest.sig_set_iterator:=by rfl
def lA(a:s_):argsOk "set_iterator.__next__" ⟨[a],[]⟩:=by have e:=signature?_of (id:="set_iterator.__next__") (n:=['_','_','t','x','e','n','_','_']) (o:=['r','o','t','a','r','e','t','i','_','t','e','s']) (by rfl) FJ;unfold argsOk;rw[e];rfl
section
variable{prog:z_}{w:y_}{A:w_}{E:f_ 0}{s:t_}{a it:u_}{o:Obj}{es:Array (Int×s_)}{ep:Nat}{t:y1s}
theorem uK{α:Type}:∀{l:C_ α}{i:Nat}(h:i<l.length),(l[i]::l.eraseIdx i).Perm l
 |[],i,h=>by simp at h
 |x::l,0,h=>by simp
 |x::l,i+1,h=>by simp only[List.getElem_cons_succ,y2b];exact(List.Perm.swap _ _ _).trans (List.Perm.cons _ (uK (l_ h)))
def wp_choose{Q:j_ Nat}(hn:n≠0)(h:∀i d,i<n->Q i { s with drawn:=d}):wpAny M A (choose src n) Q E s:=λΓ p _=>by unfold choose;unfold Sem.wp;exact⟨hn,h _ _ (Nat.mod_lt _ (Nat.pos_of_ne_zero hn))⟩
def Pb{α:Type}:∀(n:Nat)(xs:C_ α)(s:t_)(Q:C_ α->t_->Prop),xs.length=n->(∀ys d,ys.Perm xs->Q ys { s with drawn:=d})->wpAny M A (drawOrder n xs) Q E s:=by
 intro n
 induction n with
 |zero=>intro xs s Q hl h;have:xs=[]:=y2h hl;subst this;exact Zd (h [] s.drawn (y0f _))
 |succ n ih=>
  intro xs s Q hl h;cases xs with
  |nil=>simp at hl
  |cons x l=>
   refine(show wpAny _ _ (choose Source.order (x::l).length >>= _) _ _ _ from Zb (wp_choose (by simp) λi d hi=>?_))
   have e:(x::l)[i]?=a_ (x::l)[i]:=Z9 hi;rw[e];refine Zb (ih _ _ _ (by rw[List.length_eraseIdx_of_lt hi];simp at hl⊢;omega) λys d' hp=>Zd (h _ _ ?_));exact(List.Perm.cons _ hp).trans (uK hi)
def Pc{α:Type}(next:Nat->Nat):∀(fuel k:Nat)(left:C_ α)(out:Array α),left.length=fuel->(pickOrder.go next fuel k left out).toList.Perm (out.toList++left):=by
 intro fuel
 induction fuel with
 |zero=>intro k left out hl;have:left=[]:=y2h hl;subst this;simp[pickOrder.go]
 |succ fuel ih=>
  intro k left out hl;have hi:next k%left.length<left.length:=Nat.mod_lt _ ⋯
  show(match left[next k%left.length]? with|some x=>pickOrder.go next fuel (k+1) (left.eraseIdx (next k%left.length)) (out.push x)|none=>out).toList.Perm _
  rw[Z9 hi];dsimp only;refine(ih _ _ _ (by rw[List.length_eraseIdx_of_lt hi];omega)).trans ?_;rw[Array.toList_push,y0J];exact List.Perm.append_left _ (uK hi)
def K0{α:Type}(next:Nat->Nat)(xs:Array α):(pickOrder next xs).toList.Perm xs.toList:=by have:=Pc next xs.size 0 xs.toList #[] (by simp);unfold pickOrder;simpa using this
def oH(w:y_)(a:u_)(ep:Nat)(es:Array (Int×s_)):Array (Int×s_):=if fM w=true then pickOrder (w.params.setOrder a ep) es else es
def oY:(oH w a ep es).toList.Perm es.toList:=by
 unfold oH;split
 ·exact K0 _ _
 ·exact y0f _
def slotAt(w:y_)(t:y1s)(i:Nat):Nat:=if fM w=true then 0 else if i=0 then 0 else t.place.getD (i-1) 0+1
def Se(ht:TOk (fM w) t)(hf:t.fits es.size=true)(du:fM w=true\/(!t.plain&&decide (es.size>1))=false)(hb:fM w=false):t.place.toList.Pairwise (· < ·):=by
 rcases du with h|h
 ·rw[hb]at h;cases h
 ·cases hp:t.plain with
  |true=>exact ht.ris hp
  |false=>
   rw[hp]at h;have:es.size<=1:=by simpa using h
   have hs:t.place.size=es.size:=by have:=hf;simp[SetTable.fits]at this;exact this.1
   have:t.place.toList.length<=1:=by simp;omega
   match hl:t.place.toList with
   |[]=>exact y1y
   |[x]=>exact y2c _ _
   |x::y::r=>rw[hl]at this;simp at this
def FK{Q:D_ (s_×Nat)->t_->Prop}(ho:s.heap.get? a=a_ o)(hd:o.data=.set es ep t)(ht:TOk (fM w) t)(hf:t.fits es.size=true)(du:fM w=true\/(!t.plain&&decide (es.size>1))=false)(hi:i<=es.size)(q:Q ((oH w a ep es)[i]?.map λe=>(e.2,slotAt w t (i+1))) s):m_ prog w A (setNext a (slotAt w t i) i ep) Q E s:=by
 unfold setNext;refine Zb (y15 ho hd hf ?_);unfold setsByText;refine Zb (Zb (y2W (Zd ?_)))
 show wpAny _ _ (if fM w=true then _ else _) _ _ _
 by_cases hb:fM w=true
 ·rw[if_pos hb];refine y0P (show decide _=false from by simp) ?_
  unfold setWalk;refine Zb (Zb (y15 ho hd hf ?_));unfold setsByText;refine Zb (Zb (y2W (Zd ?_)))
  show wpAny _ _ (if fM w=true then _ else _) _ _ _
  rw[if_pos hb];refine Zb (y2W (Zd (Zd ?_)));have e1:oH w a ep es=pickOrder (w.params.setOrder a ep) es:=if_pos hb;have e2:∀j,slotAt w t j=0:=λj=>if_pos hb;rw[e1,e2]at q;rw[e2];exact q
 ·have hb':fM w=false:=by simpa using hb
  rw[if_neg hb];have hr:=Se ht hf du hb';have we:(!t.plain&&decide (es.size>1))=false:=by
   rcases du with h|h
   ·exact(hb h).elim
   ·exact h
  refine y0P (show decide ((!t.plain&&decide (es.size>1))=true)=false from by rw[we];rfl) ?_
  have um:=ht.led hb';refine Zb (y1E (a:=()) (show(if(!t.led && !es.isEmpty)=true then _ else pure ())=pure () from by rw[um];rfl) (Zd ?_))
  have hs:t.place.size=es.size:=by have:=hf;simp[SetTable.fits]at this;exact this.1
  have ux:y1U t.place (slotAt w t i)=i:=by
   let⟨h1,h2⟩:=B9 hr (slotAt w t i);generalize hp:y1U t.place (slotAt w t i)=p at h1 h2;have mono:∀x y(hx:x<t.place.size)(hy:y<t.place.size),x<y->t.place[x]<t.place[y]:=λx y hx hy jz=>by
    have:=(y0o.mp hr) x y (l_ hx) (l_ hy) jz
    simpa using this
   have bh:slotAt w t i=if i=0 then 0 else t.place.getD (i-1) 0+1:=if_neg hb;rw[bh]at h2;by_cases h0:i=0
   ·subst h0;rcases Nat.eq_zero_or_pos p with h|h
    ·exact h
    ·have:=(h2 0 ⋯).mpr h;simp at this
   ·rw[if_neg h0]at h2;have lg:i-1<t.place.size:=⋯;have eg:t.place.getD (i-1) 0=t.place[i-1]:=by simp[y27,lg]
    rw[eg]at h2;have l1:i-1<p:=(h2 (i-1) lg).mp ⋯;rcases Nat.lt_or_ge i p with h|h
    ·have:=(h2 i ⋯).mpr h;have:=mono (i-1) i lg ⋯ ⋯;omega
    ·omega
  rw[ux];have e1:oH w a ep es=es:=if_neg hb;rw[e1]at q;by_cases af:i<es.size
  ·rw[ZG af]at q⊢;rw[ZG (show i<t.place.size by omega)];have e2:slotAt w t (i+1)=t.place[i]+1:=by have:slotAt w t (i+1)=if i+1=0 then 0 else t.place.getD (i+1-1) 0+1:=if_neg hb;rw[this];simp[y27,show i<t.place.size by omega]
   simpa[e2] using q
  ·rw[y0d ⋯]at q⊢;simpa using q
end
section
variable{prog:z_}{w:y_}{A:w_}{E:f_ 0}{s:t_}{a it:u_}{o:Obj}{es:Array (Int×s_)}{ep:Nat}{t:y1s}
def siO(a:u_)(first:s_)(i n ep:Nat):Obj:={cls:=.type "set_iterator",data:=.fields #[first,.int i 0,.ref a,.int n 0,.int ep 0]}
def LD{Q:f_ 0}(ho:s.heap.get? a=a_ o)(hx:o.ExactSet)(hd:o.data=.set es ep t)(hf:t.fits es.size=true)(hz:es.size<=Zq)
  (q1:(fM w=true\/(!t.plain&&decide (es.size>1))=false)->Q (.ref (e_ s)) {s with heap:=s.heap.push (siO a (.int 0 0) 0 es.size ep)})
  (q2:∀(ys:C_ Nat) d,ys.Perm (ZD es.size)->Q (.ref (s.heap.objs.size+1)) {s with heap:=(s.heap.push {cls:=.type "tuple",data:=.seq (ys.map λi=>y10 (i:Nat) 0).toArray}).push (siO a (.ref (e_ s)) 0 es.size ep),drawn:=d}):
  m_ prog w A (pyIter (.ref a)) Q E s:=by
 have hT:s.TypeIs (.ref a) "set" := ⟨o,ho,hx.1⟩;refine wpAny_pyIter_slot hT F.slot_set_iter (Z1 F.slot_set_iter hT B' (show wpAny _ _ (Builtin.«frozenset.__iter__» _) _ _ _ from ?_) (F.args_set_iter_1 _))
 unfold Builtin.«frozenset.__iter__» Builtin.Frozenset.slot0;refine Zb (Zb (Zd (Zd ?_)));unfold Builtin.Frozenset.sizeOf;refine Zb (Zb (y2d ho hd hf (Zd ?_)));unfold setDrawn setsByText;refine Zb (Zb (y15 ho hd hf (Zb (Zb (y2W (Zd (Zd ?_)))))))
 show wpAny _ _ (if(!(fM w)&&(!t.plain&&decide (es.size>1)))=true then _ else _) _ _ _
 by_cases hc:(!(fM w)&&(!t.plain&&decide (es.size>1)))=true
 ·rw[if_pos hc];refine Zb (Pb _ _ _ _ (by simp) λys d hp=>?_);unfold newTuple newFields;refine Zb (ZJ ?_ ?_)
  ·refine Zb (wpAny_setEpoch_of (o:=o) (Ze _ ho) hd hf ?_);refine Zb (ZJ (Zd ⟨_,rfl,"set_iterator",_,⟨_,Zj _ rfl,rfl⟩,cL.lookup,?_⟩));have:=q2 ys d hp;rw[<-y0m s.heap {cls:=.type "tuple",data:=.seq (ys.map λi=>y10 (i:Nat) 0).toArray}]at this;exact this
  ·show(y1N (λi=>rawInt ((i:Nat):Int)) ys).toArray.size<=Zq
   have:=hp.length_eq;simp at this⊢;omega
 ·rw[if_neg hc];refine Zb (Zd ?_);refine Zb (wpAny_setEpoch_of ho hd hf ?_);unfold newFields;refine Zb (ZJ (Zd ⟨_,rfl,"set_iterator",_,⟨_,Zj _ rfl,rfl⟩,cL.lookup,q1 ?_⟩));simp at hc;cases hb:fM w with
  |true=>exact .inl rfl
  |false=>refine .inr ?_;have:=hc hb;simpa using this
def tH{h1:x_}{fs:Array s_}{α:Type}{f:Unit->Sem α}{R:α->t_->Prop}{E':f_ 0}(g:h1.get? it=a_ {cls:=.type "set_iterator",data:=.fields fs})(hj:j<fs.size)(k:∀h2:x_,h2.get? it=a_ {cls:=.type "set_iterator",data:=.fields (fs.setIfInBounds j x)}->(∀(b:u_),b≠it->h2.get? b=h1.get? b)->Heap.ExtBut it h1 h2->m_ prog w A (f ()) R E' {s with heap:=h2}):
  m_ prog w A (setField (.ref it) j x >>= f) R E' {s with heap:=h1}:=by
 refine Zb (y2R (s:={s with heap:=h1}) g rfl hj ?_);refine k _ ?_ (λb hb=>(ZK ..).2 b hb) (ZK ..).extBut;rw[ZX _ g (y2C (y2o rfl _))];simp[y1O]
def FL(hI:s.heap.get? it=a_ (siO a first i n ep)):s.TypeIs (.ref it) "set_iterator" := ⟨_,hI,rfl⟩
def K1{Q:D_ s_->t_->Prop}(hI:s.heap.get? it=a_ (siO a (.int (slotAt w t i) 0) i es.size ep))(ho:s.heap.get? a=a_ o)(hd:o.data=.set es ep t)(ht:TOk (fM w) t)(hf:t.fits es.size=true)(du:fM w=true\/(!t.plain&&decide (es.size>1))=false)(af:i<es.size)(fw:i<(oH w a ep es).size)(q:∀h',h'.get? it=a_ (siO a (.int (slotAt w t (i+1)) 0) (i+1) es.size ep)->(∀(b:u_),b≠it->h'.get? b=s.heap.get? b)->Q (a_ (oH w a ep es)[i].2) {s with heap:=h'}):m_ prog w A (pyNext (.ref it)) Q E s:=by
 have hT:=FL hI;unfold pyNext;refine Zb (y1f (ZR (name:=y0i "__next__") hT cL (Z1 cL hT jV ?_ (lA _))));refine Zb (Zd (Zb (y1V hI rfl ?_)));refine(show wpAny _ _ (setEntries a >>= _) _ _ s from Zb (y2d ho hd hf ?_))
 refine y0P (show decide _=false from by simp) ?_
 refine(show wpAny _ _ (setNext a (slotAt w t i) i ep >>= _) _ _ s from Zb (FK ho hd ht hf du (y1J af) ?_))
 rw[ZG fw];refine(show wpAny _ _ (setField (.ref it) 0 _ >>= _) _ _ {s with heap:=s.heap} from tH hI (by simp[siO]) λh2 g2 k2 _=>?_)
 refine tH g2 (by simp) λh3 g3 k3 _=>?_;refine Zd ⟨_,rfl,Zd (q h3 ?_ λb hb=>by rw[k3 b hb,k2 b hb])⟩;rw[g3];simp[siO,rawInt]
def LF{Q:D_ s_->t_->Prop}(hh:A.handled=b_)(hI:s.heap.get? it=a_ (siO a (.int (slotAt w t es.size) 0) es.size es.size ep))(ho:s.heap.get? a=a_ o)(hd:o.data=.set es ep t)(ht:TOk (fM w) t)(hf:t.fits es.size=true)
  (du:fM w=true\/(!t.plain&&decide (es.size>1))=false)
  (q:∀h',Heap.ExtBut it s.heap h'->Q b_ {s with heap:=h'}):m_ prog w A (pyNext (.ref it)) Q E s:=by
 have hT:=FL hI;have hsz:(oH w a ep es).size=es.size:=by have:=(oY (w:=w) (a:=a) (ep:=ep) (es:=es)).length_eq;simpa using this
 unfold pyNext;refine Zb (y1f (ZR (name:=y0i "__next__") hT cL (Z1 cL hT jV ?_ (lA _))));refine Zb (Zd (Zb (y1V hI rfl ?_)));refine(show wpAny _ _ (setEntries a >>= _) _ _ s from Zb (y2d ho hd hf ?_))
 refine y0P (show decide _=false from by simp) ?_
 refine(show wpAny _ _ (setNext a (slotAt w t es.size) es.size ep >>= _) _ _ s from Zb (FK ho hd ht hf du (Zi _) ?_))
 rw[y0d ⋯];refine(show wpAny _ _ (setField (.ref it) 2 _ >>= _) _ _ {s with heap:=s.heap} from tH hI (by simp[siO]) λh2 g2 k2 x2=>?_)
 refine(show wpAny _ _ (newExc (.type "StopIteration") [] >>= _) _ _ _ from Zb ?_);simp only[newExc,newTuple]
 refine Zb (ZJ (Zb (m:=y1W _ _) (y1E (a:=ZE) (by first|rfl|(simp only[y1W];rfl)) (ZJ ?_ (by size_fits)))) (by size_fits))
 simp only[raiseNew];refine Zb (wpAny_handled ?_);rw[show A.in1.handled=b_ from hh]
 refine Zb (Zd (wpAny_throw ?_));refine Zb (y0T (T:="StopIteration") (b:=true) ⟨_,Zj _ rfl,rfl⟩ isSubtype_stop ?_);exact Zd (q _ ((x2.push _).push _))
def CA(ys:C_ Nat):Obj:={cls:=.type "tuple",data:=.seq (ys.map λi=>y10 (i:Nat) 0).toArray}
def K2{i tp p:Nat}{e:Int×s_}{ys:C_ Nat}{Q:D_ s_->t_->Prop}(hI:s.heap.get? it=a_ (siO a (.ref tp) i es.size ep))(vy:s.heap.get? tp=a_ (CA ys))(ho:s.heap.get? a=a_ o)(hd:o.data=.set es ep t)(hf:t.fits es.size=true)
  (hp:ys[i]?=a_ p) (he:es[p]?=a_ e)
  (q:∀h',h'.get? it=a_ (siO a (.ref tp) (i+1) es.size ep)->(∀(b:u_),b≠it->h'.get? b=s.heap.get? b)->Q (a_ e.2) {s with heap:=h'}):m_ prog w A (pyNext (.ref it)) Q E s:=by
 have hT:=FL hI;unfold pyNext;refine Zb (y1f (ZR (name:=y0i "__next__") hT cL (Z1 cL hT jV ?_ (lA _))));refine Zb (Zd (Zb (y1V hI rfl ?_)));refine(show wpAny _ _ (setEntries a >>= _) _ _ s from Zb (y2d ho hd hf ?_))
 refine y0P (show decide _=false from by simp) ?_
 unfold seqItems?;refine(show wpAny _ _ ((load tp >>= _) >>= _) _ _ s from Zb (Zb (wpAny_load vy (show wpAny _ _ (pure (a_ _)) _ _ s from Zd ?_))))
 have e1:(ys.map λi=>y10 (i:Nat) 0).toArray[((i:Nat):Int).toNat]?=a_ (.int p 0):=by simp[hp]
 refine(show wpAny _ _ (match(ys.map λi=>y10 (i:Nat) 0).toArray[((i:Nat):Int).toNat]? with|some (y10 place tok)=>_|some val=>_|none=>_) _ _ s from ?_)
 rw[e1];unfold setNextDrawn;refine Zb (Zb (y15 ho hd hf ?_));refine y0P (show decide _=false from by simp) ?_
 refine(show wpAny _ _ (match es[p]? with|some (fst,x)=>pure x|x=>_) _ _ s from ?_)
 rw[he];refine Zd ?_;refine(show wpAny _ _ (setField (.ref it) 1 _ >>= _) _ _ {s with heap:=s.heap} from tH hI (by simp[siO]) λh2 g2 k2 _=>?_)
 refine Zd ⟨_,rfl,Zd (q h2 ?_ k2)⟩;rw[g2];simp[siO,rawInt]
def LG{tp:Nat}{ys:C_ Nat}{Q:D_ s_->t_->Prop}(hh:A.handled=b_)(hI:s.heap.get? it=a_ (siO a (.ref tp) es.size es.size ep))(vy:s.heap.get? tp=a_ (CA ys))(ho:s.heap.get? a=a_ o)(hd:o.data=.set es ep t)(hf:t.fits es.size=true)
  (hy:ys.length=es.size) (q:∀h',Heap.ExtBut it s.heap h'->Q b_ {s with heap:=h'}):m_ prog w A (pyNext (.ref it)) Q E s:=by
 have hT:=FL hI;unfold pyNext;refine Zb (y1f (ZR (name:=y0i "__next__") hT cL (Z1 cL hT jV ?_ (lA _))));refine Zb (Zd (Zb (y1V hI rfl ?_)));refine(show wpAny _ _ (setEntries a >>= _) _ _ s from Zb (y2d ho hd hf ?_))
 refine y0P (show decide _=false from by simp) ?_
 unfold seqItems?;refine(show wpAny _ _ ((load tp >>= _) >>= _) _ _ s from Zb (Zb (wpAny_load vy (show wpAny _ _ (pure (a_ _)) _ _ s from Zd ?_))))
 have e1:(ys.map λi=>y10 (i:Nat) 0).toArray[((es.size:Nat):Int).toNat]?=b_:=by simp[hy]
 refine(show wpAny _ _ (match(ys.map λi=>y10 (i:Nat) 0).toArray[((es.size:Nat):Int).toNat]? with|some (y10 place tok)=>_|some val=>_|none=>_) _ _ s from ?_)
 rw[e1];refine(show wpAny _ _ (setField (.ref it) 0 _ >>= _) _ _ {s with heap:=s.heap} from tH hI (by simp[siO]) λh1 g1 k1 x1=>?_)
 refine tH g1 (by simp) λh2 g2 k2 x2=>?_;refine(show wpAny _ _ (newExc (.type "StopIteration") [] >>= _) _ _ _ from Zb ?_);simp only[newExc,newTuple]
 refine Zb (ZJ (Zb (m:=y1W _ _) (y1E (a:=ZE) (by first|rfl|(simp only[y1W];rfl)) (ZJ ?_ (by size_fits)))) (by size_fits))
 simp only[raiseNew];refine Zb (wpAny_handled ?_);rw[show A.in1.handled=b_ from hh]
 refine Zb (Zd (wpAny_throw ?_));refine Zb (y0T (T:="StopIteration") (b:=true) ⟨_,Zj _ rfl,rfl⟩ isSubtype_stop ?_);exact Zd (q _ (((x1.trans x2).push _).push _))
end
def Eb:typeLookup (y1v "set") (y0i "__len__")=pure (a_ (Value.builtin "set.__len__")):=by rw[typeLookup_type,y2B];rfl
def CB:entryFor table "set_iterator.__iter__" = a_ Builtin.«dict_keyiterator.__iter__»:=entryFor_alias (id:="set_iterator.__iter__") (id':="dict_keyiterator.__iter__") (by first|rfl|decide +kernel) (by first|rfl|decide +kernel) (by decide +kernel) (by rfl)
def Ec(a:s_):argsOk "set_iterator.__iter__" ⟨[a],[]⟩:=by have e:=signature?_of (id:="set_iterator.__iter__") (n:=['_','_','r','e','t','i','_','_']) (o:=['r','o','t','a','r','e','t','i','_','t','e','s']) (by rfl) FJ;unfold argsOk;rw[e];rfl
section
variable{prog:z_}{w:y_}{A:w_}{E:f_ 0}{s:t_}{a it:u_}{o:Obj}{es:Array (Int×s_)}{ep:Nat}{t:y1s}
def LH{Q:j_ Bool}(hT:s.TypeIs (.ref a) "set")(q:Q false s):m_ prog w A (y2D (.ref a)) Q E s:=by unfold y2D;refine Zb (y2t hT Eb ?_);dsimp only;rw[show splitId "set.__len__" = a_ ("set","__len__") by decide +kernel];refine Zb (y0T hT sub_set_self ?_);refine wpAny_ite_split (λh=>absurd h nofun) λ_=>?_;refine wpAny_ite_split (λ_=>Zb (y1K hT (Zd q))) λh=>?_;exact absurd nofun h
def FM{Q:f_ 0}(hI:s.heap.get? it=a_ (siO a first i n ep))(q:Q (.ref it) s):m_ prog w A (pyIter (.ref it)) Q E s:=by
 have hT:=FL hI;refine wpAny_pyIter_slot hT vZ (Z1 vZ hT CB (show wpAny _ _ (Builtin.«dict_keyiterator.__iter__» _) _ _ _ from ?_) (Ec _))
 unfold Builtin.«dict_keyiterator.__iter__»;refine Zb (Zd ?_);exact Zd ⟨_,rfl,"set_iterator",_,hT,cL.lookup,q⟩
def Hu(hh:A.handled=b_)(cz:a≠it)(hd:o.data=.set es ep t)(ht:TOk (fM w) t)(hf:t.fits es.size=true)(du:fM w=true\/(!t.plain&&decide (es.size>1))=false):
  Walks prog w A it [it,a] [it] es.size (λi v=>(oH w a ep es)[i]?.map (·.2)=a_ v) (λi h=>h.get? it=a_ (siO a (.int (slotAt w t i) 0) i es.size ep)/\h.get? a=a_ o):=by
 have hsz:(oH w a ep es).size=es.size:=by have:=(oY (w:=w) (a:=a) (ep:=ep) (es:=es)).length_eq;simpa using this
 refine⟨λb hb=>by simp at hb;simp[hb],λi h h' hs k=>⟨k it (by simp) _ hs.1,k a (by simp) _ hs.2⟩,λi s Q E hi hs q=>?_,λs Q E hs q=>?_,λi s Q E hs q=>?_⟩
 ·have hl:i<(oH w a ep es).size:=⋯;refine K1 hs.1 hs.2 hd ht hf du hi hl λh' g k=>q _ h' s.toks (by rw[ZG hl];rfl) ⟨g,by rw[k a cz];exact hs.2⟩ λb o' hb e=>by rw[k b (l_ hb)];exact e
 ·exact LF hh hs.1 hs.2 hd ht hf du λh' k=>q h' s.toks λb o' hb e=>k b o' (l_ hb) e
 ·exact FM hs.1 q
def Hv{tp:Nat}{ys:C_ Nat}(hh:A.handled=b_)(cz:a≠it)(Y8:tp≠it)(hd:o.data=.set es ep t)(hf:t.fits es.size=true)(hy:ys.Perm (ZD es.size)):
  Walks prog w A it [it,tp,a] [it] es.size (λi v=>∃p e,ys[i]?=a_ p/\es[p]?=a_ e/\v=e.2) (λi h=>h.get? it=a_ (siO a (.ref tp) i es.size ep)/\h.get? tp=a_ (CA ys)/\h.get? a=a_ o):=by
 have hl:ys.length=es.size:=by have:=hy.length_eq;simpa using this
 refine⟨λb hb=>by simp at hb;simp[hb],λi h h' hs k=>⟨k it (by simp) _ hs.1,k tp (by simp) _ hs.2.1,k a (by simp) _ hs.2.2⟩,λi s Q E hi hs q=>?_,λs Q E hs q=>?_,λi s Q E hs q=>?_⟩
 ·have h1:i<ys.length:=⋯;have e1:ys[i]?=a_ ys[i]:=Z9 h1;have h2:ys[i]<es.size:=by have:=hy.mem_iff.mp (y1I h1);simpa using this
  have e2:es[ys[i]]?=a_ es[ys[i]]:=ZG h2;exact K2 hs.1 hs.2.1 hs.2.2 hd hf e1 e2 λh' g k=>q _ h' s.toks ⟨_,_,e1,e2,rfl⟩ ⟨g,by rw[k tp Y8];exact hs.2.1,by rw[k a cz];exact hs.2.2⟩ λb o' hb e=>by rw[k b (l_ hb)];exact e
 ·exact LG hh hs.1 hs.2.1 hs.2.2 hd hf hl λh' k=>q h' s.toks λb o' hb e=>k b o' (l_ hb) e
 ·exact FM hs.1 q
def Hw{R:j_ Result}(hh:A.handled=b_)(ho:s.heap.get? a=a_ o)(hx:o.ExactSet)(hd:o.data=.set es ep t)(ht:TOk (fM w) t)(hf:t.fits es.size=true)(hz:es.size<=Zq)(S:u_)(uv:S≠a)(res:s_)(c₀:Nat)
  (hS:s.heap.get? S=a_ {cls:=.type "list",data:=.seq #[] c₀})
  (hR:∀h' d tk (acc:Array s_) c',(∀b o,b≠S->s.heap.get? b=a_ o->h'.get? b=a_ o)->h'.get? S=a_ {cls:=.type "list",data:=.seq acc c'}->acc.toList.Perm (es.toList.map (·.2))->R (.ok (.ret res)) {s with heap:=h',drawn:=d,toks:=tk}):
  m_ prog w A.in1 (y0F (.ref S) (.ref a) res) (λfin s'=>match fin with|.done f=>R (.ok f) s'|.again c'=>c'.quiet=true/\codeAny (model prog w) A c' R s') (λe s'=>R (.error e) s') s:=by
 have hT:s.TypeIs (.ref a) "set" := ⟨o,ho,hx.1⟩
 have yd:=Zl ho
 have ow:=Zl hS
 unfold y0F
 refine Zb (y1K hT ?_)
 have hc:(y1n (.ref S) (.ref a) || y1v "set" == y1v "list" || y1v "set" == y1v "tuple")=false:=by
  have:y1n (.ref S) (.ref a)=false:=by simp[y1n,uv]
  rw[this]
  decide
 rw[hc,if_neg Zv]
 have tail:∀{s1:t_}{I:u_}{fp:C_ u_}{P:Nat->s_->Prop}{St:Nat->x_->Prop},Walks prog w A.in1 I fp [I] es.size P St->S∉fp->St 0 s1.heap->I≠S->s1.heap.get? S=a_ {cls:=.type "list",data:=.seq #[] c₀}->s1.TypeIs (.ref a) "set" -> s1.gens=s.gens->s1.os=s.os->
   (∀b o,s.heap.get? b=a_ o->s1.heap.get? b=a_ o)->(e_ s)<=I->(∀acc,ItemsOf P acc es.size->acc.toList.Perm (es.toList.map (·.2)))->
   ∀{f:Bool->Sem PySem.Fin},(∀b,f b=(if(b || false)=true then(do rule "list.extend.makes-room";y2l (.ref S);again (.builtin "list.extend.loop" ⟨[.ref S,.ref I,res],[]⟩)) else again (.builtin "list.extend.loop" ⟨[.ref S,.ref I,res],[]⟩))\/
    f b=(do rule "list.extend.makes-room";y2l (.ref S);again (.builtin "list.extend.loop" ⟨[.ref S,.ref I,res],[]⟩)))->
   m_ prog w A.in1 (holding [ZC I] (y2D (.ref a)) >>= f) (λfin s'=>match fin with|.done f=>R (.ok f) s'|.again c'=>c'.quiet=true/\codeAny (model prog w) A c' R s') (λe s'=>R (.error e) s') s1:=by
  intro s1 I fp P St W qf bc hIS hS1 hT1 hg ij kp hI hit f hf'
  have key:∀h c₁ tk,St 0 h->(∀b o,b≠S->s1.heap.get? b=a_ o->h.get? b=a_ o)->h.get? S=a_ {cls:=.type "list",data:=.seq #[] c₁}->codeAny (model prog w) A (.builtin "list.extend.loop" ⟨[.ref S,.ref I,res],[]⟩) R {s1 with heap:=h,toks:=tk}:=by
   intro h c₁ tk c7 hk m5
   refine codeAny_extend_loopS (Walks.toS W) hz S qf res es.size 0 _ #[] c₁ (y2E _) (ZO _) c7 m5 (ItemsOf.nil P) λs' acc c' hm b6 ag=>?_
   have e:=Moved.eq_with hm
   rw[e]
   have:=hR s'.heap s1.drawn s'.toks acc c' (λb o hb e=>hm.heap b o (λz=>?_) (hk b o hb (kp b o e))) b6 (hit acc ag)
   ·rw[<-hg,<-ij]at this
    exact this
   ·rcases Zs.mp z with z|z
    ·exact hb z
    ·have h1:=Zl e
     exact absurd (ZN.mp z▸h1) (Nat.not_lt.mpr hI)
  refine Zb (Z3 (LH hT1 ?_))
  have mz:m_ prog w A.in1 (do rule "list.extend.makes-room";y2l (.ref S);again (.builtin "list.extend.loop" ⟨[.ref S,.ref I,res],[]⟩)) (λfin s'=>match fin with|.done f=>R (.ok f) s'|.again c'=>c'.quiet=true/\codeAny (model prog w) A c' R s') (λe s'=>R (.error e) s') s1:=by
   refine Zb (y07 (Zb ?_))
   unfold y2l
   refine Zb (wpAny_updateSeq hS1 rfl ?_)
   have o8:=ZX (ZT λx=>x.push ZE) hS1 rfl
   refine wpAny_updateSeq o8 rfl ?_
   have ur:=ZX (ZT λx=>x.pop) o8 rfl
   refine Zd ⟨y1e F.plain_extend_loop _,key _ _ _ (W.frame 0 s1.heap _ bc λb hb o e=>?_) (λb o hb e=>?_) ur⟩
   ·have Xj:b≠S:=λh=>qf (h▸hb)
    exact(y0c _ _ (ZV Xj)).trans ((y0c _ _ (ZV Xj)).trans e)
   ·exact(y0c _ _ (ZV hb)).trans ((y0c _ _ (ZV hb)).trans e)
  rcases hf' false with h|h
  ·rw[h,if_neg nofun]
   exact Zd ⟨y1e F.plain_extend_loop _,key s1.heap _ s1.toks bc (λb o _ e=>e) hS1⟩
  ·rw[h]
   exact mz
 refine Zb (LD ho hx hd hf hz (λdu=>?_) λys d hp=>?_)
 ·refine tail (s1:={s with heap:=s.heap.push (siO a (.int 0 0) 0 es.size ep)}) (Hu (A:=A.in1) hh (Zt yd) hd ht hf du) ?_ ⟨?_,Ze _ ho⟩ (y0a ow) (Ze _ hS) ⟨o,Ze _ ho,hx.1⟩ rfl rfl (λb o e=>Ze _ e) (Zi _) (λacc ha=>?_) (λb=>?_)
  ·intro z
   rcases Zs.mp z with z|z
   ·exact Zt ow z
   ·exact uv (ZN.mp z)
  ·have e0:slotAt w t 0=0:=by unfold slotAt;split <;> rfl
   rw[e0]
   exact Zj _ rfl
  ·have hsz:(oH w a ep es).size=es.size:=by have:=(oY (w:=w) (a:=a) (ep:=ep) (es:=es)).length_eq;simpa using this
   have:acc.toList=(oH w a ep es).toList.map (·.2):=by
    apply y01
    intro i
    rw[Zr,y1P,y1P]
    by_cases hi:i<acc.size
    ·have e:=ha.2 i acc[i] (ZG hi)
     rw[ZG hi]
     exact e.symm
    ·have h1:=ha.1
     rw[y0d ⋯,y0d ⋯]
     rfl
   rw[this]
   exact oY.map _
  ·cases b <;> first|exact Or.inl rfl|exact Or.inr rfl
 ·have uk:(s.heap.push (CA ys)).objs.size=(e_ s)+1:=y0m ..
  have gS:(s.heap.push (CA ys)).get? S=a_ {cls:=.type "list",data:=.seq #[] c₀}:=Ze _ hS
  have ga:(s.heap.push (CA ys)).get? a=a_ o:=Ze _ ho
  have gt:(s.heap.push (CA ys)).get? (e_ s)=a_ (CA ys):=Zj _ rfl
  refine tail (s1:={s with heap:=(s.heap.push (CA ys)).push (siO a (.ref (e_ s)) 0 es.size ep),drawn:=d}) (Hv (A:=A.in1) (it:=(e_ s)+1) (tp:=(e_ s)) hh (Zt (y1z yd)) (Zt (y2g _)) hd hf hp) ?_ ⟨?_,Ze _ gt,Ze _ ga⟩ (y0a (y1z ow)) (Ze _ gS) ⟨o,Ze _ ga,hx.1⟩ rfl rfl (λb o e=>Ze _ (Ze _ e)) (Nat.le_succ _) (λacc ha=>?_) (λb=>?_)
  ·intro z
   rcases Zs.mp z with z|z
   ·exact Zt (y1z ow) z
   rcases Zs.mp z with z|z
   ·exact Zt ow z
   ·exact uv (ZN.mp z)
  ·have:=Zj (s.heap.push (CA ys)) (o:=siO a (.ref (e_ s)) 0 es.size ep) rfl
   rw[uk]at this
   exact this
  ·have hl:ys.length=es.size:=by have:=hp.length_eq;simpa using this
   have:acc.toList=ys.map λp=>(es.toList.map (·.2)).getD p .none:=by
    apply y01
    intro i
    rw[Zr,y1P]
    by_cases hi:i<acc.size
    ·let⟨p,e,h1,h2,h3⟩:=ha.2 i acc[i] (ZG hi)
     rw[ZG hi,h1,h3]
     simp[h2]
    ·have h1:=ha.1
     rw[y0d ⋯,y1Q ⋯]
     rfl
   rw[this]
   refine(hp.map _).trans ?_
   have e2:(ZD es.size).map (λp=>(es.toList.map (·.2)).getD p .none)=es.toList.map (·.2):=by
    apply List.ext_getElem
    ·simp
    ·intro i h1 h2
     simp at h1 h2
     simp[h2]
   rw[e2]
  ·cases b <;> first|exact Or.inl rfl|exact Or.inr rfl
end
def Ba(e:Int×s_):Str:=match e.2 with|.str k _=>k|_=>""
def gJ(w:y_)(h:x_)(a:u_)(ks:C_ Str):Prop:=∃o es ep t,h.get? a=a_ o/\o.ExactSet/\o.data=.set es ep t/\TOk (fM w) t/\t.fits es.size=true/\
 (∀e∈es.toList,∃k tk,e=(hashStr w k,y0Y k tk))/\(es.toList.map Ba).Perm ks
def FN(k:Str)(tk:Tok):Value.isStrOf k (.str k tk)=true:=by first|rfl|simp[Value.isStrOf]
section
variable{prog:z_}{w:y_}{A:w_}{E:f_ 0}{s:t_}{a:u_}
def K3{es:Array (Int×s_)}(h:∀e∈es.toList,∃k tk,e=(hashStr w k,y0Y k tk)):ElemsOf (strKind prog w) es.toList:=λe he=>by let⟨k,tk,rfl⟩:=h e he;exact⟨⟨k,FN k tk,rfl⟩,rfl⟩
def LJ{ks:C_ Str}{Q:j_ Bool}(hS:gJ w s.heap a ks)(hb:ks.length+1<scanBound)(h:∀b h',y0z a s.heap h'->gJ w h' a (if k∈ks then ks else ks++[k])->Q b {s with heap:=h'}):m_ prog w A (setAddHashed a (y0Y k tk) (hashStr w k)) Q E s:=by
 let⟨o,es,ep,t,ho,hx,hd,ht,hf,jh,hp⟩:=hS;have hlen:es.size=ks.length:=by have:=hp.length_eq;simpa using this
 have hE:ElemsOf (strKind prog w) es.toList:=K3 jh;unfold setAddHashed;refine Z3 ?_;rw[setAddHashedIn.eq_def];refine Zb (y15 ho hd hf ?_);dsimp only;rw[byScan_of (prog:=prog) (w:=w) (knd:=strKind prog w) (show(y0Y k tk).scannable=true from rfl) ⋯ hE,if_pos rfl]
 refine Zb ?_;unfold setAddByScan;refine Zb (y07 (Zb (wpAny_setScan_of (knd:=strKind prog w) (FN k tk) ho hd hf hE ?_)));cases hi:List.findIdx? (λe=>(strKind prog w).is k e.snd) es.toList with
 |some j=>
  have hm:k∈ks:=by let⟨hj,h1,_⟩:=List.findIdx?_eq_some_iff_getElem.mp hi;have cj:=y1I hj;let⟨k',gi,e⟩:=jh _ cj;rw[e]at h1;have:k=k':=(strKind prog w).inj _ _ _ h1 (FN k' gi);subst this;refine hp.mem_iff.mp (Zu.mpr ⟨_,cj,?_⟩);rw[e];rfl
  refine Zd (Zd (h _ s.heap (Heap.SameBut.refl ..) ?_));rw[if_pos hm];exact⟨o,es,ep,t,ho,hx,hd,ht,hf,jh,hp⟩
 |none=>
  have hm:k∉ks:=by intro hk;let⟨e,he,YE⟩:=Zu.mp (hp.mem_iff.mpr hk);let⟨k',gi,rfl⟩:=jh _ he;have h1:=List.findIdx?_eq_none_iff.mp hi _ he;have h2:k'=k:=YE;subst h2;have h3:Value.isStrOf k' (.str k' gi)=false:=h1;rw[FN k' gi]at h3;cases h3
  have pe:=layNew_perm t es (hashStr w k) (y0Y k tk);have fi:=layNew_fits t es (hashStr w k) (y0Y k tk);have tl:=ht.lay es (hashStr w k) (y0Y k tk);generalize layNew t es (hashStr w k) (y0Y k tk)=L at pe fi tl;let⟨bh,t1,wd,xo⟩:=L;dsimp only at pe fi tl⊢;have hsz:bh.size<scanBound:=by have:=pe.length_eq;simp at this;omega
  have fin:∀h' es' c5 t',y0z a s.heap h'->h'.get? a=a_ { o with data:=.set es' c5 t'}->es'.toList.Perm bh.toList->TOk (fM w) t'->t'.fits es'.size=true->Q true {s with heap:=h'}:=λh' es' c5 t' h1 h2 h3 h4 h5=>by
   have p2:es'.toList.Perm (es.toList++[(hashStr w k,y0Y k tk)]):=h3.trans (l_ pe);refine h _ _ h1 ?_;rw[if_neg hm];refine⟨_,_,_,_,h2,⟨hx.1,hx.2.1,hx.2.2⟩,rfl,h4,h5,λe he=>?_,?_⟩
   ·rcases ZQ.mp (p2.mem_iff.mp he) with h6|h6
    ·exact jh e h6
    ·exact⟨k,tk,ZN.mp h6⟩
   ·refine(p2.map Ba).trans ?_;rw[Z4];exact hp.append (y0f _)
  refine Zb ?_;refine y0I (Q:=λ_ s'=>s'=s) ?_ (λ_ s' e=>?_) (λ_ _ e=>e)
  ·cases xo
   ·exact Zd rfl
   ·exact y07 rfl
  subst e;have stp:∀{m:Sem Bool},m=pure true->∀{f:Bool->Sem (D_ Bool)}{R:D_ Bool->t_->Prop},m_ prog w A (f true) R E s'->m_ prog w A (m >>= f) R E s':=λe _ _ hq=>by subst e;exact Zb (Zd hq)
  have t8:∀{m:Sem Bool},m=pure false->∀{f:Bool->Sem (D_ Bool)}{R:D_ Bool->t_->Prop},m_ prog w A (f false) R E s'->m_ prog w A (m >>= f) R E s':=λe _ _ hq=>by subst e;exact Zb (Zd hq)
  by_cases az:t1.plain=true;rw[if_pos az];refine t8 (hashByValue_scannable 8 (show(y0Y k tk).scannable=true from rfl)) ?_
  rw[if_neg Zv];have tl:=tl.off;have fi:SetTable.fits { t1 with plain:=false} bh.size=true:=fi;generalize ({ t1 with plain:=false}:y1s)=t1 at tl fi⊢
  rotate_left
  rw[if_neg az];refine stp rfl ?_;rw[if_pos rfl]
  all_goals
   have Y0:∀{f:Unit->Sem (D_ Bool)}{R:D_ Bool->t_->Prop},m_ prog w A (f ()) R E { s' with heap:=s'.heap.update a (Obj.putSet bh t1)}->m_ prog w A (storeSet a bh t1 >>= f) R E s':=λhq=>Zb (wpAny_storeSet_of ho hd hq (fits_of_scanBound hsz));have g1:=IU (es':=bh) (t':=t1) ho hd;have sb:=ZK s'.heap a (Obj.putSet bh t1);refine Y0 ?_;by_cases hc:(!wd&&t1.tooFull)=true
   ·rw[if_pos hc];have wt:=relayAll_perm t1 bh (y28 bh.size);have zw:=relayAll_fits t1 bh (y28 bh.size);have tr:=tl.relay bh (y28 bh.size);have hl:(relayAll t1 bh (y28 bh.size)).fst.size=bh.size:=by have:=wt.length_eq;simpa using this
    generalize relayAll t1 bh (y28 bh.size)=L at wt zw tr hl;let⟨es2,t2,g2⟩:=L;refine Zb (y0I (Q:=λ_ s2=>s2={ s' with heap:=s'.heap.update a (Obj.putSet bh t1)}) ?_ (λ_ s2 e2=>?_) (λ_ _ e=>e))
    ·cases g2
     ·exact Zd rfl
     ·exact y07 rfl
    ·subst e2;refine Zb (wpAny_storeSet_of (s:={ s' with heap:=s'.heap.update a (Obj.putSet bh t1)}) g1 rfl ?_ (by rw[hl];exact fits_of_scanBound hsz));exact Zd (Zd (fin _ _ _ _ (sb.trans (ZK _ _ _)) (IU (h:=s'.heap.update a (Obj.putSet bh t1)) (o:={ o with data:=.set bh (ep+1) t1}) g1 rfl) wt tr zw))
   ·rw[if_neg hc];exact Zd (Zd (fin _ _ _ _ sb g1 (y0f _) tl fi))
end
section
variable{prog:z_}{w:y_}{A:w_}{E:f_ 0}{s:t_}{a:u_}
theorem gJ.kept{h h':x_}(H:gJ w h a ks)(k:∀o,h.get? a=a_ o->h'.get? a=a_ o):gJ w h' a ks:=by let⟨o,es,ep,t,ho,r⟩:=H;exact⟨o,es,ep,t,k o ho,r⟩
def fmT(val:Nat->Str):Nat->C_ Str
 |0=>[]
 |i+1=>if val i∈fmT val i then fmT val i else fmT val i++[val i]
theorem Ed(val:Nat->Str):∀i,(fmT val i).length<=i
 |0=>Zi _
 |i+1=>by
  have:=Ed val i;unfold fmT;split
  ·omega
  ·simp;omega
def K4{R:j_ Result}{G:Array GenState->Array GenState->Prop}{P:Nat->s_->Prop}{St:j_ Nat}(W:WalksS prog w A.in1 I fp wr G n P St)(S:u_)(qf:S∉fp)(val:Nat->Str)(vc:∀i v,P i v->∃t,v=y0Y (val i) t)(hb:n+1<scanBound):∀(k i:Nat)(s:t_),n-i=k->i<=n->St i s->gJ w s.heap S (fmT val i)->
   (∀s',Moved (S::wr) G s s'->gJ w s'.heap S (fmT val n)->R (.ok (.ret .none)) s')->codeAny (model prog w) A (.builtin "set.update.loop" ⟨[.ref S,.ref I],[]⟩) R s:=by
 have Xy:S∉wr:=λh=>qf (W.sub S h);have fo:∀b∈wr,b∈S::wr:=λb hb=>Zh S hb;intro k
 induction k with
 |zero=>
  intro i s hk hi bc hS hR;have:i=n:=⋯;subst this;refine y0E PyProof.Rows.F.entry_set_update_loop ?_;rw[y0g y1u];refine(show wpAny _ _ (pyNext (.ref I) >>= _) _ _ s from Zb (W.done s _ _ bc λs' hm=>?_))
  exact Zd (hR s' (hm.mono fo) (hS.kept λo ho=>hm.heap S o Xy ho))
 |succ k ih=>
  intro i s hk hi bc hS hR;have af:i<n:=⋯;refine y0E PyProof.Rows.F.entry_set_update_loop ?_;rw[y0g y1u];refine(show wpAny _ _ (pyNext (.ref I) >>= _) _ _ s from Zb (W.item i s _ _ af bc λv s' hP c7 hm=>?_))
  let⟨t,rfl⟩:=vc i v hP;have b6:gJ w s'.heap S (fmT val i):=hS.kept λo ho=>hm.heap S o Xy ho;refine(show wpAny _ _ (holding [y0Y (val i) t] (setAdd S (.str (val i) t)) >>= _) _ _ s' from Zb (Z3 ?_))
  unfold setAdd;refine Z3 (Zb ((strKind prog w).pyHash (FN (val i) t) ?_));have hl:=Ed val i;refine LJ (s:={ s' with toks:=s'.toks+1}) b6 ⋯ λb h' zp m5=>?_;have m5:gJ w h' S (fmT val (i+1)):=m5;refine Zd ⟨y1e y1u _,ih (i+1) _ ⋯ af (W.frame (i+1) s' h' (s'.toks+1) c7 (Nat.le_succ _) λb hb o e=>?_) m5 λcg xk xm=>hR cg ?_ xm⟩
  ·rw[zp.2 b λh=>qf (h▸hb)];exact e
  ·refine Moved.trans W.gtrans (Moved.then_heap (hm.mono fo) (Nat.le_succ _) λb o hb e=>?_) xk;rw[zp.2 b λh=>hb (h▸Zn)];exact e
def Pd{vs:C_ s_}{ns:C_ Str}(h:StrsAre vs ns)(i:Nat)(v:s_)(hv:vs[i]?=a_ v):∃t,v=y0Y (ns.getD i "") t:=by let⟨y,t,e,hy⟩:=StrsAre.item h i v hv;exact⟨t,by rw[e];simp[y0M,hy]⟩
def K5{items:Array s_}{ns:C_ Str}{Q:f_ 0}(hh:A.handled=b_)(hl:s.heap.IsList l items)(hi:StrsAre items.toList ns)(hb:items.size+1<scanBound)(h:∀h' tk,gJ w h' (e_ s) (fmT (λi=>ns.getD i "") items.size)->(∀b o,s.heap.get? b=a_ o->h'.get? b=a_ o)->Q (.ref (e_ s)) {s with heap:=h',toks:=tk}):
  m_ prog w A (call (.type "set") [.ref l]) Q E s:=by
 let⟨c,tl,ud⟩:=y21.mro;have nq:=y21.made;have fo:=y21.sub;refine wpAny_call (codeAny_of_tree (show wpAny _ _ _ _ _ _ from Zd ⟨Code.quiet_builtin _ (by simp),y0E F.entry_type_call ?_⟩))
 rw[show A.under (Code.builtin "type.__call__" ⟨y1v "set" :: [ZC l],[]⟩)=A.in1 from Around.under_plain (weight_type_call_type "set" [ZC l] []) rfl]
 unfold Builtin.«type.__call__»;dsimp only;have h1:=y21.notType;have h2:=y21.canCreate;refine y0P (show decide _=false from rfl) ?_
 refine y0P (show decide _=false from rfl) ?_
 refine Zb (y1E (F.typeCall_set_1 (ZC l)) ?_);refine Zb (y1E ud ?_);refine y0P (show decide _=false from rfl) ?_
 refine Zb (y1E nq ?_);refine Zb (Zd ?_);refine Zb (Z3 (wpAny_call (y2Z (code_set_new (E:=E) (Q₁:=λobj s₁=>obj=.ref (e_ s)/\s₁={s with heap:=s.heap.push {cls:=.type "set",data:=.set #[] 0 (y0H 0 0 !fM w)} }) (ZC l) ⟨rfl,rfl⟩) λr s₁ hr=>?_)));cases r with
 |error e=>exact hr
 |ok fl=>
 cases fl with
 |next=>exact hr.elim
 |brk=>exact hr.elim
 |cont=>exact hr.elim
 |ret obj=>
  let⟨rfl,rfl⟩:=hr;have hT:({s with heap:=s.heap.push {cls:=.type "set",data:=.set #[] 0 (y0H 0 0 !fM w)} }:t_).TypeIs (.ref (e_ s)) "set" := ⟨_,Zj _ rfl,rfl⟩;refine(show wpAny _ _ _ _ _ _ from Zb (y0T hT fo ?_))
  rw[if_neg nofun];refine Zb (Z3 (ZR (name:=y0i "__init__") hT y21.init ?_));refine wpAny_call (codeAny_call_builtin y21.init.plain F.entry_set_init (check_set_init_1 hT ?_));have ho:(s.heap.push {cls:=.type "set",data:=.set #[] 0 (y0H 0 0 !fM w)}).get? (e_ s)=a_ {cls:=.type "set",data:=.set #[] 0 (y0H 0 0 !fM w)}:=Zj _ rfl;have cy:(s.heap.push {cls:=.type "set",data:=.set #[] 0 (y0H 0 0 !fM w)}).IsList l items:=by let⟨o,e,r⟩:=hl;exact⟨o,Ze _ e,r⟩
  have si:({s with heap:=s.heap.push {cls:=.type "set",data:=.set #[] 0 (y0H 0 0 !fM w)} }:t_).TypeIs (.ref l) "list" := by let⟨o,e,r,_⟩:=cy;exact⟨o,e,r⟩
  have YT:gJ w (s.heap.push {cls:=.type "set",data:=.set #[] 0 (y0H 0 0 !fM w)}) (e_ s) []:=⟨_,_,_,_,ho,⟨rfl,rfl,rfl⟩,rfl,⟨rfl,λe=>by simp[y0H,e],λ_=>y1y⟩,rfl,λe he=>(by cases he),y0f _⟩;unfold Builtin.«set.__init__»;refine Zb (show wpAny _ _ (pure ()) _ _ _ from Zd ?_)
  refine(show wpAny _ _ (typeNameOfCut 200 (ZC (e_ s)) >>= _) _ _ _ from Zb ?_)
  unfold typeNameOfCut shownTypeOf;refine Zb (Zb (y1K hT ?_));rw[if_neg nofun];refine Zd (y1E (a:="set") (by rfl) ?_);refine Zb (y1E (a:=()) (by rfl) ?_);refine Zb (Zd ?_);unfold setUsed;refine Zb (Zb (y15 ho rfl rfl (Zd ?_)));refine y0P (show decide _=false from by cases fM w <;> rfl) ?_
  refine(show wpAny _ _ (Builtin.Frozenset.updateFrom "set.__init__" (e_ s) (.ref l) >>= _) _ _ _ from Zb ?_)
  unfold Builtin.Frozenset.updateFrom Builtin.Frozenset.isAnySet;refine Zb ?_;refine Zb (y0T si F.sub_list_set ?_);refine y0T si F.sub_list_frozenset ?_;rw[if_neg nofun];refine Zb (y1K si ?_);rw[if_neg nofun];refine Zb (y16 cy ?_);refine Zb (wpAny_runValue ?_);have ne1:(e_ s)≠(s.heap.push {cls:=.type "set",data:=.set #[] 0 (y0H 0 0 !fM w)}).objs.size:=Zt (Zl ho);have ye:l<(e_ s):=by let⟨o,e,_⟩:=hl;exact Zl e
  have ne2:(e_ s)≠l:=y0a ye;have Yt:∀b o,s.heap.get? b=a_ o->(s.heap.push {cls:=.type "set",data:=.set #[] 0 (y0H 0 0 !fM w)}).get? b=a_ o:=λb o e=>Ze _ e;have hsz:(e_ s)<(s.heap.push {cls:=.type "set",data:=.set #[] 0 (y0H 0 0 !fM w)}).objs.size:=Zl ho;clear hT si ho;generalize s.heap.push {cls:=.type "set",data:=.set #[] 0 (y0H 0 0 !fM w)}=h0 at*;refine K4 (A:=A.in1.in1) (Walks.toS (Walks.list (A:=A.in1.in1.in1) hh h0.objs.size l (Zt (Nat.lt_trans ye hsz)) items)) (e_ s) ?_ (λi=>ns.getD i "") (λi v hv=>Pd hi i v (l_ hv)) hb items.size 0 _ (y2E _) (ZO _) ⟨⟨_,Zj _ rfl,rfl,rfl⟩,?_⟩ (YT.kept λo e=>Ze _ e) λs' hm hS=>?_
  ·intro z;rcases Zs.mp z with z|z
   ·exact ne1 z
   ·exact ne2 (ZN.mp z)
  ·let⟨o,e,r⟩:=cy;exact⟨o,Ze _ e,r⟩
  ·refine Zd (Zd (Zd ?_));have e:=Moved.eq_with hm;rw[e];refine h s'.heap s'.toks hS λb o e=>hm.heap b o (λz=>?_) (Ze _ (Yt b o e));rcases Zs.mp z with z|z
   ·exact Zt (Zl e) z
   ·exact Zt (Nat.lt_trans (Zl e) hsz) (ZN.mp z)
end
end L2
namespace L2
open PySem.SeqAt PySem.W
def fN(b:Bool)(n i:Nat):Nat:=if b then n-1-i else i
def FO(b:Bool)(n:Nat)(p:C_ Nat):C_ Nat:=katRev b (p.map (fN b n))
def rO{α:Type}(b:Bool){l:C_ α}{d:α}{i:Nat}(hi:i<l.length):(katRev b l).getD i d=l.getD (fN b l.length i) d:=by
 cases b with
 |false=>rfl
 |true=>
  show l.reverse.getD i d=l.getD (l.length-1-i) d
  rw[y0M,y0M,List.getElem?_reverse hi]
def lW{b:Bool}{n i:Nat}(h:i<n):fN b n i<n:=by unfold fN;split <;> omega
def Hx{b:Bool}{n:Nat}{p:C_ Nat}(h:p.Perm (ZD n)):(FO b n p).Perm (ZD n):=by
 cases b with
 |false=>
  have e:FO false n p=p:=by
   show p.map (λi=>fN false n i)=p
   have:(λi=>fN false n i)=id:=by funext i;rfl
   rw[this,List.map_id]
  rw[e];exact h
 |true=>
  have e:(ZD n).map (fN true n)=(ZD n).reverse:=by
   apply List.ext_getElem
   ·simp
   ·intro i h1 h2;simp[fN]
  show((p.map (fN true n)).reverse).Perm _
  refine(List.reverse_perm _).trans ((h.map _).trans ?_);rw[e];exact List.reverse_perm _
def Hy{b:Bool}{n:Nat}{p:C_ Nat}{lt:Nat->Nat->Bool}(h:p.Pairwise (λi j=>lt (fN b n j) (fN b n i)=false)):(FO b n p).Pairwise (λi j=>(if b then lt i j else lt j i)=false):=by
 have h1:(p.map (fN b n)).Pairwise (λi j=>lt j i=false):=y2K.mpr h;cases b with
 |false=>exact h1
 |true=>
  show((p.map (fN true n)).reverse).Pairwise _
  rw[List.pairwise_reverse];exact h1
def K6{b:Bool}{vs:C_ s_}{p:C_ Nat}(h:∀i∈p,i<vs.length):katRev b (p.map λi=>(katRev b vs).getD i ZE)=(FO b vs.length p).map λi=>vs.getD i ZE:=by
 have e:(p.map λi=>(katRev b vs).getD i ZE)=(p.map (fN b vs.length)).map λi=>vs.getD i ZE:=by rw[Z7];exact y0W λi hi=>rO b (h i hi)
 rw[e];unfold FO katRev;split
 ·rw[List.map_reverse]
 ·rfl
def Hz{α:Type}(b:Bool)(l:C_ α):katRev b (katRev b l)=l:=by unfold katRev;split <;> simp
def range_getD(vs:C_ s_):((ZD vs.length).map λi=>vs.getD i ZE)=vs:=by
 apply y01;intro i;by_cases hi:i<vs.length
 ·simp[hi]
 ·simp[hi]
section
variable{prog:z_}{w:y_}{A:w_}{E:f_ 0}{s:t_}{a kS:u_}{b:Bool}{vs ks:C_ s_}
def QQ{st:SortSt}{e e1:Nat}{out:C_ s_}{P:PySem.Fin->t_->Prop}(gg:(arrOf st).map (·.2)=out.toArray)(hz:out.length<64)(hkz:ks.length<64)(hf:failedOf st=b_)(jy:kS≠a)
  (gk:s.heap.get? kS=a_ (seqObj "list" ks.toArray e)) (ga:s.heap.get? a=a_ (seqObj "list" #[] e1))
  (h:∀(h':x_)(c:Nat),(∀x o,x≠a->x≠kS->s.heap.get? x=a_ o->h'.get? x=a_ o)->h'.get? a=a_ (seqObj "list" (katRev b out).toArray c)->(∃o,h'.get? kS=a_ o)->P (.done (.ret .none)) {s with heap:=h'}):
  m_ prog w A (ksk_tail a b e1 (.ref kS) st) P E s:=by
 have w1:=ZK s.heap kS (ZT λ_=>(#[]:Array s_));obtain⟨ck,hck⟩:∃ck,(s.heap.update kS (ZT λ_=>(#[]:Array s_))).get? kS=a_ (seqObj "list" #[] ck):=⟨_,y2x gk λ_=>#[]⟩;have vn:=(w1.2 a jy.symm).trans ga;have w2:=ZK (s.heap.update kS (ZT λ_=>(#[]:Array s_))) a (ZT λ_=>(katRev b out).toArray);obtain⟨c2,dq⟩:∃c2,((s.heap.update kS (ZT λ_=>(#[]:Array s_))).update a (ZT λ_=>(katRev b out).toArray)).get? a=a_ (seqObj "list" (katRev b out).toArray c2):=⟨_,y2x vn λ_=>(katRev b out).toArray⟩;have hsz:(katRev b out).toArray.size=out.length:=by rw[Zp,kat_len]
 unfold ksk_tail
 try dsimp only
 rw[gg,kat_outs];refine Zb (y1M gk rfl ?_ (by rw[Zp,y0b];omega) (ZO _));refine Zb (wpAny_letGo (Zb (seqEpoch_at vn rfl ?_)));refine Zb (y1M vn rfl ?_ (ZO _) (y0e (Nat.le_of_eq hsz) (by rw[y0b];omega)));rw[hf];simp only[bne_self_eq_false,ZU,if_false];exact Zd (h _ c2 (λx o h1 h2 q=>(w2.2 x h1).trans ((w1.2 x h2).trans q)) dq ⟨_,(w2.2 kS jy).trans hck⟩)
def Wt{e e1:Nat}{κ:SortKind}{P:PySem.Fin->t_->Prop}(lt:Nat->Nat->Bool)(hl:ks.length=vs.length)(h64:vs.length<64)(jy:kS≠a)
  (tr:∀i j k,i<vs.length->j<vs.length->k<vs.length->lt j i=false->lt k j=false->lt k i=false) (as:∀i j,i<vs.length->j<vs.length->lt i j=true->lt j i=false)
  (gk:s.heap.get? kS=a_ (seqObj "list" ks.toArray e)) (ga:s.heap.get? a=a_ (seqObj "list" #[] e1))
  (hk:2<=vs.length->∀(Q:j_ SortKind) E',Q κ s->m_ prog w A (keyKind' ks.toArray) Q E' s)
  (af:∀i j,i<vs.length->j<vs.length->∀Q:j_ Bool,Q (lt i j) s->m_ prog w A (keyLt' κ (ks.getD i ZE) (ks.getD j ZE)) Q (λ_ _=>False) s)
  (h:∀(p:C_ Nat)(h':x_)(c:Nat),p.Perm (ZD vs.length)->p.Pairwise (λi j=>(if b then lt i j else lt j i)=false)->(∀x o,x≠a->x≠kS->s.heap.get? x=a_ o->h'.get? x=a_ o)->
   h'.get? a=a_ (seqObj "list" (p.map λi=>vs.getD i ZE).toArray c)->(∃o,h'.get? kS=a_ o)->P (.done (.ret .none)) {s with heap:=h'}):
  m_ prog w A (ksk_end a b vs.toArray e1 (.ref kS) ks.toArray) P E s:=by
 have skip:∀t:Sem PySem.Fin,m_ prog w A t P E s->m_ prog w A (if b=true then(do let _ <-rule "list.sort.reverse";t) else t) P E s:=λt ht=>by
  split
  ·exact Zb (y07 ht)
  ·exact ht
 have uz:(katRev b ks).length=(katRev b vs).length:=by rw[kat_len,kat_len,hl]
 unfold ksk_end
 try dsimp only
 refine skip _ ?_
 rw[kat_pairs b hl]
 by_cases h2:vs.toArray.size<2
 ·rw[if_pos h2,if_pos h2]
  rw[Zp]at h2
  refine Zb (Zd ?_)
  rw[StateT.run_pure]
  refine Zb (Zd ?_)
  try dsimp only
  refine QQ (st:=SortSt.mk' general' ((katRev b ks).toArray.zip (katRev b vs).toArray) #[] 7 b_) (out:=katRev b vs) (ks:=ks) ?_ (by rw[kat_len];exact h64) ⋯ rfl jy gk ga λh' c k1 k2 k3=>?_
  ·show((katRev b ks).toArray.zip (katRev b vs).toArray).map (·.2)=(katRev b vs).toArray
   apply Array.toList_inj.mp
   rw[Array.toList_map,ksk_zip]
   show(List.zip _ _).map Prod.snd=_
   rw[List.map_snd_zip (by rw[uz];exact Zi _)]
  ·rw[Hz]at k2
   refine h (ZD vs.length) h' c (y0f _) ?_ k1 (by rw[range_getD];exact k2) k3
   rw[y0o]
   intro i j hi hj bp
   simp only[y2J]at hi hj
   omega
 ·rw[if_neg h2,if_neg h2]
  rw[Zp]at h2
  refine Zb (hk ⋯ _ _ ?_)
  have uu:(kas_sort (katRev b vs).length).kasWp (kas_ask prog w A κ (katRev b ks)) (λp cg=>p=evT (λi j=>lt (fN b vs.length i) (fN b vs.length j)) (kas_sort vs.length)/\cg=s) s:=by
   rw[kat_len]
   refine B8 (n:=vs.length) (lt:=λi j=>lt (fN b vs.length i) (fN b vs.length j)) (λi j C hi hj hC=>?_) (B7 ⋯) ⟨rfl,rfl⟩
   show m_ prog w A (keyLt' κ ((katRev b ks).getD i ZE) ((katRev b ks).getD j ZE)) C (λ_ _=>False) s
   rw[rO b ⋯,rO b ⋯,hl]
   exact af _ _ (lW hi) (lW hj) C hC
  refine Zb (y0I (kat_run (ks:=katRev b ks) (vs:=katRev b vs) (E:=E) (Q:=λb8 s'=>s'=s/\arrOf b8=(evT (λi j=>lt (fN b vs.length i) (fN b vs.length j)) (kas_sort vs.length)).map (kas_item ((katRev b ks).toArray.zip (katRev b vs).toArray))/\failedOf b8=b_)
   uz (by rw[kat_len];omega) (by rw[kat_len];exact h64) (λp b8 s' _ a2 a3 a4=>⟨a4.2,by rw[a2,a4.1],a3⟩) uu) ?_ λ_ _ x=>x)
  rintro⟨⟨⟩,b8⟩ s' ⟨rfl,har,hf⟩
  try dsimp only
  let⟨c1,c2⟩:=FF (n:=vs.length) (lt:=λi j=>lt (fN b vs.length i) (fN b vs.length j)) (λi j k hi hj hk=>tr _ _ _ (lW hi) (lW hj) (lW hk)) (λi j hi hj=>as _ _ (lW hi) (lW hj)) ⋯
  have cj:∀i∈(evT (λi j=>lt (fN b vs.length i) (fN b vs.length j)) (kas_sort vs.length)).toList,i<vs.length:=λi hi=>by simpa using c1.mem_iff.mp hi
  refine QQ (ks:=ks) (kat_snds uz har) (by rw[Zg,c1.length_eq,y2J];exact h64) ⋯ hf jy gk ga λh' c k1 k2 k3=>?_
  rw[K6 cj]at k2
  exact h _ h' c (Hx c1) (Hy c2) k1 k2 k3
def HA{P:PySem.Fin->t_->Prop}(ho:s.heap.get? a=a_ (seqObj "list" vs.toArray n))(h64:vs.length<64)(J:u_->Nat->C_ s_->Nat->t_->Prop)(h0:∀(kS e1:Nat)(h':x_),(∀x o,x≠a->s.heap.get? x=a_ o->h'.get? x=a_ o)->(e_ s)<=kS->h'.get? a=a_ (seqObj "list" #[] e1)->h'.get? kS=a_ (seqObj "list" #[] 0)->J kS e1 [] 0 {s with heap:=h'})(j0:∀kS e1 ks e s',J kS e1 ks e s'->kS≠a/\s'.heap.get? a=a_ (seqObj "list" #[] e1)/\s'.heap.get? kS=a_ (seqObj "list" ks.toArray e))(turn:∀kS e1 ks e s' x,vs[ks.length]?=a_ x->J kS e1 ks e s'->m_ prog w A (call f [x]) (λv cg=>cg.heap.get? kS=a_ (seqObj "list" ks.toArray e)/\∀(h':x_) e',y0z kS cg.heap h'->h'.get? kS=a_ (seqObj "list" (ks++[v]).toArray e')->J kS e1 (ks++[v]) e' { cg with heap:=h'}) (λ_ _=>False) s')(fin:∀kS e1 ks e s',ks.length=vs.length->J kS e1 ks e s'->∃lt:Nat->Nat->Bool,(∀i j k,i<vs.length->j<vs.length->k<vs.length->lt j i=false->lt k j=false->lt k i=false)/\(∀i j,i<vs.length->j<vs.length->lt i j=true->lt j i=false)/\
   (2<=vs.length->∀(Q:j_ SortKind) E',Q κ s'->m_ prog w A (keyKind' ks.toArray) Q E' s')/\
   (∀i j,i<vs.length->j<vs.length->∀Q:j_ Bool,Q (lt i j) s'->m_ prog w A (keyLt' κ (ks.getD i ZE) (ks.getD j ZE)) Q (λ_ _=>False) s')/\
   ∀(p:C_ Nat)(h':x_)(c:Nat),p.Perm (ZD vs.length)->p.Pairwise (λi j=>(if b then lt i j else lt j i)=false)->(∀x o,x≠a->x≠kS->s'.heap.get? x=a_ o->h'.get? x=a_ o)->
   h'.get? a=a_ (seqObj "list" (p.map λi=>vs.getD i ZE).toArray c)->(∃o,h'.get? kS=a_ o)->P (.done (.ret .none)) { s' with heap:=h'}):
  m_ prog w A (ksk_tree a f b) P E s:=by
 have ha:a<(e_ s):=Zl ho;have w1:=ZK s.heap a (ZT λ_=>(#[]:Array s_));obtain⟨e1,d4⟩:∃e1,(s.heap.update a (ZT λ_=>(#[]:Array s_))).get? a=a_ (seqObj "list" #[] e1):=⟨_,y2x ho λ_=>#[]⟩;unfold ksk_tree;refine Zb (listItems_at ho rfl (Zb (y1M ho rfl ?_ (by rw[Zp,y0b];omega) (ZO _))));refine Zb (seqEpoch_at d4 rfl (Zb (wpAny_newTuple ?_ (by show vs.length<=_;rw[y0b];omega))));refine Zb (wpAny_newList (Z3 ?_) (ZO _));have Za:((s.heap.update a (ZT λ_=>(#[]:Array s_))).push (seqObj "tuple" vs.toArray 0)).objs.size=(e_ s)+1:=by rw[size_push',y2U]
 have J0:=h0 ((s.heap.update a (ZT λ_=>(#[]:Array s_))).push (seqObj "tuple" vs.toArray 0)).objs.size e1 (((s.heap.update a (ZT λ_=>(#[]:Array s_))).push (seqObj "tuple" vs.toArray 0)).push (seqObj "list" #[] 0))
  (λx o hx q=>Ze _ (Ze _ ((w1.2 x hx).trans q))) (by rw[Za];exact Nat.le_succ _) (Ze _ (Ze _ d4)) (Zj _ rfl)
 show m_ prog w A (ksk_rest a f b vs.toArray e1 (.ref ((s.heap.update a (ZT λ_=>(#[]:Array s_))).push (seqObj "tuple" vs.toArray 0)).objs.size)) P E {s with heap:=((s.heap.update a (ZT λ_=>(#[]:Array s_))).push (seqObj "tuple" vs.toArray 0)).push (seqObj "list" #[] 0)}
 generalize ((s.heap.update a (ZT λ_=>(#[]:Array s_))).push (seqObj "tuple" vs.toArray 0)).objs.size=kS at J0
 revert J0
 generalize ({s with heap:=((s.heap.update a (ZT λ_=>(#[]:Array s_))).push (seqObj "tuple" vs.toArray 0)).push (seqObj "list" #[] 0)}:t_)=s0;intro J0;unfold ksk_rest;refine Zb (y07 ?_)
 first
  |rw[List.forIn_toArray]
  |(rw[<-Array.forIn_toList];simp only[List.toList_toArray])
 refine Zb (ksk_fold (λi s'=>∃ks e,ks.length=i/\J kS e1 ks e s') vs 0 s0 ⟨[],0,rfl,J0⟩ ?step ?done)
 case step=>
  rintro j x s' hx ⟨ks,e,hl,hJ⟩;have hj:j<vs.length:=(Zc.mp hx).1;have cy:ks.length=j:=⋯;refine Zb (y1f (y0I (turn kS e1 ks e s' x (by rw[cy];exact hx) hJ) (λv cg q=>?_) λ_ _ z=>z.elim));let⟨gk,Yo⟩:=q
  try dsimp only
  have w2:=ZK cg.heap kS (ZT (·.push v));obtain⟨c2,dq⟩:∃c2,(cg.heap.update kS (ZT (·.push v))).get? kS=a_ (seqObj "list" (ks.toArray.push v) c2):=⟨_,y2x gk (·.push v)⟩;refine Zb (y1M gk rfl ?_ (by rw[Zp,y0b];omega) (y0e (Nat.le_of_eq (Array.size_push ..)) (by rw[Zp,y0b];omega)));refine Zd ⟨rfl,ks++[v],c2,by simp;omega,Yo _ c2 w2 ?_⟩;rw[dq];simp
 case done=>
  rintro s' ⟨ks,e,hl,hJ⟩;have cy:ks.length=vs.length:=⋯;let⟨jy,ga,gk⟩:=j0 kS e1 ks e s' hJ;let⟨lt,tr,as,hk,af,h⟩:=fin kS e1 ks e s' cy hJ
  try dsimp only
  refine Zb (listItems_at gk rfl ?_);exact Wt (κ:=κ) lt cy h64 jy tr as gk ga hk af h
end
end L2
namespace L2
open PySem.SeqAt
inductive PV where
 |non|bl (b:Bool)|int (i:Int)|str (x:Str)|tup (xs:C_ PV)|ref (n:Nat)|ty (n:String)|fl (xs:C_ PV)
mutual
def PV.beq:PV->PV->Bool
 |.non,.non=>true
 |.bl a,.bl b=>a == b
 |.int a,.int b=>a == b
 |.str a,.str b=>a == b
 |.tup a,.tup b=>PV.beqs a b
 |.ref a,.ref b=>a == b
 |.ty a,.ty b=>a == b
 |.fl a,.fl b=>PV.beqs a b
 |_,_=>false
def PV.beqs:C_ PV->C_ PV->Bool
 |[],[]=>true
 |x::xs,y::ys=>PV.beq x y&&PV.beqs xs ys
 |_,_=>false
end
mutual
theorem PV.beq_self:∀x:PV,PV.beq x x=true
 |.non=>rfl
 |.bl a=>by simp[PV.beq]
 |.int a=>by simp[PV.beq]
 |.str a=>by simp[PV.beq]
 |.tup a=>by simp only[PV.beq];exact PV.beqs_self a
 |.ref a=>by simp[PV.beq]
 |.ty a=>by simp[PV.beq]
 |.fl a=>by simp only[PV.beq];exact PV.beqs_self a
theorem PV.beqs_self:∀x:C_ PV,PV.beqs x x=true
 |[]=>rfl
 |x::xs=>by simp only[PV.beqs,PV.beq_self x,PV.beqs_self xs,Bool.and_self]
end
mutual
theorem PV.beq_eq:∀{x y:PV},PV.beq x y=true->x=y
 |.non,y,h=>by cases y <;> first|rfl|(simp[PV.beq]at h)
 |.bl a,y,h=>by cases y <;> first|(simp[PV.beq]at h;rw[h])|(simp[PV.beq]at h)
 |.int a,y,h=>by cases y <;> first|(simp[PV.beq]at h;rw[h])|(simp[PV.beq]at h)
 |.str a,y,h=>by cases y <;> first|(simp[PV.beq]at h;rw[h])|(simp[PV.beq]at h)
 |.tup a,y,h=>by
  cases y with
  |tup b=>simp only[PV.beq]at h;rw[PV.beqs_eq h]
  |_=>simp[PV.beq]at h
 |.ref a,y,h=>by cases y <;> first|(simp[PV.beq]at h;rw[h])|(simp[PV.beq]at h)
 |.ty a,y,h=>by cases y <;> first|(simp[PV.beq]at h;rw[h])|(simp[PV.beq]at h)
 |.fl a,y,h=>by
  cases y with
  |fl b=>simp only[PV.beq]at h;rw[PV.beqs_eq h]
  |_=>simp[PV.beq]at h
theorem PV.beqs_eq:∀{x y:C_ PV},PV.beqs x y=true->x=y
 |[],y,h=>by cases y <;> first|rfl|(simp[PV.beqs]at h)
 |x::xs,y,h=>by
  cases y with
  |nil=>simp[PV.beqs]at h
  |cons y ys=>simp only[PV.beqs,Z2]at h;rw[PV.beq_eq h.1,PV.beqs_eq h.2]
end
instance:DecidableEq PV:=λx y=>match h:PV.beq x y with
 |true=>isTrue (PV.beq_eq h)
 |false=>isFalse λe=>by rw[e,PV.beq_self]at h;cases h
def PV.ky:Nat->PV->Bool
 |_,.int _=>true
 |_,.str _=>true
 |n+1,.tup xs=>xs.all (PV.ky n)
 |_,_=>false
section
variable(w:y_)
mutual
def hsh:PV->Int
 |.int i=>Ra w (.inl i)
 |.str x=>Ra w (.inr x)
 |.tup xs=>reduceHash (y0y (Ao xs))
 |_=>0
def Ao:C_ PV->C_ Int
 |[]=>[]
 |x::xs=>hsh x::Ao xs
end
end
mutual
def drw:PV->Nat
 |.tup xs=>FP xs+1
 |_=>1
def FP:C_ PV->Nat
 |[]=>0
 |x::xs=>drw x+FP xs
end
mutual
def HR(h:x_):PV->s_->Prop
 |.int i,v=>∃t,v=.int i t
 |.str x,v=>∃t,v=.str x t
 |.tup ps,v=>∃a its,v=.ref a/\IsTup h a its.toArray/\HRs h ps its
 |_,_=>False
def HRs(h:x_):C_ PV->C_ s_->Prop
 |[],[]=>True
 |p::ps,v::vs=>HR h p v/\HRs h ps vs
 |[],_::_=>False
 |_::_,[]=>False
end
theorem HRs.length:∀{ps:C_ PV}{vs:C_ s_},HRs h ps vs->ps.length=vs.length
 |[],[],_=>rfl
 |_::_,_::_,r=>congrArg (·+1) (HRs.length r.2)
 |[],_::_,r=>r.elim
 |_::_,[],r=>r.elim
theorem HRs.at{h:x_}:∀{ps:C_ PV}{vs:C_ s_}{j:Nat}{p:PV},HRs h ps vs->ps[j]?=a_ p->∃v,vs[j]?=a_ v/\HR h p v
 |[],[],_,_,_,e=>by simp at e
 |q::_,v::_,0,p,r,e=>by
  have:q=p:=by simpa using e
  subst this;exact⟨v,rfl,r.1⟩
 |_::ps,_::vs,j+1,p,r,e=>by
  let⟨v,h1,h2⟩:=HRs.at (ps:=ps) (vs:=vs) (j:=j) (p:=p) r.2 (l_ e);exact⟨v,l_ h1,h2⟩
 |[],_::_,_,_,r,_=>r.elim
 |_::_,[],_,_,r,_=>r.elim
def K7(p:IsTup h a x)(q:IsTup h a y):x=y:=by let⟨o,ho,_,n,hd⟩:=p;let⟨o',bw,_,n',bx⟩:=q;obtain rfl:o=o':=ZI (ho.symm.trans bw);rw[hd]at bx;injection bx
mutual
theorem HR.one{h:x_}:∀{p q:PV}{v:s_},HR h p v->HR h q v->p=q
 |.int i,q,v,r,r'=>by
  let⟨t,rfl⟩:=r;cases q with
  |int j=>let⟨t',e⟩:=r';injection e with e;rw[e]
  |str j=>let⟨t',e⟩:=r';cases e
  |tup j=>let⟨_,_,e,_⟩:=r';cases e
  |_=>exact r'.elim
 |.str i,q,v,r,r'=>by
  let⟨t,rfl⟩:=r;cases q with
  |int j=>let⟨t',e⟩:=r';cases e
  |str j=>let⟨t',e⟩:=r';injection e with e;rw[e]
  |tup j=>let⟨_,_,e,_⟩:=r';cases e
  |_=>exact r'.elim
 |.tup ps,q,v,r,r'=>by
  let⟨a,its,rfl,p,rs⟩:=r;cases q with
  |int j=>let⟨t',e⟩:=r';cases e
  |str j=>let⟨t',e⟩:=r';cases e
  |tup qs=>
   let⟨b,its',e,p',cu⟩:=r';cases e
   have:its=its':=by simpa using congrArg Array.toList (K7 p p')
   subst this;rw[HRs.one rs cu]
  |_=>exact r'.elim
 |.non,_,_,r,_=>r.elim
 |.bl _,_,_,r,_=>r.elim
 |.ref _,_,_,r,_=>r.elim
 |.ty _,_,_,r,_=>r.elim
 |.fl _,_,_,r,_=>r.elim
theorem HRs.one{h:x_}:∀{ps qs:C_ PV}{vs:C_ s_},HRs h ps vs->HRs h qs vs->ps=qs
 |[],[],[],_,_=>rfl
 |p::ps,q::qs,v::vs,r,r'=>by rw[HR.one r.1 r'.1,HRs.one r.2 r'.2]
 |[],_::_,[],_,r=>r.elim
 |[],_,_::_,r,_=>r.elim
 |_::_,_,[],r,_=>r.elim
 |_::_,[],_::_,_,r=>r.elim
end
def HB{h:x_}{o:Obj}{es ep}(p:IsTup h a x)(ho:h.get? d=a_ o)(hd:o.data=.dict es ep)(hs:y0z d h h'):IsTup h' a x:=by
 let⟨q,hq,hc,n,fv⟩:=p;have ne:a≠d:=by rintro rfl;obtain rfl:q=o:=ZI (hq.symm.trans ho);rw[hd]at fv;cases fv
 exact⟨q,(hs.2 a ne).trans hq,hc,n,fv⟩
mutual
theorem HR.keep{h h':x_}(k:∀a x,IsTup h a x->IsTup h' a x):∀{p:PV}{v:s_},HR h p v->HR h' p v
 |.int i,v,r=>r
 |.str i,v,r=>r
 |.tup ps,v,⟨a,its,e,p,rs⟩=>⟨a,its,e,k _ _ p,HRs.keep k rs⟩
 |.non,_,r=>r.elim
 |.bl _,_,r=>r.elim
 |.ref _,_,r=>r.elim
 |.ty _,_,r=>r.elim
 |.fl _,_,r=>r.elim
theorem HRs.keep{h h':x_}(k:∀a x,IsTup h a x->IsTup h' a x):∀{ps:C_ PV}{vs:C_ s_},HRs h ps vs->HRs h' ps vs
 |[],[],_=>trivial
 |_::_,_::_,r=>⟨HR.keep k r.1,HRs.keep k r.2⟩
 |[],_::_,r=>r.elim
 |_::_,[],r=>r.elim
end
section
variable{prog:z_}{w:y_}
def LK:∀(n:Nat){A:w_}{E:f_ 0}{s:t_}{p:PV}{v:s_}{Q:j_ Int},p.ky n=true->A.units+n<cLine->HR s.heap p v->Q (hsh w p) { s with toks:=s.toks+drw p}->
  m_ prog w A (pyHash v) Q E s:=by
 intro n
 induction n with
 |zero=>
  intro A E s p v Q hk hu r h;cases p with
  |int i=>let⟨t,rfl⟩:=r;exact wpAny_pyHash_int h
  |str i=>let⟨t,rfl⟩:=r;exact wpAny_pyHash_str h
  |_=>cases hk
 |succ n ih=>
  intro A E s p v Q hk hu r h;cases p with
  |int i=>let⟨t,rfl⟩:=r;exact wpAny_pyHash_int h
  |str i=>let⟨t,rfl⟩:=r;exact wpAny_pyHash_str h
  |tup ps=>
   let⟨a,its,rfl,⟨o,ho,hc,m,hd⟩,rs⟩:=r;have c8:∀q∈ps,q.ky n=true:=Zy.mp hk;have hT:s.TypeIs (.ref a) "tuple" := ⟨o,ho,hc⟩;unfold pyHash;unfold pyHashByItsType;refine Zb (wpAny_cRoomFor_or (.inr (show A.units<cLine by omega)) (Zb (y2t hT F.slot_tuple_hash.lookup ?_)))
   show wpAny _ _ (if((a_ (Value.builtin "tuple.__hash__"):D_ s_) == a_ ZE)=true then _ else _) Q E s
   rw[if_neg (show ¬ _ from by rw[beq_builtin_none];decide)]
   refine Zb (y2t hT F.slot_tuple_hash.lookup (show wpAny _ _ (callSpecialIfBoundUnlessNone? (.ref a) "__hash__" _ >>= _) Q E s from ?_))
   refine Zb (wpAny_callSpecialIfBoundUnlessNone?_slot hT F.slot_tuple_hash (Z1 F.slot_tuple_hash hT F.entry_tuple_hash (show wpAny _ _ (y2L (.ref a) >>= _) _ _ s from ?_) (F.args_tuple_hash_1 _)))
   refine Zb (wpAny_tupleItemsOf ho hd (Zb ?_));rw[<-Array.forIn_toList];refine wpAny_forIn_list _ (λrest (b:Array Int) s'=>∃left,HRs s.heap left rest/\(∀q∈left,q.ky n=true)/\b.toList++Ao w left=Ao w ps/\s'.heap=s.heap/\s'={ s with toks:=s'.toks}/\s'.toks+FP left=s.toks+FP ps) _ ?turn ?stop _ _ ⟨ps,rs,c8,rfl,rfl,rfl,rfl⟩
   case turn=>
    rintro x rest b s' ⟨left,rl,kl,eb,eh,es,et⟩;cases left with
    |nil=>exact rl.elim
    |cons q left=>
     have r1:HR s'.heap q x:=by rw[eh];exact rl.1
     refine Zb (ih (kl q Zn) (show A.units+1+n<cLine by omega) r1 (Zd ?_));refine⟨left,rl.2,λz hz=>kl z (Zh _ hz),?_,eh,?_,?_⟩
     ·rw[<-eb];simp[Ao]
     ·rw[es]
     ·rw[<-et]
      show s'.toks+drw q+FP left=s'.toks+(drw q+FP left)
      omega
   case stop=>
    rintro b s' ⟨left,rl,kl,eb,eh,es,et⟩;cases left with
    |cons q left=>exact rl.elim
    |nil=>
     have XH:b.toList=Ao w ps:=by rw[<-eb];simp[Ao]
     have YA:s'.toks=s.toks+FP ps:=et
     show wpAny _ _ (retInt (y0y b.toList)) _ _ _
     rw[XH,es];refine wpAny_ret_mkInt ?_
     show wpAny _ _ (if(decide (-(2:Int) ^ 63<=y0y (Ao w ps))&&decide (y0y (Ao w ps)<2 ^ 63))=true then _ else _) Q E _
     have h':Q (reduceHash (y0y (Ao w ps))) { s with toks:=s.toks+(FP ps+1)}:=h;unfold reduceHash at h';rw[YA];by_cases hr:(decide (-(2:Int) ^ 63<=y0y (Ao w ps))&&decide (y0y (Ao w ps)<2 ^ 63))=true
     ·rw[if_pos hr]at h'⊢;exact Zd (by simpa[Nat.add_assoc] using h')
     ·rw[if_neg hr]at h'⊢;exact Zb (y07 (Zd (by simpa[Nat.add_assoc] using h')))
  |_=>cases hk
def Sf:∀(n:Nat){A:w_}{s:t_}{p q:PV}{v u:s_},p.ky n=true->q.ky n=true->A.units+n<cLine->HR s.heap p v->HR s.heap q u->RcAt A s v u (decide (p=q)):=by
 intro n
 induction n with
 |zero=>
  intro A s p q v u hp hq hu r r';cases p with
  |int i=>
   let⟨t,rfl⟩:=r;cases q with
   |int j=>let⟨t',rfl⟩:=r';have:=RcAt.int_int (A:=A) (s:=s) i t j t';rwa[show decide (PV.int i=PV.int j)=(i == j) by simp[y2F]]
   |str j=>let⟨t',rfl⟩:=r';exact RcAt.int_str i t j t'
   |_=>cases hq
  |str i=>
   let⟨t,rfl⟩:=r;cases q with
   |int j=>let⟨t',rfl⟩:=r';exact RcAt.str_int i t j t'
   |str j=>let⟨t',rfl⟩:=r';have:=RcAt.str_str (A:=A) (s:=s) i t j t';rwa[show decide (PV.str i=PV.str j)=(i == j) by simp[y2F]]
   |_=>cases hq
  |_=>cases hp
 |succ n ih=>
  intro A s p q v u hp hq hu r r';cases p with
  |int i=>
   let⟨t,rfl⟩:=r;cases q with
   |int j=>let⟨t',rfl⟩:=r';have:=RcAt.int_int (A:=A) (s:=s) i t j t';rwa[show decide (PV.int i=PV.int j)=(i == j) by simp[y2F]]
   |str j=>let⟨t',rfl⟩:=r';exact RcAt.int_str i t j t'
   |tup js=>let⟨b,its,rfl,p',_⟩:=r';exact RcAt.int_tuple i t p' ⋯
   |_=>cases hq
  |str i=>
   let⟨t,rfl⟩:=r;cases q with
   |int j=>let⟨t',rfl⟩:=r';exact RcAt.str_int i t j t'
   |str j=>let⟨t',rfl⟩:=r';have:=RcAt.str_str (A:=A) (s:=s) i t j t';rwa[show decide (PV.str i=PV.str j)=(i == j) by simp[y2F]]
   |tup js=>let⟨b,its,rfl,p',_⟩:=r';exact RcAt.str_tuple i t p' ⋯
   |_=>cases hq
  |tup ps=>
   let⟨a,its,rfl,ta,rs⟩:=r;cases q with
   |int j=>let⟨t',rfl⟩:=r';exact RcAt.tuple_int j t' ta ⋯
   |str j=>let⟨t',rfl⟩:=r';exact RcAt.tuple_str j t' ta ⋯
   |tup qs=>
    let⟨b,its',rfl,tb,cu⟩:=r';have kp:∀z∈ps,z.ky n=true:=Zy.mp hp;have kq:∀z∈qs,z.ky n=true:=Zy.mp hq;have l1:=rs.length;have l2:=cu.length;have key:=RcAt.tuples (A:=A) (e:=λj=>match ps[j]?,qs[j]? with|some x,a_ y=>decide (x=y)|_,_=>false) ta tb ⋯ (λj h1 h2=>by
     have dm:j<ps.length:=by simp at h1;omega
     have b7:j<qs.length:=by simp at h2;omega
     have g1:ps[j]?=a_ ps[j]:=by simp[dm]
     have g2:qs[j]?=a_ qs[j]:=by simp[b7]
     let⟨xu,jt,c9⟩:=rs.at g1;let⟨yu,j7,b9⟩:=cu.at g2;have e1:its.toArray[j]=xu:=by simpa using(Zc.mp jt).2
     have e2:its'.toArray[j]=yu:=by simpa using(Zc.mp j7).2
     rw[e1,e2];simp only[g1,g2];refine jD (ih (kp _ (y1I dm)) (kq _ (y1I b7)) (show A.units+1+n<cLine by omega) c9 b9) (λev=>?_) (λf t e=>?_)
     ·subst ev;rw[HR.one c9 b9];exact decide_eq_true rfl
     ·subst e;generalize ps[j]=z at c9;cases z with
      |int i=>let⟨_,e⟩:=c9;cases e
      |str i=>let⟨_,e⟩:=c9;cases e
      |tup i=>let⟨_,_,e,_⟩:=c9;cases e
      |_=>exact c9.elim)
    have sz:((ZD (min its.toArray.size its'.toArray.size)).all (λj=>match ps[j]?,qs[j]? with|some x,a_ y=>decide (x=y)|_,_=>false)&&its.toArray.size == its'.toArray.size)=decide (PV.tup ps=PV.tup qs):=by
     have a1:its.toArray.size=ps.length:=by simp;omega
     have a2:its'.toArray.size=qs.length:=by simp;omega
     rw[a1,a2,Z8];simp only[Z2,Zy,y2i,beq_iff_eq,decide_eq_true_eq,PV.tup.injEq];constructor
     ·rintro⟨hall,hlen⟩;apply List.ext_getElem hlen;intro i hi ax;have:=hall i ⋯;simpa[hi,ax] using this
     ·rintro rfl;refine⟨λx hx=>?_,rfl⟩;have:x<ps.length:=⋯;simp[this]
    rw[<-sz];exact key
   |_=>cases hq
  |_=>cases hp
theorem HR.noflt(r:HR h p v):∀f t,v≠.float f t:=λf t e=>by
 subst e;cases p with
 |int i=>let⟨_,e⟩:=r;cases e
 |str i=>let⟨_,e⟩:=r;cases e
 |tup i=>let⟨_,_,e,_⟩:=r;cases e
 |_=>exact r.elim
def HC{A:w_}{s:t_}{p q:PV}(hp:p.ky n=true)(hq:q.ky n=true)(hu:A.units+n<cLine)(r:HR s.heap p v)(r':HR s.heap q u):EqAt A s v u (decide (p=q)):=jD (Sf n hp hq hu r r') (λev=>by subst ev;rw[HR.one r r'];exact decide_eq_true rfl) r.noflt
def K8:∀(n m:Nat){A:w_}{E:f_ 0}{s:t_}{p:PV}{v:s_}{Q:j_ Bool},p.ky n=true->n<=m->HR s.heap p v->Q true s->m_ prog w A (eqIsQuiet m v) Q E s:=by
 intro n
 induction n with
 |zero=>
  intro m A E s p v Q hk hm r h;cases p with
  |int i=>let⟨t,rfl⟩:=r;rw[eqIsQuiet_byValue _ rfl];exact Zd h
  |str i=>let⟨t,rfl⟩:=r;rw[eqIsQuiet_byValue _ rfl];exact Zd h
  |_=>cases hk
 |succ n ih=>
  intro m A E s p v Q hk hm r h;cases p with
  |int i=>let⟨t,rfl⟩:=r;rw[eqIsQuiet_byValue _ rfl];exact Zd h
  |str i=>let⟨t,rfl⟩:=r;rw[eqIsQuiet_byValue _ rfl];exact Zd h
  |tup ps=>
   let⟨a,its,rfl,⟨o,ho,hc,m',hd⟩,rs⟩:=r;have c8:∀q∈ps,q.ky n=true:=Zy.mp hk;have hT:s.TypeIs (.ref a) "tuple" := ⟨o,ho,hc⟩;obtain⟨m,rfl⟩:∃j,m=j+1:=⟨m-1,⋯⟩;unfold eqIsQuiet;refine Zb (y2t hT F.slot_tuple_eq.lookup (show wpAny _ _ (isInstance (.ref a) (.type "tuple") >>= _) _ _ s from ?_))
   refine Zb (y0T hT isSubtype_tuple_tuple ?_);simp only[Bool.not_true,ZU,if_false];refine Zb (y1X ho hd (Zb (show wpAny _ _ (forIn its.toArray _ _) _ _ s from ?_)));rw[<-Array.forIn_toList]
   refine wpAny_forIn_list _ (λrest r s'=>r.1=b_/\s'=s/\∃left,HRs s.heap left rest/\∀q∈left,q.ky n=true) _ ?_ ?_ _ _ ⟨rfl,rfl,ps,rs,c8⟩
   ·rintro v rest r s' ⟨hr,rfl,left,rl,kl⟩;cases left with
    |nil=>exact rl.elim
    |cons q left=>refine Zb (ih m (kl q Zn) ⋯ rl.1 ?_);simp only[Bool.not_true,ZU,if_false];exact Zd ⟨rfl,rfl,left,rl.2,λz hz=>kl z (Zh _ hz)⟩
   ·rintro⟨r1,r2⟩ s' ⟨hr,rfl,_⟩;simp only at hr;subst hr;exact Zd h
  |_=>cases hk
def wA(prog:z_)(w:y_):HeapKind prog w PV where
 is:=λh p a=>p.ky 6=true/\HR h p (.ref a)
 hash:=hsh w
 draws:=drw
 room:=λA=>A.units+6<cLine
 inj:=λx y=>HR.one x.2 y.2
 keeps:=λx ho hd hs=>⟨x.1,HR.keep (λa it p=>HB p ho hd hs) x.2⟩
 pyHash:=λhu x h=>LK 6 x.1 hu x.2 h
 eqBool:=λhu x y h=>HC x.1 y.1 hu x.2 y.2 _ _ _ _ h
 quiet:=λx h=>K8 6 8 x.1 ⋯ x.2 h
end
def dDO(w:y_)(a:u_)(ks:C_ (PV×u_×V)):HO:=.ext λh=>ks.length<=Zq/\(a == y0p)=false/\∃xs:C_ (PV×u_×s_),
 Paired (λ(p:PV×u_×V)(q:PV×u_×s_)=>p.1=q.1/\p.2.1=q.2.1/\RelV p.2.2 q.2.2) ks xs/\
 ∃o es ep,h.get? a=a_ o/\o.ExactDict/\o.data=.dict es ep/\es.toList=xs.map (λx=>(⟨hsh w x.1,.ref x.2.1,x.2.2⟩:y1q))/\(xs.map (·.1)).Nodup
def LL(kd:Nat)(v d:u_):HO:=.ext λh=>match kd with
 |0=>h.IsItemsView v d
 |1=>h.IsValuesView v d
 |_=>∃o,h.get? v=a_ o/\o.cls=.type "dict_keys" /\ o.data=.fields #[.ref d]
end L2
namespace L2
inductive MO where
 |lst (xs:C_ PV)
 |dK (kvs:C_ (Key×PV))
 |ins (C:Str) (fs:C_ (Str×PV))
 |dD (kvs:C_ (PV×PV))
 |vw (kd d:Nat)
 |fz (o:MO)
abbrev PH:=C_ MO
abbrev Ev:=C_ (D_ PV)
structure PX where
 cls:Str
 fs:C_ (Str×PV)
inductive Rs(α:Type) where
 |ok (a:α) (h:PH)
 |exc (x:PX) (h:PH)
 |bad
inductive Fl where
 |nx (δ:Ev) (h:PH)
 |rt (p:PV) (h:PH)
 |bk (δ:Ev) (h:PH)
 |ct (δ:Ev) (h:PH)
 |exc (x:PX) (h:PH)
 |bad
abbrev Me:=Ev->PH->Rs PV
abbrev Ms:=Ev->PH->Fl
abbrev Fn:=C_ PV->PH->Rs PV
def Rs.bind{α β:Type}(r:Rs α)(f:α->PH->Rs β):Rs β:=match r with
 |.ok a h=>f a h
 |.exc x h=>.exc x h
 |.bad=>.bad
@[simp]theorem Rs.bind_ok{α β:Type}(a:α)(h:PH)(f:α->PH->Rs β):(Rs.ok a h).bind f=f a h:=rfl
@[simp]theorem Rs.bind_exc{α β:Type}(x:PX)(h:PH)(f:α->PH->Rs β):(Rs.exc x h:Rs α).bind f=.exc x h:=rfl
@[simp]theorem Rs.bind_bad{α β:Type}(f:α->PH->Rs β):(Rs.bad:Rs α).bind f=.bad:=rfl
structure MC where
 K:Zf
 cl:Str->D_ u_
 bs:C_ Str
 ex:C_ u_->Hp->PX->Prop
 w:y_
def SqF(K:Zf)(H:Hp)(a:u_)(xs:C_ V):Prop:=
 (∃o,H a=a_ (.frz o (.lst xs)))\/
  ∃(o:Obj)(its:Array s_)(n:Nat),K.lookup a=a_ o/\o.cls=.type "list" /\ o.dict=b_/\o.data=.seq its n/\its.size<=Zq/\bN xs its.toList
theorem SqF.sq{K:Zf}{H:Hp}{a:u_}{xs:C_ V}(h:SqF K H a xs):SqL K H a xs:=by
 rcases h with⟨o,h⟩|h
 ·exact .inl (.inr ⟨o,h⟩)
 ·exact .inr h
def Kp(H H':Hp):Prop:=oW H H'/\∀a o u,H a=a_ (.frz o u)->H' a=a_ (.frz o u)
theorem Kp.refl(H:Hp):Kp H H:=⟨oW.refl H,λ_ _ _ h=>h⟩
theorem Kp.trans{H H1 H2:Hp}(a:Kp H H1)(b:Kp H1 H2):Kp H H2:=⟨a.1.trans b.1,λc o u h=>b.2 c o u (a.2 c o u h)⟩
theorem Kp.same(s:AX H H'):Kp H H':=⟨oW.same s,λ_ _ _ h=>s _ _ h⟩
theorem Kp.new(h:H a=b_):Kp H (upd H a o):=Kp.same (AX.upd h)
def Kp.upd(h:FA (H p)):Kp H (upd H p o):=⟨oW.upd h,λa ob u q=>by
 have ne:a≠p:=by rintro rfl;rw[q]at h;exact h
 rw[bE ne];exact q⟩
theorem Kp.lst{H:Hp}{p:u_}{o:HO}{xs:C_ V}(h:H p=a_ (.lst xs)):Kp H (L2.upd H p o):=Kp.upd (by rw[h];trivial)
theorem Kp.dK{H:Hp}{p:u_}{o:HO}{xs:C_ (Key×V)}(h:H p=a_ (.dK xs)):Kp H (L2.upd H p o):=Kp.upd (by rw[h];trivial)
theorem Kp.sq{K:Zf}{H H':Hp}{a:u_}{xs:C_ V}(t:Kp H H')(h:SqT K H a xs):SqT K H' a xs:=t.1.sq h
theorem Kp.sf{K:Zf}{H H':Hp}{a:u_}{xs:C_ V}(t:Kp H H')(h:SqF K H a xs):SqF K H' a xs:=by
 rcases h with⟨o,h⟩|h
 ·exact .inl ⟨o,t.2 _ _ _ h⟩
 ·exact .inr h
section
variable(C:MC)(φ:C_ u_)(H:Hp)
mutual
def RV:PV->V->Prop
 |.non,v=>v=.non
 |.bl b,v=>v=.bl b
 |.int i,v=>v=.int i
 |.str x,v=>v=.str x
 |.ty n,v=>v=.ty n
 |.tup ps,v=>∃a vs,v=.ref a/\SqT C.K H a vs/\RVs ps vs
 |.ref n,v=>∃a,v=.ref a/\φ[n]?=a_ a
 |.fl ps,v=>∃a vs,v=.ref a/\SqF C.K H a vs/\RVs ps vs
def RVs:C_ PV->C_ V->Prop
 |[],[]=>True
 |p::ps,v::vs=>RV p v/\RVs ps vs
 |[],_::_=>False
 |_::_,[]=>False
end
def RKv{κ:Type}:C_ (κ×PV)->C_ (κ×V)->Prop:=Paired λp q=>p.1=q.1/\RV C φ H p.2 q.2
def RKd:C_ (PV×PV)->C_ (PV×u_×V)->Prop:=Paired λp q=>p.1=q.1/\p.1.ky 6=true/\RV C φ H p.1 (.ref q.2.1)/\RV C φ H p.2 q.2.2
def RO(a:u_):MO->Prop
 |.lst ps=>∃vs,H a=a_ (.lst vs)/\RVs C φ H ps vs
 |.dK kvs=>∃ks,H a=a_ (.dK ks)/\RKv C φ H kvs ks
 |.ins n fs=>∃c dx ks,C.cl n=a_ c/\H a=a_ (.ins c dx ks)/\RKv C φ H fs ks
 |.dD kvs=>∃ks,H a=a_ (dDO C.w a ks)/\RKd C φ H kvs ks
 |.vw kd d=>∃b,φ[d]?=a_ b/\H a=a_ (LL kd a b)
 |.fz (.dK kvs)=>∃ob ks,H a=a_ (.frz ob (.dK ks))/\RKv C φ H kvs ks
 |.fz (.dD kvs)=>∃ob ks,H a=a_ (.frz ob (dDO C.w a ks))/\RKd C φ H kvs ks
 |.fz _=>False
structure RH(h:PH):Prop where
 len:φ.length=h.length
 nd:φ.Nodup
 at':∀(n:Nat)(a:u_)(o:MO),φ[n]?=some a->h[n]?=some o->RO C φ H a o
def RE(δ:Ev)(σ:St):Prop:=δ.length=σ.length/\∀(i:Nat)(p:PV),δ[i]?=a_ (a_ p)->∃v,σ[i]?=a_ (a_ v)/\RV C φ H p v
end
section
variable{C:MC}{φ φ':C_ u_}{H H':Hp}
def lH{α:Type}{l l':C_ α}(p:l<+:l'){n:Nat}{a:α}(h:l[n]?=a_ a):l'[n]?=a_ a:=by let⟨t,rfl⟩:=p;have:=(Zc.mp h).1;rw[y0n this];exact h
def Kq(H H':Hp):Prop:=oW H H'/\∀a o xs,H a=a_ (.frz o (.lst xs))->H' a=a_ (.frz o (.lst xs))
theorem Kp.q(t:Kp H H'):Kq H H':=⟨t.1,λa o xs h=>t.2 a o _ h⟩
theorem Kq.sq{K:Zf}{a:u_}{xs:C_ V}(t:Kq H H')(h:SqT K H a xs):SqT K H' a xs:=t.1.sq h
theorem Kq.sf{K:Zf}{a:u_}{xs:C_ V}(t:Kq H H')(h:SqF K H a xs):SqF K H' a xs:=by
 rcases h with⟨o,h⟩|h
 ·exact .inl ⟨o,t.2 _ _ _ h⟩
 ·exact .inr h
mutual
theorem RV.monoQ(p:φ<+:φ')(t:Kq H H'):∀{x:PV}{v:V},RV C φ H x v->RV C φ' H' x v
 |.non,_,h=>h
 |.bl _,_,h=>h
 |.int _,_,h=>h
 |.str _,_,h=>h
 |.ty _,_,h=>h
 |.tup _,_,⟨a,vs,e,q,r⟩=>⟨a,vs,e,t.sq q,RVs.monoQ p t r⟩
 |.ref _,_,⟨a,e,q⟩=>⟨a,e,lH p q⟩
 |.fl _,_,⟨a,vs,e,q,r⟩=>⟨a,vs,e,t.sf q,RVs.monoQ p t r⟩
theorem RVs.monoQ(p:φ<+:φ')(t:Kq H H'):∀{xs:C_ PV}{vs:C_ V},RVs C φ H xs vs->RVs C φ' H' xs vs
 |[],[],_=>trivial
 |_::_,_::_,⟨h,r⟩=>⟨RV.monoQ p t h,RVs.monoQ p t r⟩
 |[],_::_,h=>h.elim
 |_::_,[],h=>h.elim
end
theorem RV.mono(p:φ<+:φ')(t:Kp H H')(h:RV C φ H x v):RV C φ' H' x v:=RV.monoQ p t.q h
theorem RVs.mono(p:φ<+:φ')(t:Kp H H')(h:RVs C φ H xs vs):RVs C φ' H' xs vs:=RVs.monoQ p t.q h
theorem RVs.length:∀{xs:C_ PV}{vs:C_ V},RVs C φ H xs vs->xs.length=vs.length
 |[],[],_=>rfl
 |_::_,_::_,⟨_,r⟩=>by simp[RVs.length r]
 |[],_::_,h=>h.elim
 |_::_,[],h=>h.elim
theorem RVs.get:∀{xs:C_ PV}{vs:C_ V}{i:Nat}{v:V},RVs C φ H xs vs->vs[i]?=a_ v->∃x,xs[i]?=a_ x/\RV C φ H x v
 |[],[],_,_,_,e=>by simp at e
 |x::_,w::_,0,v,⟨h,_⟩,e=>by
  have:w=v:=by simpa using e
  subst this;exact⟨x,rfl,h⟩
 |_::xs,_::vs,i+1,v,⟨_,r⟩,e=>by
  let⟨x,h1,h2⟩:=RVs.get (xs:=xs) (vs:=vs) (i:=i) (v:=v) r (l_ e);exact⟨x,l_ h1,h2⟩
 |[],_::_,_,_,h,_=>h.elim
 |_::_,[],_,_,h,_=>h.elim
theorem RVs.at:∀{xs:C_ PV}{vs:C_ V}{i:Nat}{x:PV},RVs C φ H xs vs->xs[i]?=a_ x->∃v,vs[i]?=a_ v/\RV C φ H x v
 |[],[],_,_,_,e=>by simp at e
 |x::_,w::_,0,x',⟨h,_⟩,e=>by
  have:x=x':=by simpa using e
  subst this;exact⟨w,rfl,h⟩
 |_::xs,_::vs,i+1,x,⟨_,r⟩,e=>by
  let⟨v,h1,h2⟩:=RVs.at (xs:=xs) (vs:=vs) (i:=i) (x:=x) r (l_ e);exact⟨v,l_ h1,h2⟩
 |[],_::_,_,_,h,_=>h.elim
 |_::_,[],_,_,h,_=>h.elim
theorem RVs.append:∀{xs ys:C_ PV}{vs us:C_ V},RVs C φ H xs vs->RVs C φ H ys us->RVs C φ H (xs++ys) (vs++us)
 |[],_,[],_,_,h=>h
 |_::_,_,_::_,_,⟨h,r⟩,h'=>⟨h,RVs.append r h'⟩
 |[],_,_::_,_,h,_=>h.elim
 |_::_,_,[],_,h,_=>h.elim
theorem RVs.snoc(r:RVs C φ H xs vs)(h:RV C φ H x v):RVs C φ H (xs++[x]) (vs++[v]):=r.append ⟨h,trivial⟩
theorem RVs.drop:∀{xs:C_ PV}{vs:C_ V}(n:Nat),RVs C φ H xs vs->RVs C φ H (xs.drop n) (vs.drop n)
 |_,_,0,h=>h
 |[],[],_+1,_=>trivial
 |_::_,_::_,n+1,⟨_,r⟩=>RVs.drop n r
 |[],_::_,_+1,h=>h.elim
 |_::_,[],_+1,h=>h.elim
theorem RVs.take:∀{xs:C_ PV}{vs:C_ V}(n:Nat),RVs C φ H xs vs->RVs C φ H (xs.take n) (vs.take n)
 |[],[],0,_=>trivial
 |_::_,_::_,0,_=>trivial
 |[],[],_+1,_=>trivial
 |_::_,_::_,n+1,⟨h,r⟩=>⟨h,RVs.take n r⟩
 |[],_::_,_,h=>h.elim
 |_::_,[],_,h=>h.elim
theorem RVs.set(h:RV C φ H x v):∀{xs:C_ PV}{vs:C_ V}(n:Nat),RVs C φ H xs vs->RVs C φ H (xs.set n x) (vs.set n v)
 |[],[],_,_=>trivial
 |_::_,_::_,0,⟨_,r⟩=>⟨h,r⟩
 |_::_,_::_,n+1,⟨q,r⟩=>⟨q,RVs.set h n r⟩
 |[],_::_,_,h=>h.elim
 |_::_,[],_,h=>h.elim
theorem RKv.monoQ{κ:Type}(p:φ<+:φ')(t:Kq H H'){x:C_ (κ×PV)}{v:C_ (κ×V)}(h:RKv C φ H x v):RKv C φ' H' x v:=Paired.mapP h λ_ _ q=>⟨q.1,q.2.monoQ p t⟩
theorem RKd.monoQ(p:φ<+:φ')(t:Kq H H'){x:C_ (PV×PV)}{v:C_ (PV×u_×V)}(h:RKd C φ H x v):RKd C φ' H' x v:=Paired.mapP h λ_ _ q=>⟨q.1,q.2.1,q.2.2.1.monoQ p t,q.2.2.2.monoQ p t⟩
theorem RKv.mono{κ:Type}(p:φ<+:φ')(t:Kp H H'){x:C_ (κ×PV)}{v:C_ (κ×V)}(h:RKv C φ H x v):RKv C φ' H' x v:=Paired.mapP h λ_ _ q=>⟨q.1,q.2.mono p t⟩
theorem RKd.mono(p:φ<+:φ')(t:Kp H H')(h:RKd C φ H x v):RKd C φ' H' x v:=Paired.mapP h λ_ _ q=>⟨q.1,q.2.1,q.2.2.1.mono p t,q.2.2.2.mono p t⟩
theorem RE.mono(p:φ<+:φ')(t:Kp H H')(h:RE C φ H δ σ):RE C φ' H' δ σ:=⟨h.1,λi x e=>let ⟨v,q,r⟩:=h.2 i x e;⟨v,q,r.mono p t⟩⟩
theorem RE.set{δ:Ev}{σ:St}(h:RE C φ H δ σ)(r:RV C φ H x v)(i:Nat):RE C φ H (δ.set i (a_ x)) (σ.set i (a_ v)):=by
 refine⟨by rw[y05,y05];exact h.1,λj p e=>?_⟩;by_cases hj:i=j
 ·subst hj;by_cases hl:i<δ.length
  ·rw[y09 hl]at e;cases e
   exact⟨v,by rw[y09 (by rw[<-h.1];exact hl)],r⟩
  ·rw[y1Q (by rw[y05];omega)]at e;cases e
 ·rw[Zk hj]at e;rw[Zk hj];exact h.2 j p e
theorem RO.stayQ{a:u_}{o:MO}(p:φ<+:φ')(t:Kq H H')(e:H' a=H a)(h:RO C φ H a o):RO C φ' H' a o:=by
 cases o with
 |lst ps=>let⟨vs,q,r⟩:=h;exact⟨vs,e.trans q,r.monoQ p t⟩
 |dK ps=>let⟨vs,q,r⟩:=h;exact⟨vs,e.trans q,r.monoQ p t⟩
 |ins n fs=>let⟨c,dx,ks,hc,q,r⟩:=h;exact⟨c,dx,ks,hc,e.trans q,r.monoQ p t⟩
 |dD kvs=>let⟨ks,q,r⟩:=h;exact⟨ks,e.trans q,r.monoQ p t⟩
 |vw kd d=>let⟨b,hb,q⟩:=h;exact⟨b,lH p hb,e.trans q⟩
 |fz o=>
  cases o with
  |dK kvs=>let⟨ob,ks,q,r⟩:=h;exact⟨ob,ks,e.trans q,r.monoQ p t⟩
  |dD kvs=>let⟨ob,ks,q,r⟩:=h;exact⟨ob,ks,e.trans q,r.monoQ p t⟩
  |_=>exact h.elim
theorem RO.stay(p:φ<+:φ')(t:Kp H H')(e:H' a=H a)(h:RO C φ H a o):RO C φ' H' a o:=h.stayQ p t.q e
def RO.some{a:u_}{o:MO}(h:RO C φ H a o):∃u,H a=a_ u:=by
 cases o with
 |lst ps=>let⟨vs,q,r⟩:=h;exact⟨_,q⟩
 |dK ps=>let⟨vs,q,r⟩:=h;exact⟨_,q⟩
 |ins n fs=>let⟨c,dx,ks,hc,q,r⟩:=h;exact⟨_,q⟩
 |dD kvs=>let⟨ks,q,r⟩:=h;exact⟨_,q⟩
 |vw kd d=>let⟨b,hb,q⟩:=h;exact⟨_,q⟩
 |fz o=>
  cases o with
  |dK kvs=>let⟨ob,ks,q,r⟩:=h;exact⟨_,q⟩
  |dD kvs=>let⟨ob,ks,q,r⟩:=h;exact⟨_,q⟩
  |_=>exact h.elim
theorem RH.get{h:PH}(r:RH C φ H h){n:Nat}{o:MO}(e:h[n]?=a_ o):∃a,φ[n]?=a_ a/\RO C φ H a o:=by
 have hn:=(Zc.mp e).1;have:n<φ.length:=by rw[r.len];exact hn
 exact⟨φ[n],by simp[this],r.at' n _ o (by simp[this]) e⟩
theorem RH.tracked{h:PH}(r:RH C φ H h){n:Nat}{a:u_}(e:φ[n]?=a_ a):∃u,H a=a_ u:=by
 have hn:=(Zc.mp e).1;have:n<h.length:=by rw[<-r.len];exact hn
 exact(r.at' n a h[n] e (by simp[this])).some
theorem RH.aside(r:RH C φ H h)(e:H a=b_):RH C φ (upd H a o) h:=⟨r.len,r.nd,λn b ob h1 h2=>by have q:=r.at' n b ob h1 h2;let⟨u,hu⟩:=q.some;exact q.stay (Zm) (Kp.new e) (bE (fP hu e))⟩
theorem RH.new{h:PH}(r:RH C φ H h){a:u_}{u:HO}{o:MO}(e:H a=b_)(q:RO C (φ++[a]) (upd H a u) a o):RH C (φ++[a]) (upd H a u) (h++[o]):=by
 refine⟨by simp[r.len],?_,λn b ob h1 h2=>?_⟩
 ·rw[y1b];refine⟨r.nd,by simp,λx hx y hy z=>?_⟩;rw[ZN]at hy;subst hy z;let⟨n,hn⟩:=y2w.mp hx;let⟨u',hu⟩:=r.tracked hn;rw[e]at hu;cases hu
 ·by_cases hn:n<φ.length
  ·rw[y0n hn]at h1;rw[y0n (by rw[<-r.len];exact hn)]at h2;have q':=r.at' n b ob h1 h2;let⟨u',hu⟩:=q'.some;exact q'.stay (y0k _ _) (Kp.new e) (bE (fP hu e))
  ·have ko:n=φ.length:=by have:=(Zc.mp h1).1;simp at this;omega
   subst ko;rw[y1F (Zi _),Nat.sub_self]at h1;rw[r.len,y1F (Zi _),Nat.sub_self]at h2;cases h1
   cases h2
   exact q
theorem RH.write{h:PH}(r:RH C φ H h)(e:φ[n]?=a_ a)(t:FA (H a))(q:RO C φ (upd H a u) a o):RH C φ (upd H a u) (h.set n o):=by
 refine⟨by rw[y05];exact r.len,r.nd,λm b ob h1 h2=>?_⟩;by_cases hm:n=m
 ·subst hm;rw[e]at h1;cases h1;have hl:n<h.length:=by rw[<-r.len];exact(Zc.mp e).1
  rw[y09 hl]at h2;cases h2
  exact q
 ·rw[Zk hm]at h2;have hb:b≠a:=λz=>by subst z;exact hm ((List.getElem?_inj (Zc.mp e).1 r.nd).mp (e.trans h1.symm))
  exact(r.at' m b ob h1 h2).stay Zm (Kp.upd t) (bE hb)
end
section
variable(C:MC)(φ:C_ u_)(H:Hp)
def post(r:Rs PV)(Q:VK):Prop:=match r with
 |.ok p h=>∀φ' v H',φ<+:φ'->Kp H H'->RH C φ' H' h->RV C φ' H' p v->Q v H'
 |.exc x h=>∀φ' H',φ<+:φ'->Kp H H'->RH C φ' H' h->C.ex φ' H' x
 |.bad=>False
def eF(r:Rs Bool)(Q:Bool->Hp->Prop):Prop:=match r with
 |.ok b h=>∀φ' H',φ<+:φ'->Kp H H'->RH C φ' H' h->Q b H'
 |.exc x h=>∀φ' H',φ<+:φ'->Kp H H'->RH C φ' H' h->C.ex φ' H' x
 |.bad=>False
def postA(r:Rs (C_ PV))(Q:C_ V->Hp->Prop):Prop:=match r with
 |.ok ps h=>∀φ' vs H',φ<+:φ'->Kp H H'->RH C φ' H' h->RVs C φ' H' ps vs->Q vs H'
 |.exc x h=>∀φ' H',φ<+:φ'->Kp H H'->RH C φ' H' h->C.ex φ' H' x
 |.bad=>False
def eV(r:Fl)(D:Ends):Prop:=match r with
 |.nx δ h=>∀φ' σ H',φ<+:φ'->Kp H H'->RH C φ' H' h->RE C φ' H' δ σ->D.nx σ H'
 |.rt p h=>∀φ' v H',φ<+:φ'->Kp H H'->RH C φ' H' h->RV C φ' H' p v->D.rt v H'
 |.bk δ h=>∀φ' σ H',φ<+:φ'->Kp H H'->RH C φ' H' h->RE C φ' H' δ σ->D.bk σ H'
 |.ct δ h=>∀φ' σ H',φ<+:φ'->Kp H H'->RH C φ' H' h->RE C φ' H' δ σ->D.ct σ H'
 |.exc x h=>∀φ' H',φ<+:φ'->Kp H H'->RH C φ' H' h->C.ex φ' H' x
 |.bad=>False
end
section
variable{C:MC}{φ φ1:C_ u_}{H H1:Hp}
theorem post.weak(p:φ<+:φ1)(t:Kp H H1)(h:post C φ H r Q):post C φ1 H1 r Q:=by
 cases r with
 |ok a h'=>exact λφ' v H' p' t'=>h φ' v H' (p.trans p') (t.trans t')
 |exc a h'=>exact λφ' H' p' t'=>h φ' H' (p.trans p') (t.trans t')
 |bad=>exact h
theorem eF.weak{Q:Bool->Hp->Prop}(p:φ<+:φ1)(t:Kp H H1)(h:eF C φ H r Q):eF C φ1 H1 r Q:=by
 cases r with
 |ok a h'=>exact λφ' H' p' t'=>h φ' H' (p.trans p') (t.trans t')
 |exc a h'=>exact λφ' H' p' t'=>h φ' H' (p.trans p') (t.trans t')
 |bad=>exact h
theorem postA.weak{Q:C_ V->Hp->Prop}(p:φ<+:φ1)(t:Kp H H1)(h:postA C φ H r Q):postA C φ1 H1 r Q:=by
 cases r with
 |ok a h'=>exact λφ' v H' p' t'=>h φ' v H' (p.trans p') (t.trans t')
 |exc a h'=>exact λφ' H' p' t'=>h φ' H' (p.trans p') (t.trans t')
 |bad=>exact h
theorem eV.weak{r:Fl}{D:Ends}(p:φ<+:φ1)(t:Kp H H1)(h:eV C φ H r D):eV C φ1 H1 r D:=by
 cases r with
 |nx a h'=>exact λφ' v H' p' t'=>h φ' v H' (p.trans p') (t.trans t')
 |rt a h'=>exact λφ' v H' p' t'=>h φ' v H' (p.trans p') (t.trans t')
 |bk a h'=>exact λφ' v H' p' t'=>h φ' v H' (p.trans p') (t.trans t')
 |ct a h'=>exact λφ' v H' p' t'=>h φ' v H' (p.trans p') (t.trans t')
 |exc a h'=>exact λφ' H' p' t'=>h φ' H' (p.trans p') (t.trans t')
 |bad=>exact h
theorem post.imp(h:post C φ H r Q)(i:∀v H',Q v H'->Q' v H'):post C φ H r Q':=by
 cases r with
 |ok a h'=>exact λφ' v H' p t rh rv=>i v H' (h φ' v H' p t rh rv)
 |exc a h'=>exact h
 |bad=>exact h
theorem post.bind{r:Rs PV}{f:PV->PH->Rs PV}(h:post C φ H (r.bind f) Q):post C φ H r λv H1=>∃φ1 p h1,φ<+:φ1/\Kp H H1/\RH C φ1 H1 h1/\RV C φ1 H1 p v/\post C φ1 H1 (f p h1) Q:=by
 cases r with
 |ok a h'=>exact λφ' v H' p t rh rv=>⟨φ',a,h',p,t,rh,rv,post.weak p t h⟩
 |exc a h'=>exact h
 |bad=>exact h
theorem post.bindB{r:Rs PV}{f:PV->PH->Rs Bool}{Q:Bool->Hp->Prop}(h:eF C φ H (r.bind f) Q):post C φ H r λv H1=>∃φ1 p h1,φ<+:φ1/\Kp H H1/\RH C φ1 H1 h1/\RV C φ1 H1 p v/\eF C φ1 H1 (f p h1) Q:=by
 cases r with
 |ok a h'=>exact λφ' v H' p t rh rv=>⟨φ',a,h',p,t,rh,rv,eF.weak p t h⟩
 |exc a h'=>exact h
 |bad=>exact h
theorem eF.bind{r:Rs Bool}{f:Bool->PH->Rs PV}(h:post C φ H (r.bind f) Q):eF C φ H r λb H1=>∃φ1 h1,φ<+:φ1/\Kp H H1/\RH C φ1 H1 h1/\post C φ1 H1 (f b h1) Q:=by
 cases r with
 |ok a h'=>exact λφ' H' p t rh=>⟨φ',h',p,t,rh,post.weak p t h⟩
 |exc a h'=>exact h
 |bad=>exact h
theorem eF.bindB{r:Rs Bool}{f:Bool->PH->Rs Bool}{Q:Bool->Hp->Prop}(h:eF C φ H (r.bind f) Q):eF C φ H r λb H1=>∃φ1 h1,φ<+:φ1/\Kp H H1/\RH C φ1 H1 h1/\eF C φ1 H1 (f b h1) Q:=by
 cases r with
 |ok a h'=>exact λφ' H' p t rh=>⟨φ',h',p,t,rh,eF.weak p t h⟩
 |exc a h'=>exact h
 |bad=>exact h
theorem postA.bind{r:Rs (C_ PV)}{f:C_ PV->PH->Rs PV}(h:post C φ H (r.bind f) Q):postA C φ H r λvs H1=>∃φ1 ps h1,φ<+:φ1/\Kp H H1/\RH C φ1 H1 h1/\RVs C φ1 H1 ps vs/\post C φ1 H1 (f ps h1) Q:=by
 cases r with
 |ok a h'=>exact λφ' v H' p t rh rv=>⟨φ',a,h',p,t,rh,rv,post.weak p t h⟩
 |exc a h'=>exact h
 |bad=>exact h
theorem postA.bindA{r:Rs (C_ PV)}{f:C_ PV->PH->Rs (C_ PV)}{Q:C_ V->Hp->Prop}(h:postA C φ H (r.bind f) Q):postA C φ H r λvs H1=>∃φ1 ps h1,φ<+:φ1/\Kp H H1/\RH C φ1 H1 h1/\RVs C φ1 H1 ps vs/\postA C φ1 H1 (f ps h1) Q:=by
 cases r with
 |ok a h'=>exact λφ' v H' p t rh rv=>⟨φ',a,h',p,t,rh,rv,postA.weak p t h⟩
 |exc a h'=>exact h
 |bad=>exact h
theorem post.bindA{r:Rs PV}{f:PV->PH->Rs (C_ PV)}{Q:C_ V->Hp->Prop}(h:postA C φ H (r.bind f) Q):post C φ H r λv H1=>∃φ1 p h1,φ<+:φ1/\Kp H H1/\RH C φ1 H1 h1/\RV C φ1 H1 p v/\postA C φ1 H1 (f p h1) Q:=by
 cases r with
 |ok a h'=>exact λφ' v H' p t rh rv=>⟨φ',a,h',p,t,rh,rv,postA.weak p t h⟩
 |exc a h'=>exact h
 |bad=>exact h
theorem post.val(q:post C φ H (.ok p h) Q)(rh:RH C φ H h)(rv:RV C φ H p v):Q v H:=q φ v H Zm (Kp.refl H) rh rv
end
end L2
namespace L2
structure Cxt(C:MC)(k:Nat)(X:Cx):Prop where
 K:X.K=C.K
 calm:X.calm=true
 room:iW k X.A
 bn:∀x∈C.bs,X.mg x=none
 w:X.w=C.w
theorem Cxt.hu{X:Cx}(c:Cxt C k X):X.A.units+1<cLine:=Ue c.room
theorem Cxt.hu64{X:Cx}(c:Cxt C k X):X.A.units+64<cLine:=c.room.units
theorem Cxt.comp{X:Cx}(c:Cxt C k X)(sc:Scope)(N:C_ Str)(a:u_)(fp:C_ u_)(s:t_)(H:Hp):Cxt C k (X.comp sc N a fp s H):=⟨c.K,c.calm,c.room,c.bn,c.w⟩
section
variable(C:MC)
def rd(m:Me):TE:=λσ H Q=>∃φ δ h,RH C φ H h/\RE C φ H δ σ/\post C φ H (m δ h) Q
def rdB(m:Ev->PH->Rs Bool):TT:=λσ H Q=>∃φ δ h,RH C φ H h/\RE C φ H δ σ/\eF C φ H (m δ h) Q
def rdA(m:Ev->PH->Rs (C_ PV)):TA:=λσ H Q=>∃φ δ h,RH C φ H h/\RE C φ H δ σ/\postA C φ H (m δ h) Q
def rdS(m:Ms):TS:=λD σ H=>∃φ δ h,RH C φ H h/\RE C φ H δ σ/\eV C φ H (m δ h) D
def r2(g:PV->PV->PH->Rs PV):R2:=λx y H Q=>∃φ h p q,RH C φ H h/\RV C φ H p x/\RV C φ H q y/\post C φ H (g p q h) Q
def r1(g:PV->PH->Rs PV):V->Hp->VK->Prop:=λx H Q=>∃φ h p,RH C φ H h/\RV C φ H p x/\post C φ H (g p h) Q
def rL(g:C_ PV->PH->Rs PV):C_ V->Hp->VK->Prop:=λxs H Q=>∃φ h ps,RH C φ H h/\RVs C φ H ps xs/\post C φ H (g ps h) Q
end
variable{C:MC}{k:Nat}{X:Cx}
def SE(C:MC)(k:Nat)(X:Cx)(e:A_)(m:Me):Prop:=Cxt C k X->PE X e (rd C m)
def ST(C:MC)(k:Nat)(X:Cx)(e:A_)(m:Ev->PH->Rs Bool):Prop:=Cxt C k X->PT X e (rdB C m)
def SA(C:MC)(k:Nat)(X:Cx)(es:C_ A_)(m:Ev->PH->Rs (C_ PV)):Prop:=Cxt C k X->PA X es (rdA C m)
def SSt(C:MC)(k:Nat)(X:Cx)(st:B_)(m:Ms):Prop:=Cxt C k X->PS X st (rdS C m)
def SSs(C:MC)(k:Nat)(X:Cx)(st:C_ B_)(m:Ms):Prop:=Cxt C k X->PSs X st (rdS C m)
def OpS(C:MC)(k:Nat)(X:Cx)(f:s_->s_->Sem s_)(g:PV->PV->PH->Rs PV):Prop:=Cxt C k X->OpR X f (r2 C g)
def rP(C:MC)(k:Nat)(X:Cx)(f:s_)(g:C_ PV->PH->Rs PV):Prop:=Cxt C k X->eD X f (rL C g)
def Ee:Ev->Nat->D_ PV
 |[],_=>b_
 |x::_,0=>x
 |_::r,n+1=>Ee r n
@[simp]theorem Tv(x:D_ PV)(r:Ev):Ee (x::r) 0=x:=(rfl)
@[simp]theorem Tw(x:D_ PV)(r:Ev)(n:Nat):Ee (x::r) (n+1)=Ee r n:=(rfl)
theorem Bb:∀{δ:Ev}{i:Nat}{p:PV},Ee δ i=a_ p->δ[i]?=a_ (a_ p)
 |[],_,_,h=>by cases h
 |x::_,0,p,h=>by have h':x=a_ p:=h;simp[h']
 |_::r,n+1,p,h=>by rw[y0K];exact Bb (δ:=r) (i:=n) h
def mV(i:Nat):Me:=λδ h=>match Ee δ i with
 |some p=>.ok p h
 |none=>.bad
def mC(p:PV):Me:=λ_ h=>.ok p h
def aC(i:Nat){x:Str}{pos:Pos}(hN:X.N[i]?=a_ x:=by rfl)(hv:Vis X.env.scope x:=by first|exact Or.inl rfl|exact Or.inr (Or.inl rfl)|exact Or.inr (Or.inr rfl))(hd:(x == ("__debug__" : Str))=false:=by decide)
  (dv:(x == ("__classdict__" : Str))=false:=by decide):SE C k X (.Name x pos) (mV i):=λ_=>by
 refine(KZ hN hv hd dv).imp λσ H Q h=>?_;let⟨φ,δ,h,rh,re,p⟩:=h;unfold mV at p;cases e:Ee δ i with
 |none=>rw[e]at p;exact p.elim
 |some x=>rw[e]at p;let⟨v,hv,rv⟩:=re.2 i x (Bb e);exact⟨v,hv,p.val rh rv⟩
def aJ{i j pos}:SE C k X (.Constant (.int i) j pos) (mC (.int i)):=λ_=>Rg.imp λσ H Q ⟨φ,δ,h,rh,re,p⟩=>p.val rh rfl
def CC{i j pos}:SE C k X (.Constant (.bool i) j pos) (mC (.bl i)):=λ_=>TU.imp λσ H Q ⟨φ,δ,h,rh,re,p⟩=>p.val rh rfl
def cM{i j pos}:SE C k X (.Constant (.str i) j pos) (mC (.str i)):=λ_=>Rh.imp λσ H Q ⟨φ,δ,h,rh,re,p⟩=>p.val rh rfl
def LM{x:Str}{n:String}{pos:Pos}(hv:y1t x=a_ (.type n))(hb:x∈C.bs:=by decide)(hg:Gl X x:=by rfl)(hn:x≠"__name__" := by decide)(hd:(x == ("__debug__" : Str))=false:=by decide):SE C k X (.Name x pos) (mC (.ty n)):=λc=>(OA (v:=.ty n) hg (c.bn x hb) hv rfl hn hd).imp λσ H Q ⟨φ,δ,h,rh,re,p⟩=>p.val rh rfl
def aG(g:PV->PV->PH->Rs PV)(ma mb:Me):Me:=λδ h=>(ma δ h).bind λx h1=>(mb δ h1).bind λy h2=>g x y h2
def IV{g:PV->PV->PH->Rs PV}(h:rd C (aG g ma mb) σ H Q):tOp (r2 C g) (rd C ma) (rd C mb) σ H Q:=by let⟨φ,δ,h,rh,re,p⟩:=h;refine⟨φ,δ,h,rh,re,(post.bind p).imp ?_⟩;rintro v H1 ⟨φ1,x,h1,p1,t1,aa,ab,q1⟩;refine⟨φ1,δ,h1,aa,re.mono p1 t1,(post.bind q1).imp ?_⟩;rintro u H2 ⟨φ2,y,h2,p2,t2,aj,br,q2⟩;exact⟨φ2,h2,x,y,aj,ab.mono p2 t2,br,q2⟩
section
variable{a b e:A_}{ma mb:Me}{g:PV->PV->PH->Rs PV}{pos:Pos}
def bP(ho:OpS C k X (y0Q op) g)(ha:SE C k X a ma)(hb:SE C k X b mb):SE C k X (.BinOp a op b pos) (aG g ma mb):=λc=>(U2 (ho c) (ha c) (hb c)).imp λσ H Q h=>IV h
def LN(ho:OpS C k X (ZZ op) g)(ha:SE C k X a ma)(hb:SE C k X b mb)(hm:behindInMarks op b=false:=by first|exact L6 _|rfl):SE C k X (.Compare a [op] [b] pos) (aG g ma mb):=λc=>(OJ (ho c) (ha c) (hb c) hm).imp λσ H Q h=>IV h
def mUn(g:PV->PH->Rs PV)(ma:Me):Me:=λδ h=>(ma δ h).bind g
end
def bO(h:PH)(n:Nat):D_ (C_ PV):=match h[n]? with
 |some (.lst xs)=>a_ xs
 |_=>b_
def dB{φ:C_ u_}{H:Hp}{h:PH}{n:Nat}{xs:C_ PV}(rh:RH C φ H h)(e:bO h n=a_ xs):∃a vs,φ[n]?=a_ a/\SqL C.K H a vs/\RVs C φ H xs vs:=by
 unfold bO at e;cases q:h[n]? with
 |none=>rw[q]at e;cases e
 |some o=>
  rw[q]at e;let⟨a,ha,ro⟩:=rh.get q;cases o with
  |lst ys=>cases e;let⟨vs,q',r⟩:=ro;exact⟨a,vs,ha,SqL.of q',r⟩
  |_=>cases e
def iD(h:PH)(n:Nat):D_ (C_ PV):=match h[n]? with
 |some (.lst xs)=>a_ xs
 |_=>b_
def oI{h:PH}(e:iD h n=a_ xs):h[n]?=a_ (.lst xs):=by
 unfold iD at e;cases q:h[n]? with
 |none=>rw[q]at e;cases e
 |some o=>
  rw[q]at e;cases o with
  |lst ys=>cases e;rfl
  |_=>cases e
def iY(x:PV)(h:PH):D_ (C_ PV):=match x with
 |.ref n=>bO h n
 |.fl xs=>a_ xs
 |_=>b_
def lX(rh:RH C φ H h)(rv:RV C φ H x v)(e:iY x h=a_ xs):∃a vs,v=.ref a/\SqL C.K H a vs/\RVs C φ H xs vs:=by
 cases x with
 |ref n=>let⟨a,rfl,ha⟩:=rv;let⟨a2,vs,ai,sa,ra⟩:=dB rh e;rw[ha]at ai;cases ai;exact⟨a,vs,rfl,sa,ra⟩
 |fl ys=>
  cases e
  let⟨a,vs,rfl,sa,ra⟩:=rv;exact⟨a,vs,rfl,sa.sq,ra⟩
 |_=>cases e
def QR:C_ PV->Bool
 |[]=>true
 |_::_=>false
def LO:PV->PV->PH->Rs PV:=λx y h=>match x,y with
 |.int i,.int j=>.ok (.int (i+j)) h
 |.str i,.str j=>if i.length+j.length<=Zq then .ok (.str (i++j)) h else .bad
 |.tup xs,.tup ys=>if QR xs=false/\xs.length+ys.length<=Zq then .ok (.tup (xs++ys)) h else .bad
 |.ref a,.ref b=>match iD h a,iD h b with
  |some xs,a_ ys=>if xs.length+ys.length<=Zq then .ok (.ref h.length) (h++[.lst (xs++ys)]) else .bad
  |_,_=>.bad
 |_,_=>.bad
theorem post.ite{c:Prop}[Decidable c](h:post C φ H (if c then r else .bad) Q):c/\post C φ H r Q:=by
 by_cases hc:c
 ·rw[if_pos hc]at h;exact⟨hc,h⟩
 ·rw[if_neg hc]at h;exact h.elim
theorem post.lnew{h:PH}(q:post C φ H (.ok (.ref h.length) (h++[.lst xs])) Q)(rh:RH C φ H h)(r:RVs C φ H xs vs)(hp:H p=b_):Q (.ref p) (upd H p (.lst vs)):=q (φ++[p]) (.ref p) _ (y0k _ _) (Kp.new hp) (rh.new hp ⟨vs,bX,r.mono (y0k _ _) (Kp.new hp)⟩) ⟨p,rfl,by rw[<-rh.len];simp⟩
theorem post.tnew(q:post C φ H (.ok (.tup xs) h) Q)(rh:RH C φ H h)(r:RVs C φ H xs vs)(hp:H p=b_):Q (.ref p) (upd H p (.tup vs)):=q φ (.ref p) _ Zm (Kp.new hp) (rh.aside hp) ⟨p,vs,rfl,SqT.of bX,r.mono Zm (Kp.new hp)⟩
theorem post.lset{φ:C_ u_}{h:PH}(q:post C φ H (.ok p (h.set n (.lst xs))) Q)(rh:RH C φ H h)(e:φ[n]?=a_ a)(hl:H a=a_ (.lst ws))(r:RVs C φ H xs vs)(rv:RV C φ H p v):Q v (upd H a (.lst vs)):=q φ v _ Zm (Kp.lst hl) (rh.write e (by rw[hl];trivial) ⟨vs,bX,r.mono Zm (Kp.lst hl)⟩) (rv.mono Zm (Kp.lst hl))
def LP(r:RVs C φ H xs vs)(h:QR xs=false):vs≠[]:=by
 cases xs with
 |nil=>cases h
 |cons x xs=>
  cases vs with
  |nil=>exact r.elim
  |cons=>intro z;cases z
def Uu:OpS C k X (y0Q .Add) LO:=λc=>(OY C.K c.K).imp λx y H Q h=>by
 let⟨φ,h,p,q,rh,rx,ry,po⟩:=h;unfold LO at po;cases p with
 |int i=>
  cases q with
  |int j=>cases rx;cases ry;exact po.val rh rfl
  |_=>exact po.elim
 |str i=>
  cases q with
  |str j=>cases rx;cases ry;exact⟨po.ite.1,po.ite.2.val rh rfl⟩
  |_=>exact po.elim
 |tup xs=>
  cases q with
  |tup ys=>let⟨a,vs,rfl,sa,ra⟩:=rx;let⟨b,us,rfl,sb,rb⟩:=ry;let⟨⟨h1,h2⟩,po⟩:=po.ite;refine .inr ⟨a,b,vs,us,rfl,rfl,sa,sb,LP ra h1,by rw[<-ra.length,<-rb.length];exact h2,λz=>?_,λz p hp=>po.tnew rh (ra.append rb) hp⟩;subst z;have e:ys=[]:=y2h rb.length;subst e;exact po.val rh ⟨a,vs,rfl,sa,by rw[y1h];exact ra⟩
  |_=>exact po.elim
 |ref n=>
  cases q with
  |ref m=>
   let⟨a,rfl,ha⟩:=rx;let⟨b,rfl,hb⟩:=ry;dsimp only at po;cases e1:iD h n with
   |none=>rw[e1]at po;exact po.elim
   |some xs=>
    cases e2:iD h m with
    |none=>rw[e1,e2]at po;exact po.elim
    |some ys=>rw[e1,e2]at po;let⟨vs,h1,r1⟩:=rh.at' n a _ ha (oI e1);let⟨us,h2,r2⟩:=rh.at' m b _ hb (oI e2);let⟨hz,po⟩:=po.ite;exact .inl ⟨a,b,vs,us,rfl,rfl,h1,h2,by rw[<-r1.length,<-r2.length];exact hz,λp hp=>po.lnew rh (r1.append r2) hp⟩
  |_=>exact po.elim
 |_=>exact po.elim
def vInt(P:Int->Int->Prop)[∀i j,Decidable (P i j)](f:Int->Int->Int):PV->PV->PH->Rs PV:=λx y h=>match x,y with
 |.int i,.int j=>if P i j then .ok (.int (f i j)) h else .bad
 |_,_=>.bad
def IW{f:s_->s_->Sem s_}{P:Int->Int->Prop}[∀i j,Decidable (P i j)]{g:Int->Int->Int}(ho:OpR X f (Do P g)):OpS C k X f (vInt P g):=λc=>ho.imp λx y H Q h=>by
 let⟨φ,h,p,q,rh,rx,ry,po⟩:=h;unfold vInt at po;cases p with
 |int i=>
  cases q with
  |int j=>cases rx;cases ry;exact⟨po.ite.1,po.ite.2.val rh rfl⟩
  |_=>exact po.elim
 |_=>exact po.elim
noncomputable instance(i j:Int):Decidable (Ft i j):=y06 _
noncomputable instance(i j:Int):Decidable (L5 i j):=y06 _
noncomputable instance(i j:Int):Decidable (JC i j):=y06 _
def K9:PV->PV->PH->Rs PV:=λx y h=>match x,y with
 |.int i,.int j=>.ok (.int (i-j)) h
 |_,_=>.bad
def QS:OpS C k X (y0Q .Sub) K9:=λc=>OZ.imp λx y H Q h=>by
 let⟨φ,h,p,q,rh,rx,ry,po⟩:=h;unfold K9 at po;cases p with
 |int i=>
  cases q with
  |int j=>cases rx;cases ry;exact po.val rh rfl
  |_=>exact po.elim
 |_=>exact po.elim
noncomputable abbrev FQ:=vInt Ft λi j=>i*j
noncomputable abbrev oZ:=vInt L5 λi j=>i/j
abbrev fO:=vInt (λ_ j=>0<j) λi j=>i%j
noncomputable abbrev Sg:=vInt JC λi j=>i ^ j.toNat
def FS:OpS C k X (y0Q .Mult) FQ:=IW P0
def wB:OpS C k X (y0Q .FloorDiv) oZ:=IW P3
def iE:OpS C k X (y0Q .Mod) fO:=IW P4
def Uv:OpS C k X (y0Q .Pow) Sg:=IW P5
def Wu:PV->PH->Rs PV:=λx h=>match x with
 |.int i=>.ok (.int (-i)) h
 |_=>.bad
end L2
namespace L2
variable{C:MC}{k:Nat}{X:Cx}
def FT(f:Int->Int->Bool)(g:C_ Nat->C_ Nat->Bool):PV->PV->PH->Rs PV:=λx y h=>match x,y with
 |.int i,.int j=>.ok (.bl (f i j)) h
 |.str i,.str j=>.ok (.bl (g i.cps.toList j.cps.toList)) h
 |_,_=>.bad
def LQ{f:s_->s_->Sem s_}{p:Int->Int->Bool}{g:C_ Nat->C_ Nat->Bool}(ho:OpR X f (Fy p g)):OpS C k X f (FT p g):=λc=>ho.imp λx y H Q h=>by
 let⟨φ,h,p,q,rh,rx,ry,po⟩:=h;unfold FT at po;cases p with
 |int i=>
  cases q with
  |int j=>cases rx;cases ry;exact po.val rh rfl
  |_=>exact po.elim
 |str i=>
  cases q with
  |str j=>cases rx;cases ry;exact po.val rh rfl
  |_=>exact po.elim
 |_=>exact po.elim
abbrev vLt:=FT (λi j=>decide (i<j)) λi j=>decide (i<j)
abbrev vGt:=FT (λi j=>decide (j<i)) λi j=>decide (j<i)
abbrev vLe:=FT (λi j=>decide (i<=j)) λi j=>!decide (j<i)
abbrev vGe:=FT (λi j=>decide (j<=i)) λi j=>!decide (i<j)
def Uw:OpS C k X (ZZ .Lt) vLt:=LQ RW
def Ux:OpS C k X (ZZ .Gt) vGt:=LQ RX
def Sh:OpS C k X (ZZ .LtE) vLe:=LQ RY
mutual
def PV.d:PV->D_ D
 |.non=>a_ .non
 |.bl b=>a_ (.bl b)
 |.int i=>d_ i
 |.str x=>a_ (.str x)
 |.tup xs=>match PV.ds xs with
  |some ds=>a_ (.tup ds)
  |none=>b_
 |.ref _=>b_
 |.ty _=>b_
 |.fl _=>b_
def PV.ds:C_ PV->D_ (C_ D)
 |[]=>a_ []
 |x::xs=>match PV.d x,PV.ds xs with
  |some d,a_ ds=>a_ (d::ds)
  |_,_=>b_
end
section
variable{φ:C_ u_}{H:Hp}
mutual
theorem RV.rep:∀{x:PV}{d:D}{v:V},RV C φ H x v->x.d=a_ d->Rep C.K H d v
 |.non,_,_,h,e=>by cases e;exact h
 |.bl _,_,_,h,e=>by cases e;exact h
 |.int _,_,_,h,e=>by cases e;exact h
 |.str _,_,_,h,e=>by cases e;exact h
 |.tup xs,d,v,⟨a,vs,e1,q,r⟩,e=>by
  unfold PV.d at e;cases e2:PV.ds xs with
  |none=>rw[e2]at e;cases e
  |some ds=>
   rw[e2]at e;cases e
   exact⟨a,vs,e1,q,RVs.reps r e2⟩
 |.ref _,_,_,_,e=>by cases e
 |.ty _,_,_,_,e=>by cases e
 |.fl _,_,_,_,e=>by cases e
theorem RVs.reps:∀{xs:C_ PV}{ds:C_ D}{vs:C_ V},RVs C φ H xs vs->PV.ds xs=a_ ds->jB C.K H ds vs
 |[],_,[],_,e=>by cases e;trivial
 |x::xs,_,v::vs,⟨h,r⟩,e=>by
  unfold PV.ds at e;cases e1:PV.d x with
  |none=>rw[e1]at e;cases e
  |some d=>
   cases e2:PV.ds xs with
   |none=>rw[e1,e2]at e;cases e
   |some ds=>
    rw[e1,e2]at e;cases e
    exact⟨RV.rep h e1,RVs.reps r e2⟩
 |[],_,_::_,h,_=>h.elim
 |_::_,_,[],h,_=>h.elim
end
end
def lY(x y:PV)(h:PH):D_ Bool:=match x.d,y.d with
 |some d,a_ e=>if d.depth<=40 then a_ (eqD d e) else b_
 | _,_=>match iY x h,iY y h with
   |some xs,a_ ys=>match PV.ds xs,PV.ds ys with
    |some ds,a_ es=>if D.depths ds<=40 then a_ (jC ds es) else b_
    |_,_=>b_
   |_,_=>b_
def ofB(o:D_ Bool)(h:PH):Rs PV:=match o with
 |some b=>.ok (.bl b) h
 |none=>.bad
def vEq:PV->PV->PH->Rs PV:=λx y h=>ofB (lY x y h) h
def vNe:PV->PV->PH->Rs PV:=λx y h=>ofB ((lY x y h).map not) h
def pA(rh:RH C φ H h)(rx:RV C φ H p x)(ry:RV C φ H q y)(e:lY p q h=a_ b):
  (∃d e,Rep C.K H d x/\Rep C.K H e y/\d.depth<=40/\b=eqD d e)\/(∃ds es,FB C.K H ds x/\FB C.K H es y/\D.depths ds<=40/\b=jC ds es):=by
 unfold lY at e;split at e
 ·rename_i d e' h1 h2;split at e
  ·rename_i hd;cases e
   exact .inl ⟨d,e',rx.rep h1,ry.rep h2,hd,rfl⟩
  ·cases e
 ·split at e
  ·rename_i xs ys h1 h2;split at e
   ·rename_i ds es h3 h4;split at e
    ·rename_i hd;cases e
     let⟨a',vs,rfl,sa,ra⟩:=lX rh rx h1;let⟨b'',us,rfl,sb,rb⟩:=lX rh ry h2;exact .inr ⟨ds,es,⟨a',vs,rfl,sa,ra.reps h3⟩,⟨b'',us,rfl,sb,rb.reps h4⟩,hd,rfl⟩
    ·cases e
   ·cases e
  ·cases e
def post.ofB(q:post C φ H (ofB o h) Q):∃b,o=a_ b/\post C φ H (.ok (.bl b) h) Q:=by
 cases o with
 |none=>exact q.elim
 |some b=>exact⟨b,rfl,q⟩
def uL:OpS C k X (ZZ .Eq) vEq:=λc=>((S6 c.hu64 C.K c.K).or (S8 c.hu64 C.K c.K)).imp λx y H Q h=>by
 let⟨φ,h,p,q,rh,rx,ry,po⟩:=h;let⟨b,e,po⟩:=po.ofB;rcases pA rh rx ry e with⟨d,e',h1,h2,h3,rfl⟩|⟨d,e',h1,h2,h3,rfl⟩
 ·exact .inl ⟨d,e',h1,h2,h3,po.val rh rfl⟩
 ·exact .inr ⟨d,e',h1,h2,h3,po.val rh rfl⟩
def Uy:OpS C k X (ZZ .NotEq) vNe:=λc=>((S7 c.hu64 C.K c.K).or (S9 c.hu64 C.K c.K)).imp λx y H Q h=>by
 let⟨φ,h,p,q,rh,rx,ry,po⟩:=h;let⟨b,e,po⟩:=po.ofB;cases e0:lY p q h with
 |none=>rw[e0]at e;cases e
 |some b'=>
  rw[e0]at e;cases e
  rcases pA rh rx ry e0 with⟨d,e',h1,h2,h3,rfl⟩|⟨d,e',h1,h2,h3,rfl⟩
  ·exact .inl ⟨d,e',h1,h2,h3,po.val rh rfl⟩
  ·exact .inr ⟨d,e',h1,h2,h3,po.val rh rfl⟩
def HE:PV->D_ Key
 |.int i=>a_ (.inl i)
 |.str x=>a_ (.inr x)
 |_=>b_
def cF{κ:Type}[DecidableEq κ]:C_ (κ×PV)->κ->D_ PV
 |[],_=>b_
 |(a,p)::r,b=>if a=b then a_ p else cF r b
def K'(h:PH)(n:Nat)(x:PV):D_ (D_ PV):=match h[n]? with
 |some (.dK kvs)=>match HE x with
  |some key=>a_ (cF kvs key)
  |none=>b_
 |_=>b_
def Bc(x:PV)(ys:C_ PV):D_ Bool:=match x.d,PV.ds ys with
 |some d,a_ ds=>if D.depths ds<=40 then a_ (ds.any λe=>eqD e d) else b_
 |_,_=>b_
def Ka(x y:PV)(h:PH):D_ Bool:=match y with
 |.tup ys=>Bc x ys
 |.ref n=>match bO h n with
  |some ys=>Bc x ys
  |none=>(K' h n x).map Option.isSome
 |.fl ys=>Bc x ys
 |_=>b_
def vIn:PV->PV->PH->Rs PV:=λx y h=>ofB (Ka x y h) h
def Bd:PV->PV->PH->Rs PV:=λx y h=>ofB ((Ka x y h).map not) h
def HF{φ:C_ u_}{H:Hp}{x:PV}{v:V}{key:Key}(r:RV C φ H x v)(e:HE x=a_ key):v=kV key:=by cases x <;> first|(cases e;exact r)|cases e
theorem yQ{φ:C_ u_}{H:Hp}{κ:Type}[DecidableEq κ]{kvs:C_ (κ×PV)}{ks:C_ (κ×V)}(r:RKv C φ H kvs ks)(a:κ):match cF kvs a,oC ks a with
  |some p,a_ v=>RV C φ H p v
  |none,b_=>True
  |_,_=>False:=by
 unfold RKv at r
 induction r with
 |nil=>trivial
 | @cons p q ps qs h t ih=>
  let⟨h1,h2⟩:=h;let⟨pk,pv⟩:=p;by_cases e:pk=a
  ·have e':q.1=a:=h1.symm.trans e;rw[vO e'];unfold cF;rw[if_pos e];exact h2
  ·have e':¬ q.1=a:=λz=>e (h1.trans z);rw[vP e'];unfold cF;rw[if_neg e];exact ih
def Be{φ:C_ u_}{H:Hp}{h:PH}{n:Nat}{a:u_}{x:PV}{v:V}{o:D_ PV}(rh:RH C φ H h)(ha:φ[n]?=a_ a)(rv:RV C φ H x v)(e:K' h n x=a_ o):
  ∃o',yK H a v o'/\o.isSome=o'.isSome/\∀p,o=a_ p->∃w,o'=a_ w/\RV C φ H p w:=by
 unfold K' at e;split at e
 ·rename_i kvs hk;split at e
  ·rename_i key ah;cases e
   let⟨ks,hH,rk⟩:=rh.at' n a _ ha hk;have q:=yQ rk key;rw[HF rv ah];refine⟨oC ks key,yK.k hH,?_,λp hp=>?_⟩
   ·cases e1:cF kvs key <;> cases e2:oC ks key <;> rw[e1,e2]at q <;> first|rfl|exact q.elim
   ·rw[hp]at q;cases e2:oC ks key with
    |none=>rw[e2]at q;exact q.elim
    |some w=>rw[e2]at q;exact⟨w,rfl,q⟩
  ·cases e
 ·cases e
def Bf(rh:RH C φ H h)(rx:RV C φ H p x)(ry:RV C φ H q y)(e:Ka p q h=a_ b):
  (∃d a ds vs,y=.ref a/\(SqL C.K H a vs\/SqT C.K H a vs)/\Rep C.K H d x/\jB C.K H ds vs/\D.depths ds<=40/\b=ds.any λe=>eqD e d)\/∃a o,y=.ref a/\yK H a x o/\b=o.isSome:=by
 have go:∀{a:u_}{vs:C_ V}{ys:C_ PV},(SqL C.K H a vs\/SqT C.K H a vs)->RVs C φ H ys vs->Bc p ys=a_ b->∃d a' ds vs,V.ref a=.ref a'/\(SqL C.K H a' vs\/SqT C.K H a' vs)/\Rep C.K H d x/\jB C.K H ds vs/\D.depths ds<=40/\b=ds.any λe=>eqD e d:=by
  intro a vs ys hs hr he;unfold Bc at he;split at he
  ·rename_i d ds h1 h2;split at he
   ·rename_i hd;cases he
    exact⟨d,a,ds,vs,rfl,hs,rx.rep h1,hr.reps h2,hd,rfl⟩
   ·cases he
  ·cases he
 unfold Ka at e;split at e
 ·let⟨a,vs,rfl,sa,ra⟩:=ry;exact .inl (go (.inr sa) ra e)
 ·rename_i n;let⟨a,rfl,ha⟩:=ry;split at e
  ·rename_i ys hl;let⟨a2,vs,ai,sa,ra⟩:=dB rh hl;rw[ha]at ai;cases ai;exact .inl (go (.inl sa) ra e)
  ·cases e':K' h n p with
   |none=>rw[e']at e;cases e
   |some o=>
    rw[e']at e;cases e
    let⟨o',g,i,_⟩:=Be rh ha rx e';exact .inr ⟨a,o',rfl,g,i⟩
 ·let⟨a,vs,rfl,sa,ra⟩:=ry;exact .inl (go (.inl sa.sq) ra e)
 ·cases e
def Wv:OpS C k X (ZZ .In) vIn:=λc=>((Sa c.hu64 C.K c.K).or (RZ c.hu C.K c.K)).imp λx y H Q h=>by
 let⟨φ,h,p,q,rh,rx,ry,po⟩:=h;let⟨b,e,po⟩:=po.ofB;rcases Bf rh rx ry e with⟨d,a,ds,vs,rfl,h1,h2,h3,h4,rfl⟩|⟨a,o,rfl,g,rfl⟩
 ·exact .inl ⟨d,a,ds,vs,rfl,h1,h2,h3,h4,po.val rh rfl⟩
 ·exact .inr (.inr ⟨a,o,rfl,g,po.val rh rfl⟩)
def Pe:OpS C k X (ZZ .NotIn) Bd:=λc=>((JT c.hu64 C.K c.K).or (JR c.hu C.K c.K)).imp λx y H Q h=>by
 let⟨φ,h,p,q,rh,rx,ry,po⟩:=h;let⟨b,e,po⟩:=po.ofB;cases e':Ka p q h with
 |none=>rw[e']at e;cases e
 |some b'=>
  rw[e']at e;cases e
  rcases Bf rh rx ry e' with⟨d,a,ds,vs,rfl,h1,h2,h3,h4,rfl⟩|⟨a,o,rfl,g,rfl⟩
  ·exact .inl ⟨d,a,ds,vs,rfl,h1,h2,h3,h4,po.val rh rfl⟩
  ·exact .inr (.inr ⟨a,o,rfl,g,po.val rh rfl⟩)
def yR:PV->Bool
 |.non=>true
 |_=>false
def vIs:PV->PV->PH->Rs PV:=λx y h=>match y with
 |.non=>.ok (.bl (yR x)) h
 |.bl b=>match x with
  |.bl a=>.ok (.bl (a == b)) h
  |_=>.bad
 |_=>.bad
def LR:PV->PV->PH->Rs PV:=λx y h=>match y with
 |.non=>.ok (.bl (!yR x)) h
 |.bl b=>match x with
  |.bl a=>.ok (.bl (!(a == b))) h
  |_=>.bad
 |_=>.bad
def tru(x:PV)(h:PH):Rs Bool:=match x with
 |.non=>.ok false h
 |.bl b=>.ok b h
 |.int i=>.ok (i != 0) h
 |.str y=>if y.length<=Zq then .ok ((y.length:Int) != 0) h else .bad
 |.tup xs=>.ok (!xs.isEmpty) h
 |.ref n=>match bO h n with
  |some xs=>.ok (!xs.isEmpty) h
  |none=>match h[n]? with
   |some (.dK kvs)=>.ok (!kvs.isEmpty) h
   |_=>.bad
 |.fl xs=>.ok (!xs.isEmpty) h
 |.ty _=>.bad
theorem RVs.isEmpty{xs:C_ PV}{vs:C_ V}(r:RVs C φ H xs vs):(!vs.isEmpty)=!xs.isEmpty:=by cases xs <;> cases vs <;> first|rfl|exact r.elim
theorem eF.ite{c:Prop}[Decidable c]{Q:Bool->Hp->Prop}(h:eF C φ H (if c then r else .bad) Q):c/\eF C φ H r Q:=by
 by_cases hc:c
 ·rw[if_pos hc]at h;exact⟨hc,h⟩
 ·rw[if_neg hc]at h;exact h.elim
theorem eF.val{Q:Bool->Hp->Prop}(q:eF C φ H (.ok b h) Q)(rh:RH C φ H h):Q b H:=q φ H Zm (Kp.refl H) rh
def Kb{Q:Bool->Hp->Prop}(rh:RH C φ H h)(rv:RV C φ H p v)(po:eF C φ H (tru p h) Q):∃b,OK C.K v H b/\Q b H:=by
 unfold tru at po;cases p with
 |non=>cases rv;exact⟨_,rfl,po.val rh⟩
 |bl b=>cases rv;exact⟨_,rfl,po.val rh⟩
 |int i=>cases rv;exact⟨_,rfl,po.val rh⟩
 |str y=>cases rv;exact⟨_,⟨po.ite.1,rfl⟩,po.ite.2.val rh⟩
 |tup xs=>let⟨a,vs,rfl,sa,ra⟩:=rv;exact⟨_,.inr (.inl ⟨vs,sa,rfl⟩),by rw[ra.isEmpty];exact po.val rh⟩
 |ref n=>
  let⟨a,rfl,ha⟩:=rv;dsimp only at po;cases e:bO h n with
  |some xs=>rw[e]at po;let⟨a2,vs,ai,sa,ra⟩:=dB rh e;rw[ha]at ai;cases ai;exact⟨_,.inl ⟨vs,sa,rfl⟩,by rw[ra.isEmpty];exact po.val rh⟩
  |none=>
   rw[e]at po;dsimp only at po;split at po
   ·rename_i kvs hk;let⟨ks,hH,rk⟩:=rh.at' n a _ ha hk;refine⟨_,.inr (.inr ⟨ks,hH,rfl⟩),?_⟩;have:(!ks.isEmpty)=!kvs.isEmpty:=by cases rk <;> rfl
    rw[this];exact po.val rh
   ·exact po.elim
 |fl xs=>let⟨a,vs,rfl,sa,ra⟩:=rv;exact⟨_,.inl ⟨vs,sa.sq,rfl⟩,by rw[ra.isEmpty];exact po.val rh⟩
 |ty n=>exact po.elim
end L2
namespace L2
variable{C:MC}{k:Nat}{X:Cx}
def dQ(m:Me):Ev->PH->Rs Bool:=λδ h=>(m δ h).bind tru
def LS{Q:Bool->Hp->Prop}(h:rdB C (dQ m) σ H Q):rd C m σ H λv H1=>∃b,OK C.K v H1 b/\Q b H1:=by let⟨φ,δ,h,rh,re,p⟩:=h;refine⟨φ,δ,h,rh,re,(post.bindB p).imp ?_⟩;rintro v H1 ⟨φ1,x,h1,p1,t1,aa,ab,q1⟩;exact Kb aa ab q1
section
variable{a b e c':A_}{ma mb mc m:Me}{g g':PV->PV->PH->Rs PV}{pos:Pos}{ta tb:Ev->PH->Rs Bool}
def Bg(h:SE C k X e m)(he:∀whole,isTrue e X.env whole=(do let v <-whole;standAt e.pos;holding [v] (truthy v)):=by intro _;rfl):ST C k X e (dQ m):=λc=>
 (L' (h c) he).imp λσ H Q q=>by rw[c.K];exact LS q
def fH(ho:OpS C k X (ZZ op) g)(ha:SE C k X a ma)(hb:SE C k X b mb)(hm:behindInMarks op b=false:=by first|exact L6 _|rfl):ST C k X (.Compare a [op] [b] pos) (dQ (aG g ma mb)):=λc=>by
 intro FR s σ H Q I h;have h:=IV (LS h);refine wpAny_isTrue_Compare1 (thn (ha c FR s σ H _ I h) λv s1 ⟨x,H1,I1,r1,q1⟩=>thn (hb c FR s1 σ H1 _ I1 q1) λu s2 ⟨y,H2,I2,r2,q2⟩=>thn (ho c FR s2 σ H2 x y v u _ I2 r1 r2 q2) λw s3 ⟨z,H3,I3,r3,q3⟩=>?_) hm;rw[<-c.K]at q3;exact L9 FR s3 σ H3 z w Q I3 r3 q3
def LU(z:PV)(h:PH):Rs PV:=match z with
 |.bl b=>.ok (.bl b) h
 |_=>.bad
def Kc(g g':PV->PV->PH->Rs PV)(ma mb mc:Me):Me:=λδ h=>(ma δ h).bind λx h1=>(mb δ h1).bind λy h2=>(g x y h2).bind λz h3=>match z with
 |.bl true=>(mc δ h3).bind λw h4=>(g' y w h4).bind LU
 |.bl false=>.ok (.bl false) h3
 |_=>.bad
def Si(h:rd C (Kc g g' ma mb mc) σ H Q):L7 (r2 C g) (r2 C g') (rd C ma) (rd C mb) (rd C mc) σ H λv H1=>∃b,v=.bl b/\Q v H1:=by
 let⟨φ,δ,h,rh,re,p⟩:=h;refine⟨φ,δ,h,rh,re,(post.bind p).imp ?_⟩;rintro v H1 ⟨φ1,x,h1,p1,t1,aa,ab,q1⟩;refine⟨φ1,δ,h1,aa,re.mono p1 t1,(post.bind q1).imp ?_⟩;rintro u H2 ⟨φ2,y,h2,p2,t2,aj,br,q2⟩;refine⟨φ2,h2,x,y,aj,ab.mono p2 t2,br,(post.bind q2).imp ?_⟩;rintro w H3 ⟨φ3,z,h3,p3,t3,d6,rv3,q3⟩;cases z with
 |bl b=>
  cases rv3
  refine⟨b,rfl,?_⟩;cases b with
  |false=>exact JL ⟨false,rfl,q3.val d6 rfl⟩
  |true=>
   refine JM ⟨φ3,δ,h3,d6,re.mono ((p1.trans p2).trans p3) ((t1.trans t2).trans t3),(post.bind q3).imp ?_⟩;rintro w4 H4 ⟨φ4,z4,h4,p4,t4,rh4,rv4,q4⟩;refine⟨φ4,h4,y,z4,rh4,br.mono (p3.trans p4) (t3.trans t4),rv4,(post.bind q4).imp ?_⟩;rintro w5 H5 ⟨φ5,z5,h5,p5,t5,rh5,rv5,q5⟩;cases z5 with
   |bl b=>cases rv5;exact⟨b,rfl,q5.val rh5 rfl⟩
   |_=>exact q5.elim
 |_=>exact q3.elim
def Uz(ho:OpS C k X (ZZ op) g)(bw:OpS C k X (ZZ i8) g')(ha:SE C k X a ma)(hb:SE C k X b mb)(hc:SE C k X c' mc)(hm:lastMarks [op,i8] [b,c']=false:=by with_unfolding_all rfl):
  SE C k X (.Compare a [op,i8] [b,c'] pos) (Kc g g' ma mb mc):=λc=>by
 intro FR s σ H Q I h;refine y0I (L8 (ho c) (bw c) (ha c) (hb c) (hc c) hm FR s σ H _ I (Si h)) (λv s1 ⟨x,H1,I1,r1,b,e,q⟩=>⟨x,H1,I1,r1,q⟩) λ_ _ z=>z
def wC(t:Ev->PH->Rs Bool):Ev->PH->Rs Bool:=λδ h=>(t δ h).bind λb h1=>.ok (!b) h1
def IX(ta tb:Ev->PH->Rs Bool):Ev->PH->Rs Bool:=λδ h=>(ta δ h).bind λb h1=>match b with
 |true=>tb δ h1
 |false=>.ok false h1
def Ef(ta tb:Ev->PH->Rs Bool):Ev->PH->Rs Bool:=λδ h=>(ta δ h).bind λb h1=>match b with
 |true=>.ok true h1
 |false=>tb δ h1
theorem eF.imp{φ:C_ u_}{H:Hp}{r:Rs Bool}{Q Q':Bool->Hp->Prop}(h:eF C φ H r Q)(i:∀v H',Q v H'->Q' v H'):eF C φ H r Q':=by
 cases r with
 |ok a h'=>exact λφ' H' p t rh=>i a H' (h φ' H' p t rh)
 |exc a h'=>exact h
 |bad=>exact h
def Dw(h:ST C k X e ta):ST C k X (.UnaryOp .Not e pos) (wC ta):=λc=>(Rl (h c)).imp λσ H Q q=>by let⟨φ,δ,h,rh,re,p⟩:=q;refine⟨φ,δ,h,rh,re,(eF.bindB p).imp ?_⟩;rintro b H1 ⟨φ1,h1,p1,t1,aa,q1⟩;exact q1.val aa
def SW(C:MC)(k:Nat)(X:Cx)(e:A_)(m:Ev->PH->Rs Bool):Prop:=Cxt C k X->PW X e (rdB C m)
theorem SW.t(h:SW C k X e ta):ST C k X e ta:=λc=>(h c).pt
theorem PW.imp{t t':TT}(h:PW X e t)(i:∀σ H Q,t' σ H Q->t σ H Q):PW X e t':=λw FR s σ H Q I q=>h w FR s σ H Q I (i σ H Q q)
def Sj(ha:ST C k X a ta):SW C k X (.BoolOp .And [a] pos) ta:=λc=>OB (ha c)
def LV(ha:ST C k X a ta):SW C k X (.BoolOp .Or [a] pos) ta:=λc=>Ri (ha c)
def w_and{rest:C_ A_}(ha:ST C k X a ta)(hb:SW C k X (.BoolOp .And (b::rest) pos) tb):SW C k X (.BoolOp .And (a::b::rest) pos) (IX ta tb):=λc=>PW.imp (Rj (ha c) (hb c)) λσ H Q q=>by
 let⟨φ,δ,h,rh,re,p⟩:=q;refine⟨φ,δ,h,rh,re,(eF.bindB p).imp ?_⟩;rintro b H1 ⟨φ1,h1,p1,t1,aa,q1⟩;cases b with
 |true=>exact JM ⟨φ1,δ,h1,aa,re.mono p1 t1,q1⟩
 |false=>exact JL (q1.val aa)
def w_or{rest:C_ A_}(ha:ST C k X a ta)(hb:SW C k X (.BoolOp .Or (b::rest) pos) tb):SW C k X (.BoolOp .Or (a::b::rest) pos) (Ef ta tb):=λc=>PW.imp (TV (ha c) (hb c)) λσ H Q q=>by
 let⟨φ,δ,h,rh,re,p⟩:=q;refine⟨φ,δ,h,rh,re,(eF.bindB p).imp ?_⟩;rintro b H1 ⟨φ1,h1,p1,t1,aa,q1⟩;cases b with
 |true=>exact JM (q1.val aa)
 |false=>exact JL ⟨φ1,δ,h1,aa,re.mono p1 t1,q1⟩
def Bh(ma mb:Me):Me:=λδ h=>(ma δ h).bind λx h1=>match x with
 |.bl true=>mb δ h1
 |.bl false=>.ok (.bl false) h1
 |_=>.bad
def IY(ma:Me):Me:=λδ h=>(ma δ h).bind λx h1=>match x with
 |.bl b=>.ok (.bl (!b)) h1
 |_=>.bad
def LW{op}(h:SE C k X a ma):SE C k X (.BoolOp op [a] pos) ma:=λc=>Rm (h c)
def IZ{rest:C_ A_}(ha:SE C k X a ma)(hb:SE C k X (.BoolOp .And (b::rest) pos) mb):SE C k X (.BoolOp .And (a::b::rest) pos) (Bh ma mb):=λc=>(P6 (ha c) (hb c)).imp λσ H Q q=>by
 let⟨φ,δ,h,rh,re,p⟩:=q;refine⟨φ,δ,h,rh,re,(post.bind p).imp ?_⟩;rintro v H1 ⟨φ1,x,h1,p1,t1,aa,rv,q1⟩;cases x with
 |bl b=>
  cases rv
  cases b with
  |true=>exact JM ⟨φ1,δ,h1,aa,re.mono p1 t1,q1⟩
  |false=>exact JL (q1.val aa rfl)
 |_=>exact q1.elim
def UA(ha:SE C k X a ma):SE C k X (.UnaryOp .Not a pos) (IY ma):=λc=>(P7 (ha c)).imp λσ H Q q=>by
 let⟨φ,δ,h,rh,re,p⟩:=q;refine⟨φ,δ,h,rh,re,(post.bind p).imp ?_⟩;rintro v H1 ⟨φ1,x,h1,p1,t1,aa,rv,q1⟩;cases x with
 |bl b=>cases rv;exact q1.val aa rfl
 |_=>exact q1.elim
end
theorem RVs.atI(r:RVs C φ H xs vs)(e:L2.atI xs i=a_ x):∃v,L2.atI vs i=a_ v/\RV C φ H x v:=by
 unfold L2.atI at e⊢;rw[<-r.length];cases q:ixN xs.length i with
 |none=>rw[q]at e;cases e
 |some j=>rw[q]at e;exact r.at e
def ofO(o:D_ PV)(h:PH):Rs PV:=match o with
 |some p=>.ok p h
 |none=>.bad
def vIx:PV->PV->PH->Rs PV:=λx y h=>match x with
 |.str z=>(match y with
  |.int i=>if z.length<=Zq then ofO ((atI z.cps.toList i).map λc=>.str ⟨#[c]⟩) h else .bad
  |_=>.bad)
 |.tup xs=>(match y with
  |.int i=>ofO (atI xs i) h
  |_=>.bad)
 |.fl xs=>(match y with
  |.int i=>ofO (atI xs i) h
  |_=>.bad)
 |.ref n=>(match bO h n with
  |some xs=>(match y with
   |.int i=>ofO (atI xs i) h
   |_=>.bad)
  |none=>(match K' h n y with
   |some o=>ofO o h
   |none=>.bad))
 |_=>.bad
def post.ofO(q:post C φ H (ofO o h) Q):∃p,o=a_ p/\post C φ H (.ok p h) Q:=by
 cases o with
 |none=>exact q.elim
 |some b=>exact⟨b,rfl,q⟩
def UB(h:r2 C vIx x y H Q):Ul C.K x y H Q:=by
 let⟨φ,h,p,q,rh,rx,ry,po⟩:=h;unfold vIx at po;cases p with
 |str z=>
  cases rx
  cases q with
  |int i=>
   cases ry
   let⟨hz,po⟩:=po.ite;let⟨p,e,po⟩:=po.ofO;cases e':atI z.cps.toList i with
   |none=>rw[e']at e;cases e
   |some c=>rw[e']at e;cases e;exact⟨hz,c,e',po.val rh rfl⟩
  |_=>exact po.elim
 |tup xs=>
  let⟨a,vs,rfl,sa,ra⟩:=rx;cases q with
  |int i=>
   cases ry
   let⟨p,e,po⟩:=po.ofO;let⟨v,hv,rv⟩:=ra.atI e;exact .inl ⟨vs,i,v,rfl,.inr sa,hv,po.val rh rv⟩
  |_=>exact po.elim
 |fl xs=>
  let⟨a,vs,rfl,sa,ra⟩:=rx;cases q with
  |int i=>
   cases ry
   let⟨p,e,po⟩:=po.ofO;let⟨v,hv,rv⟩:=ra.atI e;exact .inl ⟨vs,i,v,rfl,.inl sa.sq,hv,po.val rh rv⟩
  |_=>exact po.elim
 |ref n=>
  let⟨a,rfl,ha⟩:=rx;dsimp only at po;cases e:bO h n with
  |some xs=>
   rw[e]at po;let⟨a2,vs,ai,sa,ra⟩:=dB rh e;rw[ha]at ai;cases ai;cases q with
   |int i=>
    cases ry
    let⟨p,e,po⟩:=po.ofO;let⟨v,hv,rv⟩:=ra.atI e;exact .inl ⟨vs,i,v,rfl,.inl sa,hv,po.val rh rv⟩
   |_=>exact po.elim
  |none=>
   rw[e]at po;dsimp only at po;cases e':K' h n q with
   |none=>rw[e']at po;exact po.elim
   |some o=>rw[e']at po;let⟨p,eo,po⟩:=po.ofO;let⟨o',g,_,hp⟩:=Be rh ha ry e';let⟨w,rfl,bu⟩:=hp p eo;exact .inr ⟨w,g,po.val rh bu⟩
 |_=>exact po.elim
def tY{prog:z_}{w:y_}{A:w_}{E:f_ 0}{s:t_}{t sl:u_}{items:Array s_}{vl vu:s_}{lo hi:D_ Int}{Q:f_ 0}(ht:IsTup s.heap t items)(hs:s.heap.IsSliceOf sl vl vu .none)(pl:IsPart vl lo)(pu:IsPart vu hi)
  (hw:HT.sIx items.size 0 lo=0/\HT.sIx items.size items.size hi=items.size) (h:Q (.ref t) s):m_ prog w A (getItem (.ref t) (.ref sl)) Q E s:=by
 let⟨os,ij,qq,jv⟩:=id hs;have uy:s.TypeIs (.ref sl) "slice" := ⟨os,ij,qq⟩;unfold getItem
 try with_reducible refine Z3 ?_
 first|refine Zb (Zd ?_)|skip
 refine Zb (wpAny_sequenceKey ht.typeIs nofun ?_);refine Zb (ZR (name:=y0i "__getitem__") ht.typeIs y0q
  (Z1 y0q ht.typeIs entry_tuple_getitem ?_ (args_tuple_getitem _ _)))
 show wpAny _ _ (y2L (.ref t) >>= _) _ _ s
 refine Zb (tupleItemsOf_ ht ?_);refine Zb (y1K uy ?_);rw[if_pos nofun];refine Zb (HT.sliceApplied_gen hs pl pu ?_);have fu:((((HT.sIx items.size 0 lo:Nat):Int) == 0&&(1:Int) == 1&&(HT.sIx items.size items.size hi-HT.sIx items.size 0 lo) == items.size)=true):=by rw[hw.1,hw.2];simp
 show wpAny _ _ (if(((HT.sIx items.size 0 lo:Nat):Int) == 0&&(1:Int) == 1&&(HT.sIx items.size items.size hi-HT.sIx items.size 0 lo) == items.size)=true then _ else _) _ _ s
 rw[if_pos fu];refine Zb ?_;unfold Builtin.Tuple.tupleIsExact;refine Zb (y1K ht.typeIs (Zd ?_));rw[if_pos nofun];refine Zb (y07 ?_);exact Zd ⟨_,rfl,Zd h⟩
end L2
namespace L2
variable{C:MC}{k:Nat}{X:Cx}
def yS{α:Type}(xs:C_ α)(lo hi:D_ Int):C_ α:=(xs.drop (HT.sIx xs.length 0 lo)).take (HT.sIx xs.length xs.length hi-HT.sIx xs.length 0 lo)
theorem RVs.cut(r:RVs C φ H xs vs)(lo hi:D_ Int):RVs C φ H (yS xs lo hi) (Fv vs lo hi):=by unfold yS Fv;rw[<-r.length];exact(r.drop _).take _
def vSl:PV->D_ Int->D_ Int->PH->Rs PV:=λx lo hi h=>match x with
 |.str z=>if z.length<=Zq then .ok (.str (y24 z lo hi)) h else .bad
 |.tup xs=>.ok (.tup (yS xs lo hi)) h
 |.ref n=>match bO h n with
  |some xs=>.ok (.ref h.length) (h++[.lst (yS xs lo hi)])
  |none=>.bad
 |.fl xs=>.ok (.ref h.length) (h++[.lst (yS xs lo hi)])
 |_=>.bad
def UC(K:Zf):V->D_ Int->D_ Int->Hp->VK->Prop:=λx lo hi H Q=>∃a xs,x=.ref a/\SqT K H a xs/\(HT.sIx xs.length 0 lo=0/\HT.sIx xs.length xs.length hi=xs.length)/\Q (.ref a) H
def LX:SlR X (UC X.K):=by
 intro FR s σ H x v vl vu lo hi sl Q I rx hs pl pu h;let⟨a,xs,rfl,hx,hw,q⟩:=h;cases rx
 let⟨its,r,ht,hz⟩:=I.tuple hx;have hlen:its.toArray.size=xs.length:=by rw[Zp];exact r.length.symm
 refine⟨"tuple",_,y0q.lookup,ht.typeIs,?_⟩;exact tY ht hs pl pu (by rw[hlen];exact hw) ⟨.ref a,H,I,rfl,q⟩
theorem SlR.imp{r r':V->D_ Int->D_ Int->Hp->VK->Prop}(h:SlR X r)(i:∀x lo hi H Q,r' x lo hi H Q->r x lo hi H Q):SlR X r':=λFR s σ H x v vl vu lo hi sl Q I rx hs pl pu q=>h FR s σ H x v vl vu lo hi sl Q I rx hs pl pu (i x lo hi H Q q)
def r3(C:MC)(g:PV->D_ Int->D_ Int->PH->Rs PV):V->D_ Int->D_ Int->Hp->VK->Prop:=λx lo hi H Q=>∃φ h p,RH C φ H h/\RV C φ H p x/\post C φ H (g p lo hi h) Q
def Sk(hK:X.K=C.K):SlR X (r3 C vSl):=by
 have e:SlR X (λx lo hi H Q=>Uj x lo hi H Q\/U9 C.K x lo hi H Q\/Ub C.K x lo hi H Q\/UC C.K x lo hi H Q):=by rw[<-hK];exact RU.or (RK.or (OS.or LX))
 refine e.imp λx lo hi H Q h=>?_;let⟨φ,h,p,rh,rv,po⟩:=h;unfold vSl at po;cases p with
 |str z=>cases rv;exact .inl ⟨z,rfl,po.ite.1,po.ite.2.val rh rfl⟩
 |tup xs=>
  let⟨a,vs,rfl,sa,ra⟩:=rv;by_cases hw:HT.sIx vs.length 0 lo=0/\HT.sIx vs.length vs.length hi=vs.length
  ·refine .inr (.inr (.inr ⟨a,vs,rfl,sa,hw,po.val rh ⟨a,vs,rfl,sa,?_⟩⟩));have e:yS xs lo hi=xs:=by unfold yS;rw[ra.length,hw.1,hw.2,List.drop_zero,y2E,<-ra.length,y0U]
   rw[e];exact ra
  ·exact .inr (.inl ⟨a,vs,rfl,sa,hw,λp hp=>po.tnew rh (ra.cut lo hi) hp⟩)
 |ref n=>
  let⟨a,rfl,ha⟩:=rv;dsimp only at po;cases e:bO h n with
  |none=>rw[e]at po;exact po.elim
  |some xs=>rw[e]at po;let⟨a2,vs,ai,sa,ra⟩:=dB rh e;rw[ha]at ai;cases ai;exact .inr (.inr (.inl ⟨a,vs,rfl,sa,λp hp=>po.lnew rh (ra.cut lo hi) hp⟩))
 |fl xs=>let⟨a,vs,rfl,sa,ra⟩:=rv;exact .inr (.inr (.inl ⟨a,vs,rfl,sa.sq,λp hp=>po.lnew rh (ra.cut lo hi) hp⟩))
 |_=>exact po.elim
abbrev Mo:=Ev->PH->Rs (D_ Int)
def A4(C:MC)(φ:C_ u_)(H:Hp)(r:Rs (D_ Int))(Q:D_ Int->Hp->Prop):Prop:=match r with
 |.ok b h=>∀φ' H',φ<+:φ'->Kp H H'->RH C φ' H' h->Q b H'
 |.exc x h=>∀φ' H',φ<+:φ'->Kp H H'->RH C φ' H' h->C.ex φ' H' x
 |.bad=>False
def rdO(C:MC)(m:Mo):TO:=λσ H Q=>∃φ δ h,RH C φ H h/\RE C φ H δ σ/\A4 C φ H (m δ h) Q
def SO(C:MC)(k:Nat)(X:Cx)(e:D_ A_)(m:Mo):Prop:=Cxt C k X->PO X e (rdO C m)
def Eg:Mo:=λ_ h=>.ok b_ h
def mP(m:Me):Mo:=λδ h=>(m δ h).bind λx h1=>match x with
 |.int i=>.ok (a_ i) h1
 |_=>.bad
def Eh:SO C k X b_ Eg:=λc FR s σ H Q I h=>by let⟨φ,δ,h,rh,re,p⟩:=h;exact OP FR s σ H Q I (p φ H Zm (Kp.refl H) rh)
def yT(h:SE C k X e m):SO C k X (a_ e) (mP m):=λc FR s σ H Q I q=>by
 refine Lu (h c) FR s σ H Q I ?_;let⟨φ,δ,h,rh,re,p⟩:=q;refine⟨φ,δ,h,rh,re,?_⟩;unfold mP at p;cases e':m δ h with
 |ok x h1=>
  rw[e']at p;intro φ' v H' p' t' dh bf;cases x with
  |int i=>cases bf;exact p φ' H' p' t' dh
  |_=>exact p.elim
 |exc x h1=>rw[e']at p;exact p
 |bad=>rw[e']at p;exact p
def mSl(me:Me)(ml mh:Mo):Me:=λδ h=>(me δ h).bind λx h1=>(ml δ h1).bind λl h2=>(mh δ h2).bind λu h3=>vSl x l u h3
theorem A4.bind{r:Rs (D_ Int)}{f:D_ Int->PH->Rs PV}(h:post C φ H (r.bind f) Q):A4 C φ H r λb H1=>∃φ1 h1,φ<+:φ1/\Kp H H1/\RH C φ1 H1 h1/\post C φ1 H1 (f b h1) Q:=by
 cases r with
 |ok a h'=>exact λφ' H' p t rh=>⟨φ',h',p,t,rh,post.weak p t h⟩
 |exc a h'=>exact h
 |bad=>exact h
theorem A4.imp{φ:C_ u_}{H:Hp}{r:Rs (D_ Int)}{Q Q':D_ Int->Hp->Prop}(h:A4 C φ H r Q)(i:∀v H',Q v H'->Q' v H'):A4 C φ H r Q':=by
 cases r with
 |ok a h'=>exact λφ' H' p t rh=>i a H' (h φ' H' p t rh)
 |exc a h'=>exact h
 |bad=>exact h
def LY{e:A_}{lo hi:D_ A_}{me:Me}{ml mh:Mo}{p2 pos:Pos}(he:SE C k X e me)(hl:SO C k X lo ml)(hh:SO C k X hi mh):SE C k X (.Subscript e (.Slice lo hi b_ p2) pos) (mSl me ml mh):=λc=>(Lg (Sk c.K) (he c) (hl c) (hh c)).imp λσ H Q h=>by let⟨φ,δ,h,rh,re,p⟩:=h;refine⟨φ,δ,h,rh,re,(post.bind p).imp ?_⟩;rintro v H1 ⟨φ1,x,h1,p1,t1,aa,ab,q1⟩;refine⟨φ1,δ,h1,aa,re.mono p1 t1,(A4.bind q1).imp ?_⟩;rintro l H2 ⟨φ2,h2,p2,t2,aj,q2⟩;refine⟨φ2,δ,h2,aj,re.mono (p1.trans p2) (t1.trans t2),(A4.bind q2).imp ?_⟩;rintro u H3 ⟨φ3,h3,p3,t3,d6,q3⟩;exact⟨φ3,h3,x,d6,ab.mono (p2.trans p3) (t2.trans t3),q3⟩
abbrev Ma:=Ev->PH->Rs (C_ PV)
def aD:Ma:=λ_ h=>.ok [] h
def aA(m:Me)(ms:Ma):Ma:=λδ h=>(m δ h).bind λx h1=>(ms δ h1).bind λxs h2=>.ok (x::xs) h2
theorem PA.imp{es:C_ A_}{t t':TA}(h:PA X es t)(i:∀σ H Q,t' σ H Q->t σ H Q):PA X es t':=λpos FR s σ H Q I q=>h pos FR s σ H Q I (i σ H Q q)
def aE:SA C k X [] aD:=λc=>AR.imp λσ H Q h=>by let⟨φ,δ,h,rh,re,p⟩:=h;exact p φ [] H Zm (Kp.refl H) rh trivial
theorem postA.imp{φ:C_ u_}{H:Hp}{r:Rs (C_ PV)}{Q Q':C_ V->Hp->Prop}(h:postA C φ H r Q)(i:∀v H',Q v H'->Q' v H'):postA C φ H r Q':=by
 cases r with
 |ok a h'=>exact λφ' v H' p t rh rv=>i v H' (h φ' v H' p t rh rv)
 |exc a h'=>exact h
 |bad=>exact h
def aB{e:A_}{es:C_ A_}{m:Me}{ms:Ma}(he:SE C k X e m)(hs:SA C k X es ms)(hh:Zx (e::es) X.env=(false,eval e X.env)::Zx es X.env:=by rfl):SA C k X (e::es) (aA m ms):=λc=>(tD (he c) (hs c) hh).imp λσ H Q h=>by let⟨φ,δ,h,rh,re,p⟩:=h;refine⟨φ,δ,h,rh,re,(post.bindA p).imp ?_⟩;rintro v H1 ⟨φ1,x,h1,p1,t1,aa,ab,q1⟩;refine⟨φ1,δ,h1,aa,re.mono p1 t1,(postA.bindA q1).imp ?_⟩;rintro vs H2 ⟨φ2,xs,h2,p2,t2,aj,br,q2⟩;exact q2 φ2 (v::vs) H2 Zm (Kp.refl H2) aj ⟨ab.mono p2 t2,br⟩
def bH(ms:Ma):Me:=λδ h=>(ms δ h).bind λxs h1=>if xs.length<=Zq then .ok (.tup xs) h1 else .bad
def eY(ms:Ma):Me:=λδ h=>(ms δ h).bind λxs h1=>if xs.length<=Zq then .ok (.ref h1.length) (h1++[.lst xs]) else .bad
def bG{es:C_ A_}{ms:Ma}{x1}{pos:Pos}(hs:SA C k X es ms):SE C k X (.Tuple es x1 pos) (bH ms):=λc=>(RG (hs c)).imp λσ H Q h=>by let⟨φ,δ,h,rh,re,p⟩:=h;refine⟨φ,δ,h,rh,re,(postA.bind p).imp ?_⟩;rintro vs H1 ⟨φ1,xs,h1,p1,t1,aa,ab,q1⟩;exact⟨by rw[<-ab.length];exact q1.ite.1,λp hp=>q1.ite.2.tnew aa ab hp⟩
def iF{es:C_ A_}{ms:Ma}{pos:Pos}(hs:SA C k X es ms):SE C k X (.List es pos) (eY ms):=λc=>(RI (hs c)).imp λσ H Q h=>by let⟨φ,δ,h,rh,re,p⟩:=h;refine⟨φ,δ,h,rh,re,(postA.bind p).imp ?_⟩;rintro vs H1 ⟨φ1,xs,h1,p1,t1,aa,ab,q1⟩;exact⟨by rw[<-ab.length];exact q1.ite.1,λp hp=>q1.ite.2.lnew aa ab hp⟩
def Bi:Me:=λ_ h=>.ok (.ref h.length) (h++[.dK []])
def Ei:SE C k X (.Dict [] [] pos) Bi:=λc=>Lp.imp λσ H Q h=>by let⟨φ,δ,h,rh,re,p⟩:=h;intro a ha;exact p (φ++[a]) (.ref a) _ (y0k _ _) (Kp.new ha) (rh.new ha ⟨[],bX,.nil⟩) ⟨a,rfl,by rw[<-rh.len];simp⟩
def mCB(g:C_ PV->PH->Rs PV)(ms:Ma):Me:=λδ h=>(ms δ h).bind g
def QT{g:C_ PV->PH->Rs PV}(h:rd C (mCB g ms) σ H Q):tCB (rL C g) (rdA C ms) σ H Q:=by let⟨φ,δ,h,rh,re,p⟩:=h;refine⟨φ,δ,h,rh,re,(postA.bind p).imp ?_⟩;rintro vs H1 ⟨φ1,xs,h1,p1,t1,aa,ab,q1⟩;exact⟨φ1,h1,xs,aa,ab,q1⟩
section
variable{x:Str}{p pos:Pos}{e:A_}{es:C_ A_}{ms:Ma}{id T:String}{g:C_ PV->PH->Rs PV}
def iG(hc:rP C k X (.builtin id) g)(hv:y1t x=a_ (.builtin id))(ha:SA C k X (e::es) ms)(hb:x∈C.bs:=by decide)(hg:Gl X x:=by rfl)(hn:x≠"__name__" := by decide)(cm:(x == ("__debug__" : Str))=false:=by decide)
  (he:Zx (e::es) X.env=(false,eval e X.env)::Zx es X.env:=by rfl) (az:(backTo pos (Zx es X.env)).any (·.1)=false:=by rfl):SE C k X (.Call (.Name x p) (e::es) [] pos) (mCB g ms):=λc=>
 (AU (hc c) hg (c.bn x hb) hv (ha c) hn cm he az).imp λσ H Q h=>QT h
def oJ(hc:rP C k X (.type T) g)(hv:y1t x=a_ (.type T))(ha:SA C k X (e::es) ms)(hb:x∈C.bs:=by decide)(hg:Gl X x:=by rfl)(hn:x≠"__name__" := by decide)(cm:(x == ("__debug__" : Str))=false:=by decide)
  (he:Zx (e::es) X.env=(false,eval e X.env)::Zx es X.env:=by rfl) (az:(backTo pos (Zx es X.env)).any (·.1)=false:=by rfl):SE C k X (.Call (.Name x p) (e::es) [] pos) (mCB g ms):=λc=>
 (Dg (hc c) hg (c.bn x hb) hv (ha c) hn cm he az).imp λσ H Q h=>QT h
def spM(C:MC)(n:Nat)(f:Fn):Sp:=λvs H Q _=>∃φ h ps,RH C φ H h/\RVs C φ H ps vs/\ps.length=n/\post C φ H (f ps h) Q
def eW(n:Nat)(f:Fn)(ms:Ma):Me:=λδ h=>(ms δ h).bind λps h1=>if ps.length=n then f ps h1 else .bad
def s_call{st:B_}{a:u_}{fd:ZL}{ps:C_ Str}{j n:Nat}{f:Fn}(D:Def C.K X.mg x st a fd ps)(G:bR X.prog X.w C.K X.mg X.base CX0 j a fd ps (spM C n f))(ha:SA C k X (e::es) ms)(hj:j<=k:=by decide)
  (hg:Gl X x:=by rfl) (cm:(x == ("__debug__" : Str))=false:=by decide) (he:Zx (e::es) X.env=(false,eval e X.env)::Zx es X.env:=by rfl) (az:(backTo pos (Zx es X.env)).any (·.1)=false:=by rfl):
  SE C k X (.Call (.Name x p) (e::es) [] pos) (eW n f ms):=λc=>by
 have e1:=c.K;have D':Def X.K X.mg x st a fd ps:=by rw[e1];exact D
 have G':bR X.prog X.w X.K X.mg X.base CX0 j a fd ps (spM C n f):=by rw[e1];exact G
 refine(Ur D' G' (c.room.mono hj) (ha c) hg cm he az).imp λσ H Q h=>?_;let⟨φ,δ,h,rh,re,p⟩:=h;refine⟨φ,δ,h,rh,re,(postA.bind p).imp ?_⟩;rintro vs H1 ⟨φ1,xs,h1,p1,t1,aa,ab,q1⟩;refine⟨φ1,h1,xs,aa,by rw[y1h];exact ab,q1.ite.1,q1.ite.2⟩
end
def pB:C_ PV->PH->Rs PV:=λxs h=>match xs with
 |[.str y]=>if y.length<=Zq then .ok (.int y.length) h else .bad
 |[.tup ys]=>.ok (.int ys.length) h
 |[.fl ys]=>.ok (.int ys.length) h
 |[.ref n]=>match bO h n with
  |some ys=>.ok (.int ys.length) h
  |none=>match h[n]? with
   |some (.dK kvs)=>.ok (.int kvs.length) h
   |_=>.bad
 |_=>.bad
theorem RVs.one(r:RVs C φ H [x] vs):∃v,vs=[v]/\RV C φ H x v:=by
 match vs,r with
 |[v],⟨h,_⟩=>exact⟨v,rfl,h⟩
 |[],h=>exact h.elim
 |_::_::_,⟨_,h⟩=>exact h.elim
theorem RVs.two(r:RVs C φ H [x,y] vs):∃v w,vs=[v,w]/\RV C φ H x v/\RV C φ H y w:=by
 match vs,r with
 |[v,w],⟨h,h',_⟩=>exact⟨v,w,rfl,h,h'⟩
 |[],h=>exact h.elim
 |[_],⟨_,h⟩=>exact h.elim
 |_::_::_::_,⟨_,_,h⟩=>exact h.elim
def Bj:rP C k X (.builtin "len") pB:=λc=>(JS C.K c.K).imp λvs H Q h=>by
 let⟨φ,h,ps,rh,rv,po⟩:=h;unfold pB at po;split at po
 ·let⟨v,rfl,rx⟩:=rv.one;cases rx
  exact⟨po.ite.1,po.ite.2.val rh rfl⟩
 ·let⟨v,rfl,rx⟩:=rv.one;let⟨a,vs,rfl,sa,ra⟩:=rx;exact .inl ⟨vs,.inr sa,by rw[<-ra.length];exact po.val rh rfl⟩
 ·let⟨v,rfl,rx⟩:=rv.one;let⟨a,vs,rfl,sa,ra⟩:=rx;exact .inl ⟨vs,.inl sa.sq,by rw[<-ra.length];exact po.val rh rfl⟩
 ·rename_i n;let⟨v,rfl,rx⟩:=rv.one;let⟨a,rfl,ha⟩:=rx;split at po
  ·rename_i ys e;let⟨a2,vs,ai,sa,ra⟩:=dB rh e;rw[ha]at ai;cases ai;exact .inl ⟨vs,.inl sa,by rw[<-ra.length];exact po.val rh rfl⟩
  ·split at po
   ·rename_i kvs hk;let⟨ks,hH,rk⟩:=rh.at' n a _ ha hk;refine .inr ⟨ks,hH,?_⟩;have:ks.length=kvs.length:=(Z0 rk).symm;rw[this];exact po.val rh rfl
   ·exact po.elim
 ·exact po.elim
def nL:C_ PV->PH->Rs PV:=λxs h=>match xs with
 |[.tup ys]=>.ok (.tup ys) h
 |[.fl ys]=>.ok (.tup ys) h
 |[.ref n]=>match bO h n with
  |some ys=>.ok (.tup ys) h
  |none=>.bad
 |_=>.bad
def J1:rP C k X (.type "tuple") nL:=λc=>(Fz C.K c.K).imp λvs H Q h=>by
 let⟨φ,h,ps,rh,rv,po⟩:=h;unfold nL at po;split at po
 ·let⟨v,rfl,rx⟩:=rv.one;let⟨a,vs,rfl,sa,ra⟩:=rx;exact⟨a,vs,rfl,.inr ⟨sa,po.val rh ⟨a,vs,rfl,sa,ra⟩⟩⟩
 ·let⟨v,rfl,rx⟩:=rv.one;let⟨a,vs,rfl,sa,ra⟩:=rx;exact⟨a,vs,rfl,.inl ⟨sa.sq,λp hp=>po.tnew rh ra hp⟩⟩
 ·rename_i n;let⟨v,rfl,rx⟩:=rv.one;let⟨a,rfl,ha⟩:=rx;split at po
  ·rename_i ys e;let⟨a2,vs,ai,sa,ra⟩:=dB rh e;rw[ha]at ai;cases ai;exact⟨a,vs,rfl,.inl ⟨sa,λp hp=>po.tnew rh ra hp⟩⟩
  ·exact po.elim
 ·exact po.elim
def J2:C_ PV->PH->Rs PV:=λxs h=>match xs with
 |[.tup ys]=>.ok (.ref h.length) (h++[.lst ys])
 |[.fl ys]=>.ok (.ref h.length) (h++[.lst ys])
 |[.ref n]=>match bO h n with
  |some ys=>.ok (.ref h.length) (h++[.lst ys])
  |none=>.bad
 |_=>.bad
def Sl:rP C k X (.type "list") J2:=λc=>(Hq C.K c.K).imp λvs H Q h=>by
 let⟨φ,h,ps,rh,rv,po⟩:=h;unfold J2 at po;split at po
 ·let⟨v,rfl,rx⟩:=rv.one;let⟨a,vs,rfl,sa,ra⟩:=rx;exact⟨a,vs,rfl,.inr sa,λp hp=>po.lnew rh ra hp⟩
 ·let⟨v,rfl,rx⟩:=rv.one;let⟨a,vs,rfl,sa,ra⟩:=rx;exact⟨a,vs,rfl,.inl sa.sq,λp hp=>po.lnew rh ra hp⟩
 ·rename_i n;let⟨v,rfl,rx⟩:=rv.one;let⟨a,rfl,ha⟩:=rx;split at po
  ·rename_i ys e;let⟨a2,vs,ai,sa,ra⟩:=dB rh e;rw[ha]at ai;cases ai;exact⟨a,vs,rfl,.inl sa,λp hp=>po.lnew rh ra hp⟩
  ·exact po.elim
 ·exact po.elim
def UD:C_ PV->PH->Rs PV:=λxs h=>match xs with
 |[.int i,.int j]=>.ok (.int (if j>i then j else i)) h
 |_=>.bad
end L2
namespace L2
variable{C:MC}{k:Nat}{X:Cx}
def Rs.fl{α:Type}(r:Rs α)(f:α->PH->Fl):Fl:=match r with
 |.ok a h=>f a h
 |.exc x h=>.exc x h
 |.bad=>.bad
@[simp]theorem Rs.fl_ok{α:Type}(a:α)(h:PH)(f:α->PH->Fl):(Rs.ok a h).fl f=f a h:=(rfl)
@[simp]theorem Rs.fl_exc{α:Type}(x:PX)(h:PH)(f:α->PH->Fl):(Rs.exc x h:Rs α).fl f=.exc x h:=(rfl)
@[simp]theorem Rs.fl_bad{α:Type}(f:α->PH->Fl):(Rs.bad:Rs α).fl f=.bad:=(rfl)
section
variable{φ:C_ u_}{H:Hp}
theorem post.fl{r:Rs PV}{f:PV->PH->Fl}{D:Ends}(h:eV C φ H (r.fl f) D):post C φ H r λv H1=>∃φ1 p h1,φ<+:φ1/\Kp H H1/\RH C φ1 H1 h1/\RV C φ1 H1 p v/\eV C φ1 H1 (f p h1) D:=by
 cases r with
 |ok a h'=>exact λφ' v H' p t rh rv=>⟨φ',a,h',p,t,rh,rv,eV.weak p t h⟩
 |exc a h'=>exact h
 |bad=>exact h
theorem eF.fl{r:Rs Bool}{f:Bool->PH->Fl}{D:Ends}(h:eV C φ H (r.fl f) D):eF C φ H r λb H1=>∃φ1 h1,φ<+:φ1/\Kp H H1/\RH C φ1 H1 h1/\eV C φ1 H1 (f b h1) D:=by
 cases r with
 |ok a h'=>exact λφ' H' p t rh=>⟨φ',h',p,t,rh,eV.weak p t h⟩
 |exc a h'=>exact h
 |bad=>exact h
theorem eV.nx{δ:Ev}{h:PH}{D:Ends}{σ:St}(q:eV C φ H (.nx δ h) D)(rh:RH C φ H h)(re:RE C φ H δ σ):D.nx σ H:=q φ σ H Zm (Kp.refl H) rh re
theorem eV.rt{p:PV}{h:PH}{D:Ends}{v:V}(q:eV C φ H (.rt p h) D)(rh:RH C φ H h)(rv:RV C φ H p v):D.rt v H:=q φ v H Zm (Kp.refl H) rh rv
end
abbrev Mg:=PV->Ev->D_ Ev
abbrev Mgs:=C_ PV->Ev->D_ Ev
def rdG(C:MC)(t:Mg):TG:=λv σ H Q=>∃φ δ h p δ',RH C φ H h/\RE C φ H δ σ/\RV C φ H p v/\t p δ=a_ δ'/\∀σ',RE C φ H δ' σ'->Q σ' H
def Ww(C:MC)(t:Mgs):TGs:=λvs σ H Q=>∃φ δ h ps δ',RH C φ H h/\RE C φ H δ σ/\RVs C φ H ps vs/\t ps δ=a_ δ'/\∀σ',RE C φ H δ' σ'->Q σ' H
def SG(C:MC)(k:Nat)(X:Cx)(e:A_)(t:Mg):Prop:=Cxt C k X->PG X e (rdG C t)
def SGs(C:MC)(k:Nat)(X:Cx)(es:C_ A_)(t:Mgs):Prop:=Cxt C k X->PGs X es (Ww C t)
def gN(i:Nat):Mg:=λp δ=>a_ (δ.set i (a_ p))
def gNl:Mgs:=λps δ=>match ps with
 |[]=>a_ δ
 |_::_=>b_
def gCn(t:Mg)(u:Mgs):Mgs:=λps δ=>match ps with
 |p::r=>(t p δ).bind (u r)
 |[]=>b_
def gTp(n:Nat)(u:Mgs):Mg:=λp δ=>match p with
 |.tup ps=>if ps.length=n then u ps δ else b_
 |_=>b_
theorem PG.imp{e:A_}{t t':TG}(h:PG X e t)(i:∀v σ H Q,t' v σ H Q->t v σ H Q):PG X e t':=λFR s σ H v u Q I r q=>h FR s σ H v u Q I r (i v σ H Q q)
theorem PGs.imp{es:C_ A_}{t t':TGs}(h:PGs X es t)(i:∀v σ H Q,t' v σ H Q->t v σ H Q):PGs X es t':=λFR s σ H v u Q I r q=>h FR s σ H v u Q I r (i v σ H Q q)
def aV{i:Nat}{x:Str}{pos:Pos}(hN:X.N.Nodup)(hi:X.N[i]?=a_ x:=by rfl)(hx:Loc X.env.scope x:=by first|exact Or.inl rfl|exact Or.inr rfl)(hf:X.fn x=true\/X.env.scope.names.lookup x=a_ .local:=by first|exact .inl rfl|exact .inr rfl):SG C k X (.Name x pos) (gN i):=λc=>
 (OG hN hi hx hf).imp λv σ H Q h=>by
  let⟨φ,δ,h,p,δ',rh,re,rv,e,q⟩:=h;cases e
  exact q _ (re.set rv i)
def iH:SGs C k X [] gNl:=λc=>OH.imp λv σ H Q h=>by
 let⟨φ,δ,h,ps,δ',rh,re,rv,e,q⟩:=h;cases ps with
 |nil=>
  cases e
  cases v with
  |nil=>exact⟨rfl,q σ re⟩
  |cons=>exact rv.elim
 |cons=>cases e
def bI(h1:SG C k X e t)(h2:SGs C k X es u)(hs:(y1G (e::es) X.env).map (·.2)=assign e X.env::(y1G es X.env).map (·.2):=by rfl):SGs C k X (e::es) (gCn t u):=λc=>
 (L3 (h1 c) (h2 c) hs).imp λvs σ H Q h=>by
  let⟨φ,δ,h,ps,δ',rh,re,rv,e,q⟩:=h;cases ps with
  |nil=>cases e
  |cons p r=>
   cases vs with
   |nil=>exact rv.elim
   |cons v vs=>
    let⟨δ1,e1,e2⟩:=Option.bind_eq_some_iff.mp (show(t p δ).bind (u r)=a_ δ' from e)
    exact⟨v,vs,rfl,φ,δ,h,p,δ1,rh,re,rv.1,e1,λσ' qw=>⟨φ,δ1,h,r,δ',rh,qw,rv.2,e2,q⟩⟩
def iI{es:C_ A_}{j:Nat}{u:Mgs}{n:Nat}{pos:Pos}(h:SGs C k X es u)(hn:(y1G es X.env).length=n:=by rfl)(bc:(y1G es X.env).findIdx? (·.1)=b_:=by rfl):SG C k X (.Tuple es j pos) (gTp n u):=λc=>
 (gT C.K c.K c.calm (h c) hn bc).imp λv σ H Q h=>by
  let⟨φ,δ,h,p,δ',rh,re,rv,e,q⟩:=h;cases p with
  |tup ps=>
   let⟨a,vs,rfl,sa,ra⟩:=rv;by_cases hl:ps.length=n
   ·have e':u ps δ=a_ δ':=by have:(if ps.length=n then u ps δ else b_)=a_ δ':=e;rw[if_pos hl]at this;exact this
    exact⟨a,vs,rfl,sa,by rw[<-ra.length];exact hl,φ,δ,h,ps,δ',rh,re,ra,e',q⟩
   ·have:(if ps.length=n then u ps δ else b_)=a_ δ':=e;rw[if_neg hl]at this;cases this
  |_=>cases e
theorem PS.imp{st:B_}{t t':TS}(h:PS X st t)(i:∀D σ H,t' D σ H->t D σ H):PS X st t':=λFR s σ H D I q=>h FR s σ H D I (i D σ H q)
theorem PSs.imp{st:C_ B_}{t t':TS}(h:PSs X st t)(i:∀D σ H,t' D σ H->t D σ H):PSs X st t':=λFR s σ H D I q=>h FR s σ H D I (i D σ H q)
def bD(a b:Ms):Ms:=λδ h=>match a δ h with
 |.nx δ1 h1=>b δ1 h1
 |r=>r
def iA:Ms:=λδ h=>.nx δ h
def Wx:Ms:=λδ h=>.bk δ h
def Wy:Ms:=λδ h=>.ct δ h
def cY(i:Nat)(m:Me):Ms:=λδ h=>(m δ h).fl λp h1=>.nx (δ.set i (a_ p)) h1
def Ap(m:Me)(t:Mg):Ms:=λδ h=>(m δ h).fl λp h1=>match t p δ with
 |some δ'=>.nx δ' h1
 |none=>.bad
def gK(m:Me):Ms:=λδ h=>(m δ h).fl λ_ h1=>.nx δ h1
def dR(m:Me):Ms:=λδ h=>(m δ h).fl λp h1=>.rt p h1
def UE:Ms:=λ_ h=>.rt .non h
def fV(t:Ev->PH->Rs Bool)(a b:Ms):Ms:=λδ h=>(t δ h).fl λc h1=>match c with
 |true=>a δ h1
 |false=>b δ h1
section
variable{st:B_}{rest:C_ B_}{a b:Ms}{e:A_}{m:Me}{pos:Pos}
def eG:SSs C k X [] iA:=λc=>OC.imp λD σ H h=>by let⟨φ,δ,h,rh,re,p⟩:=h;exact p.nx rh re
def Sm{φ:C_ u_}{H:Hp}{r:Fl}{b:Ms}{D:Ends}(h:eV C φ H (match r with|.nx δ1 h1=>b δ1 h1|r=>r) D):eV C φ H r { D with nx:=rdS C b D}:=by
 cases r with
 |nx δ h'=>exact λφ' σ H' p t rh re=>⟨φ',δ,h',rh,re,eV.weak p t h⟩
 |rt p h'=>exact h
 |bk δ h'=>exact h
 |ct δ h'=>exact h
 |exc x h'=>exact h
 |bad=>exact h
def aF(h1:SSt C k X st a)(h2:SSs C k X rest b):SSs C k X (st::rest) (bD a b):=λc=>(L0 (h1 c) (h2 c)).imp λD σ H h=>by let⟨φ,δ,h,rh,re,p⟩:=h;exact⟨φ,δ,h,rh,re,Sm p⟩
def aN(h1:SSt C k X st a):SSs C k X [st] a:=λc=>OD (h1 c)
def cJ{i:Nat}{x:Str}{pos':Pos}(hN:X.N.Nodup)(he:SE C k X e m)(hi:X.N[i]?=a_ x:=by rfl)(hx:Loc X.env.scope x:=by first|exact Or.inl rfl|exact Or.inr rfl)(hs:swapsWith e (a_ (.Name x pos')) pos.line X.env=pure false:=by rfl)
  (hf:X.fn x=true\/X.env.scope.names.lookup x=a_ .local:=by first|exact .inl rfl|exact .inr rfl):SSt C k X (.Assign [.Name x pos'] e pos) (cY i m):=λc=>(Rt hN hi hx (he c) hs hf).imp λD σ H h=>by
 let⟨φ,δ,h,rh,re,p⟩:=h;refine⟨φ,δ,h,rh,re,(post.fl p).imp ?_⟩;rintro v H1 ⟨φ1,x,h1,p1,t1,aa,ab,q1⟩;exact q1.nx aa ((re.mono p1 t1).set ab i)
def wD{tg:A_}{t:Mg}(he:SE C k X e m)(hg:SG C k X tg t)(hs:swapsWithSole [tg] e pos.line X.env=pure false:=by rfl)(hw:swappedStores [tg] e X.env=pure b_:=by rfl)
  (h1:(y1G [tg] X.env).map (·.2)=[assign tg X.env]:=by rfl):SSt C k X (.Assign [tg] e pos) (Ap m t):=λc=>(Rr (he c) (hg c) hs hw h1).imp λD σ H h=>by
 let⟨φ,δ,h,rh,re,p⟩:=h;refine⟨φ,δ,h,rh,re,(post.fl p).imp ?_⟩;rintro v H1 ⟨φ1,x,h1,p1,t1,aa,ab,q1⟩;cases et:t x δ with
 |none=>rw[et]at q1;exact q1.elim
 |some δ'=>rw[et]at q1;exact⟨φ1,δ,h1,x,δ',aa,re.mono p1 t1,ab,et,λσ' qw=>q1.nx aa qw⟩
def eJ(he:SE C k X e m)(hs:swapsWith e b_ pos.line X.env=pure false:=by rfl):SSt C k X (.Expr e pos) (gK m):=λc=>(OF (he c) hs).imp λD σ H h=>by let⟨φ,δ,h,rh,re,p⟩:=h;refine⟨φ,δ,h,rh,re,(post.fl p).imp ?_⟩;rintro v H1 ⟨φ1,x,h1,p1,t1,aa,ab,q1⟩;exact q1.nx aa (re.mono p1 t1)
def cX(he:SE C k X e m):SSt C k X (.Return (a_ e) pos) (dR m):=λc=>(Rn (he c)).imp λD σ H h=>by let⟨φ,δ,h,rh,re,p⟩:=h;refine⟨φ,δ,h,rh,re,(post.fl p).imp ?_⟩;rintro v H1 ⟨φ1,x,h1,p1,t1,aa,ab,q1⟩;exact q1.rt aa ab
def kI{z0:A_}{as bs:C_ B_}{t:Ev->PH->Rs Bool}(hc:ST C k X z0 t)(ha:SSs C k X as a)(hb:SSs C k X bs b):SSt C k X (.If z0 as bs pos) (fV t a b):=λc=>(TZ (hc c) (ha c) (hb c)).imp λD σ H h=>by
 let⟨φ,δ,h,rh,re,p⟩:=h;refine⟨φ,δ,h,rh,re,(eF.fl p).imp ?_⟩;rintro d H1 ⟨φ1,h1,p1,t1,aa,q1⟩;cases d with
 |true=>exact JM ⟨φ1,δ,h1,aa,re.mono p1 t1,q1⟩
 |false=>exact JL ⟨φ1,δ,h1,aa,re.mono p1 t1,q1⟩
end
structure Wk where
 xs:C_ PV
 g:PH->Bool
def Kd(C:MC)(J:It)(w:Wk)(φ0:C_ u_)(H0:Hp):Prop:=∀φ H h,φ0<+:φ->Kp H0 H->RH C φ H h->w.g h=true->∀i:Nat,
 (i<w.xs.length->J.go i H/\∀x H',J.yld i H x H'->(∃p,w.xs[i]?=a_ p/\RV C φ H' p x)/\Kp H H'/\RH C φ H' h)/\(w.xs.length<=i->J.stop i H)
abbrev Mi:=Ev->PH->Rs Wk
def kY(C:MC)(φ:C_ u_)(H:Hp)(r:Rs Wk)(R:It->Hp->Prop):Prop:=match r with
 |.ok w h=>∀φ' H' J,φ<+:φ'->Kp H H'->RH C φ' H' h->Kd C J w φ' H'->R J H'
 |.exc x h=>∀φ' H',φ<+:φ'->Kp H H'->RH C φ' H' h->C.ex φ' H' x
 |.bad=>False
def rdI(C:MC)(m:Mi):TI:=λσ H R=>∃φ δ h,RH C φ H h/\RE C φ H δ σ/\kY C φ H (m δ h) R
def SI(C:MC)(k:Nat)(X:Cx)(tg iter:A_)(m:Mi):Prop:=Cxt C k X->PI X tg iter (rdI C m)
def uM(n:Nat)(xs:C_ PV)(h':PH):Bool:=match bO h' n with
 |some ys=>PV.beqs ys xs
 |none=>false
def ofSeq(x:PV)(h:PH):Rs Wk:=match x with
 |.tup xs=>.ok ⟨xs,λ_=>true⟩ h
 |.ref n=>match bO h n with
  |some xs=>.ok ⟨xs,uM n xs⟩ h
  |none=>.bad
 |.fl xs=>.ok ⟨xs,λ_=>true⟩ h
 |_=>.bad
def dE(m:Me):Mi:=λδ h=>(m δ h).bind ofSeq
def iJ(h:SE C k X iter m):SI C k X tg iter (dE m):=λc=>by
 intro FR s σ H R I q;let⟨φ,δ,hh,rh,re,p⟩:=q;have key:rd C m σ H λv H1=>∃φ1 x h1,φ<+:φ1/\Kp H H1/\RH C φ1 H1 h1/\RV C φ1 H1 x v/\kY C φ1 H1 (ofSeq x h1) R:=by
  refine⟨φ,δ,hh,rh,re,?_⟩;unfold dE at p;cases e:m δ hh with
  |ok x h1=>
   rw[e]at p;intro φ' v H' p' t' dh bf;refine⟨φ',x,h1,p',t',dh,bf,?_⟩
   show kY C φ' H' (ofSeq x h1) R
   have p0:kY C φ H (ofSeq x h1) R:=p;cases e2:ofSeq x h1 with
   |ok w h2=>rw[e2]at p0;exact λφ2 H2 J p2 t2=>p0 φ2 H2 J (p'.trans p2) (t'.trans t2)
   |exc z h2=>rw[e2]at p0;exact λφ2 H2 p2 t2=>p0 φ2 H2 (p'.trans p2) (t'.trans t2)
   |bad=>rw[e2]at p0;exact p0
  |exc x h1=>rw[e]at p;exact p
  |bad=>rw[e]at p;exact p
 refine thn (h c FR s σ H _ I key) λv s1 hz=>?_;let⟨x,H1,I1,r1,φ1,x',h1,p1,t1,aa,ab,q1⟩:=hz;unfold ofSeq at q1;cases x' with
 |tup xs=>
  let⟨a,vs,rfl,sa,ra⟩:=ab;cases r1
  rw[<-c.K]at sa;let⟨its,rv,p,hz⟩:=I1.tuple sa;refine wpAny_pyIter_tuple (show s1.heap.IsTuple a its.toArray from p) ?_
  refine⟨(e_ s1),[(e_ s1)],_,_,H1,rfl,I1.kept (t':=s1.toks) λb o e=>Ze _ e,GY a _,⟨_,Zj _ rfl,rfl,rfl⟩,λb hb=>?_,?_⟩
  ·have e:b=(e_ s1):=by simpa using hb
   subst e;exact I1.fpOk (Zi _) (I1.hok.fresh (Zi _))
  ·refine q1 φ1 H1 (Itt X.K a) Zm (Kp.refl H1) aa λφ2 H2 h2 p2 t2 aj _ i=>⟨λhi=>?_,λhi=>⟨vs,t2.sq sa,by rw[<-ra.length];exact hi⟩⟩;have ax:i<vs.length:=by rw[<-ra.length];exact hi
   refine⟨⟨vs,vs[i],t2.sq sa,by simp[ax]⟩,λx H' y=>?_⟩;let⟨e,y⟩:=y;subst e;let⟨x2,e2,r2⟩:=ra.get (y vs (t2.sq sa));exact⟨⟨x2,e2,r2.mono p2 t2⟩,Kp.refl _,aj⟩
 |ref n=>
  let⟨a,rfl,ha⟩:=ab;cases r1
  dsimp only at q1;cases e:bO h1 n with
  |none=>rw[e]at q1;exact q1.elim
  |some xs=>
   rw[e]at q1;let⟨a2,vs,ai,sa,ra⟩:=dB aa e;rw[ha]at ai;cases ai;have l9:SqL X.K H1 a vs:=by rw[c.K];exact sa
   let⟨its,rv,p,hz⟩:=I1.list l9;refine y16 p.isList ?_;refine⟨(e_ s1),[(e_ s1)],_,_,H1,rfl,I1.kept (t':=s1.toks) λb o e=>Ze _ e,D8 a _,⟨_,Zj _ rfl,rfl,rfl⟩,λb hb=>?_,?_⟩
   ·have e:b=(e_ s1):=by simpa using hb
    subst e;exact I1.fpOk (Zi _) (I1.hok.fresh (Zi _))
   ·refine q1 φ1 H1 (Itl X.K a) Zm (Kp.refl H1) aa λφ2 H2 h2 p2 t2 aj hg i=>?_;have hg:(match bO h2 n with|some ys=>PV.beqs ys xs|none=>false)=true:=hg
    cases e2:bO h2 n with
    |none=>rw[e2]at hg;cases hg
    |some ys=>
     rw[e2]at hg;have jz:=PV.beqs_eq hg;subst jz;let⟨a3,us,i3,su,ru⟩:=dB aj e2;rw[lH p2 ha]at i3;cases i3;rw[<-c.K]at su;refine⟨λhi=>?_,λhi=>⟨us,su,by rw[<-ru.length];exact hi⟩⟩;have ax:i<us.length:=by rw[<-ru.length];exact hi
     refine⟨⟨us,us[i],su,by simp[ax]⟩,λx H' y=>?_⟩;let⟨e,y⟩:=y;subst e;let⟨x2,e2,r2⟩:=ru.get (y us su);exact⟨⟨x2,e2,r2⟩,Kp.refl _,aj⟩
 |fl xs=>
  let⟨a,vs,rfl,sa,ra⟩:=ab;cases r1
  rw[<-c.K]at sa;let⟨its,rv,p,hz⟩:=I1.list sa.sq;refine y16 p.isList ?_;refine⟨(e_ s1),[(e_ s1)],_,_,H1,rfl,I1.kept (t':=s1.toks) λb o e=>Ze _ e,D8 a _,⟨_,Zj _ rfl,rfl,rfl⟩,λb hb=>?_,?_⟩
  ·have e:b=(e_ s1):=by simpa using hb
   subst e;exact I1.fpOk (Zi _) (I1.hok.fresh (Zi _))
  ·refine q1 φ1 H1 (Itl X.K a) Zm (Kp.refl H1) aa λφ2 H2 h2 p2 t2 aj _ i=>⟨λhi=>?_,λhi=>⟨vs,(t2.sf sa).sq,by rw[<-ra.length];exact hi⟩⟩;have ax:i<vs.length:=by rw[<-ra.length];exact hi
   refine⟨⟨vs,vs[i],(t2.sf sa).sq,by simp[ax]⟩,λx H' y=>?_⟩;let⟨e,y⟩:=y;subst e;let⟨x2,e2,r2⟩:=ra.get (y vs (t2.sf sa).sq);exact⟨⟨x2,e2,r2.mono p2 t2⟩,Kp.refl _,aj⟩
 |_=>exact q1.elim
def upTo(lo:Int):Nat->C_ PV
 |0=>[]
 |n+1=>.int lo::upTo (lo+1) n
theorem fR:∀(n:Nat)(lo:Int),(upTo lo n).length=n
 |0,_=>rfl
 |n+1,lo=>by simp[upTo,fR n]
theorem wF:∀(n:Nat)(lo:Int)(i:Nat),i<n->(upTo lo n)[i]?=d_ (lo+i)
 |0,_,_,h=>by omega
 |n+1,lo,0,_=>by simp[upTo]
 |n+1,lo,i+1,h=>by
  simp only[upTo,y0K];rw[wF n (lo+1) i ⋯];congr 2;omega
open Classical in
noncomputable def LZ:C_ PV->PH->Rs Wk:=λxs h=>match xs with
 |[.int j]=>if -(2 ^ 62)<=j/\j<2 ^ 62 then .ok ⟨upTo 0 j.toNat,λ_=>true⟩ h else .bad
 |_=>.bad
open Classical in
noncomputable def M0:C_ PV->PH->Rs Wk:=λxs h=>match xs with
 |[.int i,.int j]=>if -(2 ^ 62)<=i/\i<2 ^ 62/\-(2 ^ 62)<=j/\j<2 ^ 62 then .ok ⟨upTo i (j-i).toNat,λ_=>true⟩ h else .bad
 |_=>.bad
noncomputable def FU(ms:Ma):Mi:=λδ h=>(ms δ h).bind LZ
noncomputable def J3(ms:Ma):Mi:=λδ h=>(ms δ h).bind M0
def M3(lo:Int)(n:Nat)(φ:C_ u_)(H:Hp):Kd C (Itr lo n) ⟨upTo lo n,λ_=>true⟩ φ H:=λφ2 H2 h2 p2 t2 aj _ i=>by
 refine⟨λhi=>?_,λhi=>?_⟩
 ·have ax:i<n:=by rw[<-fR n lo];exact hi
  refine⟨ax,λx H' y=>?_⟩;let⟨e,y⟩:=y;subst e y;exact⟨⟨.int (lo+i),wF n lo i ax,rfl⟩,Kp.refl _,aj⟩
 ·have:(upTo lo n).length<=i:=hi;rw[fR]at this;exact this
theorem postA.bindI{r:Rs (C_ PV)}{f:C_ PV->PH->Rs Wk}{R:It->Hp->Prop}(h:kY C φ H (r.bind f) R):postA C φ H r λvs H1=>∃φ1 ps h1,φ<+:φ1/\Kp H H1/\RH C φ1 H1 h1/\RVs C φ1 H1 ps vs/\kY C φ1 H1 (f ps h1) R:=by
 cases r with
 |ok a h'=>
  intro φ' v H' p' t' rh rv;refine⟨φ',a,h',p',t',rh,rv,?_⟩;have p0:kY C φ H (f a h') R:=h;cases e2:f a h' with
  |ok w h2=>rw[e2]at p0;exact λφ2 H2 J p2 t2=>p0 φ2 H2 J (p'.trans p2) (t'.trans t2)
  |exc z h2=>rw[e2]at p0;exact λφ2 H2 p2 t2=>p0 φ2 H2 (p'.trans p2) (t'.trans t2)
  |bad=>rw[e2]at p0;exact p0
 |exc a h'=>exact h
 |bad=>exact h
theorem PI.imp(h:PI X tg iter t)(i:∀σ H R,t' σ H R->t σ H R):PI X tg iter t':=λFR s σ H R I q=>h FR s σ H R I (i σ H R q)
def M4{x:A_}{ms:Ma}{tg:A_}{p pos:Pos}(ha:SA C k X [x] ms)(hb:("range" : Str)∈C.bs:=by decide)(hg:Gl X "range" := by rfl)(hs:Zx [x] X.env=[(false,eval x X.env)]:=by rfl):SI C k X tg (.Call (.Name "range" p) [x] [] pos) (FU ms):=λc=>
 (pr1 hg (c.bn _ hb) (ha c) hs).imp λσ H R h=>by
  let⟨φ,δ,h,rh,re,p⟩:=h;refine⟨φ,δ,h,rh,re,(postA.bindI p).imp ?_⟩;rintro vs H1 ⟨φ1,xs,h1,p1,t1,aa,ab,q1⟩;unfold LZ at q1;split at q1
  ·let⟨v,rfl,rx⟩:=ab.one;cases rx
   rename_i j;by_cases hj:-(2 ^ 62)<=j/\j<2 ^ 62
   ·rw[if_pos hj]at q1;exact⟨hj,q1 φ1 H1 _ Zm (Kp.refl _) aa (M3 0 j.toNat φ1 H1)⟩
   ·rw[if_neg hj]at q1;exact q1.elim
  ·exact q1.elim
def Sn{x y:A_}{ms:Ma}{tg:A_}{p pos:Pos}(ha:SA C k X [x,y] ms)(hb:("range" : Str)∈C.bs:=by decide)(hg:Gl X "range" := by rfl)(hs:Zx [x,y] X.env=[(false,eval x X.env),(false,eval y X.env)]:=by rfl)(bz:Zx [y] X.env=[(false,eval y X.env)]:=by rfl):
  SI C k X tg (.Call (.Name "range" p) [x,y] [] pos) (J3 ms):=λc=>
 (pr2 hg (c.bn _ hb) (ha c) hs bz).imp λσ H R h=>by
  let⟨φ,δ,h,rh,re,p⟩:=h;refine⟨φ,δ,h,rh,re,(postA.bindI p).imp ?_⟩;rintro vs H1 ⟨φ1,xs,h1,p1,t1,aa,ab,q1⟩;unfold M0 at q1;split at q1
  ·let⟨v,w,rfl,rx,ry⟩:=ab.two;cases rx;cases ry;rename_i i j;by_cases hj:-(2 ^ 62)<=i/\i<2 ^ 62/\-(2 ^ 62)<=j/\j<2 ^ 62
   ·rw[if_pos hj]at q1;exact⟨hj,q1 φ1 H1 _ Zm (Kp.refl _) aa (M3 i (j-i).toNat φ1 H1)⟩
   ·rw[if_neg hj]at q1;exact q1.elim
  ·exact q1.elim
def kZ(g:PH->Bool)(tg:Mg)(body:Ms):C_ PV->Ev->PH->Fl
 |[],δ,h=>if g h=true then .nx δ h else .bad
 |x::xs,δ,h=>if g h=true then(match tg x δ with
  |none=>.bad
  |some δ1=>match body δ1 h with
   |.nx δ2 h2=>kZ g tg body xs δ2 h2
   |.ct δ2 h2=>kZ g tg body xs δ2 h2
   |.bk δ2 h2=>.nx δ2 h2
   |r=>r) else .bad
def kJ(mi:Mi)(tg:Mg)(body:Ms):Ms:=λδ h=>(mi δ h).fl λw h1=>kZ w.g tg body w.xs δ h1
theorem kY.fl{φ:C_ u_}{H:Hp}{r:Rs Wk}{f:Wk->PH->Fl}{D:Ends}(h:eV C φ H (r.fl f) D):kY C φ H r λJ H1=>∃φ1 w h1,φ<+:φ1/\Kp H H1/\RH C φ1 H1 h1/\Kd C J w φ1 H1/\eV C φ1 H1 (f w h1) D:=by
 cases r with
 |ok a h'=>exact λφ' H' J p t rh wk=>⟨φ',a,h',p,t,rh,wk,eV.weak p t h⟩
 |exc a h'=>exact h
 |bad=>exact h
theorem kY.imp{Q Q':It->Hp->Prop}(h:kY C φ H r Q)(i:∀v H',Q v H'->Q' v H'):kY C φ H r Q':=by
 cases r with
 |ok a h'=>exact λφ' H' J p t rh wk=>i J H' (h φ' H' J p t rh wk)
 |exc a h'=>exact h
 |bad=>exact h
def drop_cons{α:Type}{xs:C_ α}{i:Nat}{p:α}(h:xs[i]?=a_ p):xs.drop i=p::xs.drop (i+1):=by let⟨h1,h2⟩:=Zc.mp h;rw[List.drop_eq_getElem_cons h1,h2]
def Pf{J:It}{w:Wk}{φ0:C_ u_}{H0:Hp}{tg:Mg}{body:Ms}{D:Ends}{σ:St}{δ:Ev}{h:PH}(wk:Kd C J w φ0 H0)(rh:RH C φ0 H0 h)(re:RE C φ0 H0 δ σ)(p:eV C φ0 H0 (kZ w.g tg body w.xs δ h) D):
  ∃W:Nat->Nat->St->Hp->Prop,(∃m,W 0 m σ H0)/\∀i m σ H,W i m σ H->
   (J.stop i H/\D.nx σ H)\/(J.go i H/\∃N:St->Hp->Prop,(∀σ' H',N σ' H'->∃m',m'<m/\W (i+1) m' σ' H')/\∀x H',J.yld i H x H'->rdG C tg x σ H' λσ2 H2=>rdS C body { D with nx:=N,ct:=N,bk:=D.nx} σ2 H2):=by
 refine⟨λi m σ H=>m=w.xs.length-i/\i<=w.xs.length/\∃φ δ h,φ0<+:φ/\Kp H0 H/\RH C φ H h/\RE C φ H δ σ/\eV C φ H (kZ w.g tg body (w.xs.drop i) δ h) D,
  ⟨w.xs.length,by simp,ZO _,φ0,δ,h,Zm,Kp.refl _,rh,re,by rw[List.drop_zero];exact p⟩,?_⟩
 rintro i m σ H ⟨rfl,hi,φ,δ,h,pp,tt,rh,re,p⟩;by_cases af:i<w.xs.length
 ·have hd:w.xs.drop i=w.xs[i]::w.xs.drop (i+1):=drop_cons (by simp[af]);rw[hd]at p;unfold kZ at p;by_cases hg:w.g h=true
  ·rw[if_pos hg]at p;let⟨go,step⟩:=(wk φ H h pp tt rh hg i).1 af;refine .inr ⟨go,λσ' H'=>∃φ δ h,φ0<+:φ/\Kp H0 H'/\RH C φ H' h/\RE C φ H' δ σ'/\eV C φ H' (kZ w.g tg body (w.xs.drop (i+1)) δ h) D,λσ' H' ⟨φ',δ',h',q⟩=>⟨w.xs.length-(i+1),⋯,rfl,af,φ',δ',h',q⟩,λx H' y=>?_⟩;let⟨⟨q,eq,rv⟩,t1,aa⟩:=step x H' y;have vb:w.xs[i]=q:=by
    have:w.xs[i]?=a_ w.xs[i]:=by simp[af]
    rw[this]at eq;exact ZI eq
   rw[vb]at p;cases et:tg q δ with
   |none=>rw[et]at p;exact p.elim
   |some δ1=>
    rw[et]at p;dsimp only at p;refine⟨φ,δ,h,q,δ1,aa,re.mono Zm t1,rv,et,λσ2 qt=>⟨φ,δ1,h,aa,qt,?_⟩⟩;have p:=eV.weak Zm t1 p;cases eb:body δ1 h with
    |nx δ2 h2=>rw[eb]at p;exact λφ3 σ3 H3 p3 t3 d6 tw=>⟨φ3,δ2,h2,pp.trans p3,(tt.trans t1).trans t3,d6,tw,eV.weak p3 t3 p⟩
    |ct δ2 h2=>rw[eb]at p;exact λφ3 σ3 H3 p3 t3 d6 tw=>⟨φ3,δ2,h2,pp.trans p3,(tt.trans t1).trans t3,d6,tw,eV.weak p3 t3 p⟩
    |bk δ2 h2=>rw[eb]at p;exact p
    |rt z h2=>rw[eb]at p;exact p
    |exc z h2=>rw[eb]at p;exact p
    |bad=>rw[eb]at p;exact p
  ·rw[if_neg hg]at p;exact p.elim
 ·have e:i=w.xs.length:=⋯;subst e;rw[List.drop_length]at p;unfold kZ at p;by_cases hg:w.g h=true
  ·rw[if_pos hg]at p;exact .inl ⟨(wk φ H h pp tt rh hg _).2 (Zi _),p.nx rh re⟩
  ·rw[if_neg hg]at p;exact p.elim
def oK{tg iter:A_}{body:C_ B_}{mi:Mi}{t:Mg}{mb:Ms}{pos:Pos}(hi:SI C k X tg iter mi)(hg:SG C k X tg t)(hb:SSs C k X body mb)(hp:PassesOwn (h_ X) X.A X.env X.xe:=by exact PassesOwn.never)
  (hs:∀x,y1w iter X.env x=pure x:=by intro _;rfl):SSt C k X (.For tg iter body [] pos) (kJ mi t mb):=λc=>(Ru hp c.calm (hi c) (hg c) (hb c) hs).imp λD σ H h=>by
 let⟨φ,δ,h,rh,re,p⟩:=h;refine⟨φ,δ,h,rh,re,(kY.fl p).imp ?_⟩;rintro J H1 ⟨φ1,w,h1,p1,t1,aa,wk,q1⟩;exact Pf wk aa (re.mono p1 t1) q1
end L2
namespace L2
variable{C:MC}{k:Nat}{X:Cx}
def kK(js:C_ (D_ Nat))(δ:Ev):Ev:=js.map λo=>match o with
 |none=>b_
 |some j=>Ee δ j
theorem J4:∀{σ:St}{i:Nat}{v:V},σ[i]?=a_ (a_ v)->Hn σ i=a_ v
 |[],_,_,h=>by simp at h
 |x::_,0,v,h=>by
  have:x=a_ v:=by simpa using h
  exact this
 |_::r,n+1,v,h=>J4 (σ:=r) (i:=n) (l_ h)
theorem RE.cap(re:RE C φ H δ σ)(js:C_ (D_ Nat)):RE C φ H (kK js δ) (oV js σ):=by
 refine⟨by simp[kK,oV],λi p e=>?_⟩;unfold kK at e;unfold oV;rw[Zr]at e⊢;cases q:js[i]? with
 |none=>rw[q]at e;cases e
 |some o=>
  rw[q]at e;cases o with
  |none=>cases e
  |some j=>let⟨v,hv,rv⟩:=re.2 j p (Bb (ZI e));exact⟨v,by show a_ (Hn σ j)=_;rw[J4 hv],rv⟩
def qR(g:PH->Bool)(tg:Mg)(tst:Ev->PH->Rs Bool)(elt:Me)(δ0:Ev)(n:Nat):C_ PV->PH->Rs PV
 |[],h=>if g h=true then .ok (.ref n) h else .bad
 |x::xs,h=>if g h=true then(match tg x δ0 with
  |none=>.bad
  |some δ1=>(tst δ1 h).bind λb h1=>match b with
   |false=>qR g tg tst elt δ0 n xs h1
   |true=>(elt δ1 h1).bind λp h2=>match iD h2 n with
    |some ys=>if ys.length<Zq then qR g tg tst elt δ0 n xs (h2.set n (.lst (ys++[p]))) else .bad
    |none=>.bad) else .bad
def eZ(js:C_ (D_ Nat))(mi:Mi)(tg:Mg)(tst:Ev->PH->Rs Bool)(elt:Me):Me:=λδ h=>(mi δ h).bind λw h1=>qR w.g tg tst elt (kK js δ) h1.length w.xs (h1++[.lst []])
def nD:Ev->PH->Rs Bool:=λ_ h=>.ok true h
def STs(C:MC)(k:Nat)(X:Cx)(es:C_ A_)(m:Ev->PH->Rs Bool):Prop:=Cxt C k X->PTs X es (rdB C m)
def pC:STs C k X [] nD:=λc FR s σ H Q I h=>by let⟨φ,δ,h,rh,re,p⟩:=h;exact OV FR s σ H Q I (p.val rh)
def M5{m:Ev->PH->Rs Bool}(h:ST C k X e m):STs C k X [e] m:=λc=>OW (h c)
theorem kY.bind{r:Rs Wk}{f:Wk->PH->Rs PV}(h:post C φ H (r.bind f) Q):kY C φ H r λJ H1=>∃φ1 w h1,φ<+:φ1/\Kp H H1/\RH C φ1 H1 h1/\Kd C J w φ1 H1/\post C φ1 H1 (f w h1) Q:=by
 cases r with
 |ok a h'=>exact λφ' H' J p t rh wk=>⟨φ',a,h',p,t,rh,wk,post.weak p t h⟩
 |exc a h'=>exact h
 |bad=>exact h
def M6{J:It}{w:Wk}{φ0:C_ u_}{H0:Hp}{tg:Mg}{tst:Ev->PH->Rs Bool}{elt:Me}{Q:VK}{σ:St}{δ:Ev}{h:PH}{js:C_ (D_ Nat)}(wk:Kd C J w φ0 H0)(rh:RH C φ0 H0 h)(re:RE C φ0 H0 δ σ)
  (p:post C φ0 H0 (qR w.g tg tst elt (kK js δ) h.length w.xs (h++[.lst []])) Q) (acc:u_) (ag:H0 acc=b_):
  ∃W:Nat->Nat->Hp->Prop,(∃m,W 0 m (upd H0 acc (.lst [])))/\∀i m H2,W i m H2->
   (J.stop i H2/\Q (.ref acc) H2)\/(J.go i H2/\∃N:Hp->Prop,(∀H',N H'->∃m',m'<m/\W (i+1) m' H')/\∀x H3,J.yld i H2 x H3->QO js (rdG C tg) (rdB C tst) (rd C elt) σ acc x H3 N):=by
 have hlen:(φ0++[acc])[h.length]?=a_ acc:=by rw[<-rh.len];simp
 refine⟨λi m H=>m=w.xs.length-i/\i<=w.xs.length/\∃φ h',(φ0++[acc])<+:φ/\Kp H0 H/\RH C φ H h'/\post C φ H (qR w.g tg tst elt (kK js δ) h.length (w.xs.drop i) h') Q,
  ⟨w.xs.length,by simp,ZO _,φ0++[acc],h++[.lst []],Zm,Kp.new ag,rh.new (o:=.lst []) ag ⟨[],bX,trivial⟩,by rw[List.drop_zero];exact post.weak (y0k _ _) (Kp.new ag) p⟩,?_⟩
 rintro i m H ⟨rfl,hi,φ,h',pp,tt,dh,p⟩;have uq:φ0<+:φ:=(y0k _ _).trans pp;by_cases af:i<w.xs.length
 ·have hd:w.xs.drop i=w.xs[i]::w.xs.drop (i+1):=drop_cons (by simp[af]);rw[hd]at p;unfold qR at p;by_cases hg:w.g h'=true
  ·rw[if_pos hg]at p;let⟨go,step⟩:=(wk φ H h' uq tt dh hg i).1 af;refine .inr ⟨go,λH'=>∃φ h',(φ0++[acc])<+:φ/\Kp H0 H'/\RH C φ H' h'/\post C φ H' (qR w.g tg tst elt (kK js δ) h.length (w.xs.drop (i+1)) h') Q,λH' ⟨φ',h',q⟩=>⟨w.xs.length-(i+1),⋯,rfl,af,φ',h',q⟩,λx H' y=>?_⟩;let⟨⟨q,eq,rv⟩,t1,aa⟩:=step x H' y;have vb:w.xs[i]=q:=by
    have:w.xs[i]?=a_ w.xs[i]:=by simp[af]
    rw[this]at eq;exact ZI eq
   rw[vb]at p;cases et:tg q (kK js δ) with
   |none=>rw[et]at p;exact p.elim
   |some δ1=>
    rw[et]at p;have Yz:RE C φ H' (kK js δ) (oV js σ):=(re.mono uq (tt.trans t1)).cap js;refine⟨φ,kK js δ,h',q,δ1,aa,Yz,rv,et,λσ2 qt=>⟨φ,δ1,h',aa,qt,(eF.bind (post.weak Zm t1 p)).imp ?_⟩⟩;rintro b H5 ⟨φ5,h5,p5,t5,rh5,q5⟩;cases b with
    |false=>exact JL ⟨φ5,h5,pp.trans p5,(tt.trans t1).trans t5,rh5,q5⟩
    |true=>
     refine JM ⟨φ5,δ1,h5,rh5,qt.mono p5 t5,(post.bind q5).imp ?_⟩;rintro v H6 ⟨φ6,z,h6,p6,t6,rh6,rv6,q6⟩;cases e6:iD h6 h.length with
     |none=>rw[e6]at q6;exact q6.elim
     |some ys=>
      rw[e6]at q6;let⟨hz,q6⟩:=q6.ite;have hφ:φ6[h.length]?=a_ acc:=lH ((pp.trans p5).trans p6) hlen;let⟨vs,hH,d9⟩:=rh6.at' h.length acc _ hφ (oI e6);refine⟨vs,hH,by rw[<-d9.length];exact hz,φ6,h6.set h.length (.lst (ys++[z])),(pp.trans p5).trans p6,(((tt.trans t1).trans t5).trans t6).trans (Kp.lst hH),
       rh6.write hφ (by rw[hH];trivial) ⟨vs++[v],bX,(d9.snoc rv6).mono Zm (Kp.lst hH)⟩,post.weak Zm (Kp.lst hH) q6⟩
  ·rw[if_neg hg]at p;exact p.elim
 ·have e:i=w.xs.length:=⋯;subst e;rw[List.drop_length]at p;unfold qR at p;by_cases hg:w.g h'=true
  ·rw[if_pos hg]at p;exact .inl ⟨(wk φ H h' uq tt dh hg _).2 (Zi _),p.val dh ⟨acc,rfl,lH pp hlen⟩⟩
  ·rw[if_neg hg]at p;exact p.elim
def J5{tst:Ev->PH->Rs Bool}(h:rd C (eZ js mi tg tst elt) σ H Q):IP js (rdI C mi) (rdG C tg) (rdB C tst) (rd C elt) σ H Q:=by let⟨φ,δ,h,rh,re,p⟩:=h;refine⟨φ,δ,h,rh,re,(kY.bind p).imp ?_⟩;rintro J H1 ⟨φ1,w,h1,p1,t1,aa,wk,q1⟩;intro acc ag;exact M6 wk aa (re.mono p1 t1) q1 acc ag
section
variable{elt iter tg:A_}{ifs:C_ A_}{sc:Scope}{pos:Pos}{os:Scope}{oN N:C_ Str}{js:C_ (D_ Nat)}{mi:Mi}{g:Mg}{tt:Ev->PH->Rs Bool}{me:Me}
def pD(fg:X.env.scope=os)(gh:X.N=oN)(ok:uI os oN sc N js=true)(hi:SI C k X tg iter mi)
  (hg:∀C' fp s₀ H₀,SG C k (X.comp sc N C' fp s₀ H₀) tg g) (ht:∀C' fp s₀ H₀,STs C k (X.comp sc N C' fp s₀ H₀) ifs tt) (he:∀C' fp s₀ H₀,SE C k (X.comp sc N C' fp s₀ H₀) elt me)
  (hs:∀x,y1w iter X.env x=pure x:=by intro _;rfl):SE C k X (.ListComp elt [⟨tg,iter,ifs,0⟩] sc pos) (eZ js mi g tt me):=λc=>
 (OX c.calm fg gh ok (hi c) (λa b s H=>hg a b s H (c.comp sc N a b s H)) (λa b s H=>ht a b s H (c.comp sc N a b s H)) (λa b s H=>he a b s H (c.comp sc N a b s H)) hs).imp λσ H Q h=>J5 h
def Dx{i:Nat}{x:Str}{pos' ft:Pos}(hN:X.N.Nodup)(c6:X.N[i]?=a_ x)(gj:X.env.scope.names.lookup x=a_ .local)(fg:X.env.scope=os)(gh:X.N=oN)(ok:uI os oN sc N js=true)(hi:SI C k X tg iter mi)
  (hg:∀C' fp s₀ H₀,SG C k (X.comp sc N C' fp s₀ H₀) tg g) (ht:∀C' fp s₀ H₀,STs C k (X.comp sc N C' fp s₀ H₀) ifs tt) (he:∀C' fp s₀ H₀,SE C k (X.comp sc N C' fp s₀ H₀) elt me)
  (u7:swapsWith (.ListComp elt [⟨tg,iter,ifs,0⟩] sc pos) (a_ (.Name x pos')) ft.line X.env=pure true:=by rfl)
  (hs:∀x,y1w iter X.env x=pure x:=by intro _;rfl):SSt C k X (.Assign [.Name x pos'] (.ListComp elt [⟨tg,iter,ifs,0⟩] sc pos) ft) (cY i (eZ js mi g tt me)):=λc=>
 (Ho hN c6 gj c.calm fg gh ok (hi c) (λa b s H=>hg a b s H (c.comp sc N a b s H)) (λa b s H=>ht a b s H (c.comp sc N a b s H)) (λa b s H=>he a b s H (c.comp sc N a b s H)) u7 hs).imp λD σ H h=>by let⟨φ,δ,h,rh,re,p⟩:=h;refine J5 ⟨φ,δ,h,rh,re,(post.fl p).imp ?_⟩;rintro v H1 ⟨φ1,x,h1,p1,t1,aa,ab,q1⟩;exact q1.nx aa ((re.mono p1 t1).set ab i)
end
def mFn(N:Nat)(body:Ms):Fn:=λargs h=>match body (args.map a_++ZW (N-args.length) b_) h with
 |.nx _ h'=>.ok .non h'
 |.rt p h'=>.ok p h'
 |.exc x h'=>.exc x h'
 |_=>.bad
def RE.start{ps:C_ PV}(r:RVs C φ H ps vs)(N:C_ Str):RE C φ H (ps.map a_++ZW (N.length-ps.length) b_) (start N vs):=by
 unfold L2.start;refine⟨by simp[r.length],λi p e=>?_⟩;by_cases hi:i<ps.length
 ·rw[y0n (l_ hi),Zr]at e;rw[y0n (by simpa[<-r.length] using hi),Zr]
  cases q:ps[i]? with
  |none=>rw[q]at e;cases e
  |some x=>
   rw[q]at e;cases e
   let⟨v,hv,rv⟩:=r.at q;exact⟨v,by rw[hv];rfl,rv⟩
 ·rw[y1F (l_ hi)]at e;rw[List.getElem?_replicate]at e;split at e
  ·cases e
  ·cases e
def cZ{P:z_}{mg:o_ 0}{base:x_}{x qual:Str}{st:B_}{f:u_}{fd:ZL}{N ps:C_ Str}{body:Ms}(hex:∀φ H x,¬ C.ex φ H x)(hbn:∀x∈C.bs,mg x=b_)
  (F:Fun C.K x qual st f fd) (S:bF N ps (aK st))
  (hb:∀(cdv:s_)(A:w_)(outer:C_ Env)(s:t_)(H:Hp)(E:XK),SSs C k (Hj CX0 P C.w C.K mg base N qual (aK st) f cdv A outer s H E).nox (fU st) body):
  bR P C.w C.K mg base CX0 (k+1) f fd ps (spM C ps.length (mFn N.length body)):=by
 refine F.ok S (λvs H Q E h=>?_) (λcdv A outer s H vs Q E hr h=>?_)
 ·let⟨φ,h,xs,rh,rv,hl,_⟩:=h;rw[<-rv.length];exact hl
 ·let⟨φ,h,xs,rh,rv,hl,p⟩:=h;refine⟨_,hb cdv A outer s H E ⟨rfl,rfl,hr,hbn,rfl⟩,φ,xs.map a_++ZW (N.length-xs.length) b_,h,rh,RE.start rv N,?_⟩;unfold mFn at p;cases e:body (xs.map a_++ZW (N.length-xs.length) b_) h with
  |nx δ h'=>rw[e]at p;exact λφ' σ' H' pp tt dh qw=>p φ' .non H' pp tt dh rfl
  |rt z h'=>rw[e]at p;exact p
  |exc z h'=>rw[e]at p;exact λφ' H' pp tt dh=>(hex _ _ _ (p φ' H' pp tt dh)).elim
  |bk δ h'=>rw[e]at p;exact p.elim
  |ct δ h'=>rw[e]at p;exact p.elim
  |bad=>rw[e]at p;exact p.elim
def So{ns:C_ Int}(hO:Ll H)(ho:SqL C.K H a (ns.map V.int))(hf:∃h,f [.fl (ns.map PV.int)] []=.ok (.bl true) h)(hQ:∀H',Q (.bl true) H'):spM C 1 f [.ref a] H Q E:=by
 have r0:∀ns:C_ Int,RVs C [] H (ns.map PV.int) (ns.map V.int):=by
  intro ns
  induction ns with
  |nil=>trivial
  |cons n ns ih=>exact⟨rfl,ih⟩
 have hs:SqF C.K H a (ns.map V.int):=by
  rcases ho with(h|⟨o,h⟩)|h
  ·rcases hO a with z|⟨o,xs,z⟩
   ·rw[z]at h;cases h
   ·rw[z]at h;cases h
  ·exact .inl ⟨o,h⟩
  ·exact .inr h
 refine⟨[],[],[.fl (ns.map PV.int)],⟨rfl,by simp,λn b ob h1 h2=>by simp at h1⟩,⟨⟨a,_,rfl,hs,r0 ns⟩,trivial⟩,rfl,?_⟩;let⟨h,e⟩:=hf;rw[e];intro φ' v H' _ _ _ rv;cases rv
 exact hQ H'
end L2
namespace L2
variable{C:MC}{k:Nat}{X:Cx}
def tyN(x:PV)(h:PH):D_ String:=match x with
 |.non=>a_ "NoneType"
 |.bl _=>a_ "bool"
 |.int _=>a_ "int"
 |.str _=>a_ "str"
 |.tup _=>a_ "tuple"
 |.fl _=>a_ "list"
 |.ref n=>match h[n]? with
  |some (.lst _)=>a_ "list"
  |some (.dK _)=>a_ "dict"
  |_=>b_
 |.ty _=>b_
def qS(t c:String):Bool:=t == c || (t == "bool" && c == "int")
def known:C_ String:=["int","str","bool","list","tuple","dict"]
def Sq{K:Zf}{t c:String}(ht:t∈"NoneType" :: known)(hc:c∈known):y2j K (.type t) (.type c)=a_ (qS t c):=by simp only[known,Zs,y0w,or_false]at ht hc;rcases ht with rfl|rfl|rfl|rfl|rfl|rfl|rfl <;> rcases hc with rfl|rfl|rfl|rfl|rfl|rfl <;> rfl
def Bk:C_ PV->PH->Rs PV:=λxs h=>match xs with
 |[x,.ty c]=>match tyN x h with
  |some t=>if c∈known then .ok (.bl (qS t c)) h else .bad
  |none=>.bad
 |_=>.bad
def M7(hK:X.K=C.K):eD X (.builtin "isinstance") (λxs H Q=>∃x c t b,xs=[x,.ty c]/\(yJ C.K H x (.type t)\/(∃a vs,x=.ref a/\SqT C.K H a vs/\t="tuple")\/(∃a vs,x=.ref a/\SqL C.K H a vs/\t="list"))/\y2j C.K (.type t) (.type c)=a_ b/\Q (.bl b) H):=by
 intro FR s σ H xs us Q I r h;let⟨x,c,t,b,rfl,ty,e,q⟩:=h;let⟨u,v,rfl,ru,rv⟩:=vals2 r;cases rv
 rw[<-hK]at e ty;rcases ty with ty|⟨a,vs,rfl,sa,rfl⟩|⟨a,vs,rfl,sa,rfl⟩
 ·exact D9 I ru ty e λtk=>⟨.bl b,H,I.tok tk,rfl,q⟩
 ·cases ru
  let⟨its,_,⟨o,h1,h2,_⟩,_⟩:=I.tuple sa;exact y0u PySem.W.kitx_tuple I.kIn ⟨o,h1,h2⟩ e (λz=>nomatch z) λtk=>⟨.bl b,H,I.tok tk,rfl,q⟩
 ·cases ru
  let⟨its,_,⟨o,n,h1,h2,_⟩,_⟩:=I.list sa;exact y0u PySem.W.kitx_list I.kIn ⟨o,h1,h2⟩ e (λz=>nomatch z) λtk=>⟨.bl b,H,I.tok tk,rfl,q⟩
def wG:rP C k X (.builtin "isinstance") Bk:=λc=>(M7 c.K).imp λvs H Q h=>by
 let⟨φ,h,ps,rh,rv,po⟩:=h;unfold Bk at po;split at po
 ·rename_i x n;let⟨v,w,rfl,rx,ry⟩:=rv.two;cases ry
  split at po
  ·rename_i t ht;let⟨hn,po⟩:=po.ite;have fin:∀{t:String},t∈"NoneType" :: known->post C φ H (.ok (.bl (qS t n)) h) Q->y2j C.K (.type t) (.type n)=a_ (qS t n)/\Q (.bl (qS t n)) H:=λhm po=>⟨Sq hm hn,po.val rh rfl⟩;unfold tyN at ht;cases x with
   |non=>cases ht;cases rx;exact⟨_,n,_,_,rfl,.inl .non,fin nofun po⟩
   |bl b=>cases ht;cases rx;exact⟨_,n,_,_,rfl,.inl (.bl _),fin nofun po⟩
   |int b=>cases ht;cases rx;exact⟨_,n,_,_,rfl,.inl (.int _),fin nofun po⟩
   |str b=>cases ht;cases rx;exact⟨_,n,_,_,rfl,.inl (.str _),fin nofun po⟩
   |tup xs=>
    cases ht
    let⟨a,vs,rfl,sa,ra⟩:=rx;exact⟨_,n,_,_,rfl,.inr (.inl ⟨a,vs,rfl,sa,rfl⟩),fin nofun po⟩
   |fl xs=>
    cases ht
    let⟨a,vs,rfl,sa,ra⟩:=rx;exact⟨_,n,_,_,rfl,.inr (.inr ⟨a,vs,rfl,sa.sq,rfl⟩),fin nofun po⟩
   |ref m=>
    let⟨a,rfl,ha⟩:=rx;dsimp only at ht;split at ht
    ·rename_i xs hx;cases ht
     let⟨vs,hH,ra⟩:=rh.at' m a _ ha hx;exact⟨_,n,_,_,rfl,.inl (.lst hH),fin nofun po⟩
    ·rename_i xs hx;cases ht
     let⟨vs,hH,ra⟩:=rh.at' m a _ ha hx;exact⟨_,n,_,_,rfl,.inl (.dK hH),fin nofun po⟩
    ·cases ht
   |ty z=>cases ht
  ·exact po.elim
 ·exact po.elim
def M8:C_ PV->PH->Rs PV:=λxs h=>match xs with
 |[.int i,.int j]=>.ok (.int (if j<i then j else i)) h
 |_=>.bad
def UF:rP C k X (.builtin "min") M8:=λc=>(JE c.calm).imp λvs H Q h=>by
 let⟨φ,h,ps,rh,rv,po⟩:=h;unfold M8 at po;split at po
 ·let⟨v,w,rfl,rx,ry⟩:=rv.two;cases rx;cases ry;exact⟨_,_,rfl,po.val rh rfl⟩
 ·exact po.elim
def mMt(ty:PV->PH->Bool)(g:PV->C_ PV->PH->Rs PV)(mo:Me)(ms:Ma):Me:=λδ h=>(mo δ h).bind λx h1=>if ty x h1=true then(ms δ h1).bind λps h2=>g x ps h2 else .bad
def Ej(ty:PV->PH->Bool)(g:PV->C_ PV->PH->Rs PV)(mo:Me):Me:=λδ h=>(mo δ h).bind λx h1=>if ty x h1=true then g x [] h1 else .bad
def rM(C:MC)(g:PV->C_ PV->PH->Rs PV):V->C_ V->Hp->VK->Prop:=λx xs H Q=>∃φ h p ps,RH C φ H h/\RV C φ H p x/\RVs C φ H ps xs/\post C φ H (g p ps h) Q
def MtS(C:MC)(k:Nat)(X:Cx)(T:String)(ty:PV->PH->Bool)(id:String)(g:PV->C_ PV->PH->Rs PV):Prop:=Cxt C k X->MtR X id (rM C g)/\∀φ H h p x,RH C φ H h->RV C φ H p x->ty p h=true->tyV C.K T x H
section
variable{o e:A_}{es:C_ A_}{mo:Me}{ms:Ma}{name:Str}{apos cpos:Pos}{T id:String}{ty:PV->PH->Bool}{g:PV->C_ PV->PH->Rs PV}
def HG(pa:PlainAttrs T)(slot:Slot T name id)(d8:typeOf (.builtin id)=pure (.type "method_descriptor"))(hm:MtS C k X T ty id g)(ho:SE C k X o mo)(ha:SA C k X (e::es) ms)
  (ak:y1c o name X.env (eval o X.env)=eval o X.env:=by rfl)
  (fh:((backTo cpos (Zx (e::es) X.env)).all (λx=>!x.1)&&(backToKw cpos (keywordEach [] X.env)).all (λx=>x.1.isSome)
   && decide ((e::es).length+([]:C_ Keyword).length+(if([]:C_ Keyword).isEmpty then 0 else 1)<30))=true:=by rfl)
  (ao:(apos.endLine == cpos.line)=true:=by rfl) (hs:Zx (e::es) X.env=(false,eval e X.env)::Zx es X.env:=by rfl) (bo:(backTo cpos (Zx es X.env)).any (·.1)=false:=by rfl):
  SE C k X (.Call (.Attribute o name apos) (e::es) [] cpos) (mMt ty g mo ms):=λc=>(Uc pa slot d8 (hm c).1 (ho c) (ha c) ak fh ao hs bo).imp λσ H Q h=>by
 let⟨φ,δ,h,rh,re,p⟩:=h;refine⟨φ,δ,h,rh,re,(post.bind p).imp ?_⟩;rintro v H1 ⟨φ1,x,h1,p1,t1,aa,ab,q1⟩;let⟨ht,q1⟩:=q1.ite;refine⟨by rw[c.K];exact(hm c).2 φ1 H1 h1 x v aa ab ht,φ1,δ,h1,aa,re.mono p1 t1,(postA.bind q1).imp ?_⟩;rintro vs H2 ⟨φ2,xs,h2,p2,t2,aj,br,q2⟩;exact⟨φ2,h2,x,xs,aj,ab.mono p2 t2,br,q2⟩
def J6(pa:PlainAttrs T)(slot:Slot T name id)(d8:typeOf (.builtin id)=pure (.type "method_descriptor"))(hm:MtS C k X T ty id g)(ho:SE C k X o mo)
  (ak:y1c o name X.env (eval o X.env)=eval o X.env:=by rfl) (ao:(apos.endLine == cpos.line)=true:=by rfl):SE C k X (.Call (.Attribute o name apos) [] [] cpos) (Ej ty g mo):=λc=>(RP pa slot d8 (hm c).1 (ho c) ak ao).imp λσ H Q h=>by
 let⟨φ,δ,h,rh,re,p⟩:=h;refine⟨φ,δ,h,rh,re,(post.bind p).imp ?_⟩;rintro v H1 ⟨φ1,x,h1,p1,t1,aa,ab,q1⟩;let⟨ht,q1⟩:=q1.ite;exact⟨by rw[c.K];exact(hm c).2 φ1 H1 h1 x v aa ab ht,φ1,h1,x,[],aa,ab,trivial,q1⟩
end
theorem MtR.imp{id:String}{r r':V->C_ V->Hp->VK->Prop}(h:MtR X id r)(i:∀x xs H Q,r' x xs H Q->r x xs H Q):MtR X id r':=λFR s σ H x xs v us Q I rx rs q=>h FR s σ H x xs v us Q I rx rs (i x xs H Q q)
def isL(x:PV)(h:PH):Bool:=match x with
 |.ref n=>(iD h n).isSome
 |_=>false
def M9(rh:RH C φ H h)(rv:RV C φ H p x)(e:isL p h=true):tyV C.K "list" x H:=by
 cases p with
 |ref n=>
  let⟨a,rfl,ha⟩:=rv;let⟨xs,hx⟩:=y13.mp (show(iD h n).isSome=true from e)
  let⟨vs,hH,ra⟩:=rh.at' n a _ ha (oI hx);exact .inl ⟨rfl,vs,SqL.of hH⟩
 |_=>cases e
def onL(f:C_ PV->C_ PV->D_ (PV×C_ PV)):PV->C_ PV->PH->Rs PV:=λx ps h=>match x with
 |.ref n=>match iD h n with
  |some xs=>match f xs ps with
   |some (r,ys)=>.ok r (h.set n (.lst ys))
   |none=>.bad
  |none=>.bad
 |_=>.bad
def Mb{f:C_ PV->C_ PV->D_ (PV×C_ PV)}(h:rM C (onL f) x xs H Q):∃φ l ps ys vs r zs,x=.ref l/\H l=a_ (.lst vs)/\RVs C φ H ys vs/\RVs C φ H ps xs/\f ys ps=a_ (r,zs)/\
  ∀(v:V)(ws:C_ V),RV C φ H r v->RVs C φ H zs ws->Q v (upd H l (.lst ws)):=by
 let⟨φ,h,p,ps,rh,rx,rs,po⟩:=h;unfold onL at po;cases p with
 |ref n=>
  let⟨a,rfl,ha⟩:=rx;dsimp only at po;cases e:iD h n with
  |none=>rw[e]at po;exact po.elim
  |some ys=>
   rw[e]at po;dsimp only at po;let⟨vs,hH,ra⟩:=rh.at' n a _ ha (oI e);cases ef:f ys ps with
   |none=>rw[ef]at po;exact po.elim
   |some rz=>rw[ef]at po;let⟨r,zs⟩:=rz;exact⟨φ,a,ps,ys,vs,r,zs,rfl,hH,ra,rs,ef,λv ws rv bu=>po.lset rh ha hH bu rv⟩
 |_=>exact po.elim
def fD:C_ PV->C_ PV->D_ (PV×C_ PV):=λxs ps=>match ps with
 |[p]=>if xs.length<Zq then a_ (.non,xs++[p]) else b_
 |_=>b_
def pE:C_ PV->C_ PV->D_ (PV×C_ PV):=λxs ps=>match ps with
 |[]=>a_ (.non,[])
 |_=>b_
def Ke:MtR X "list.append" (rM C (onL fD)):=MtR.imp (show MtR X "list.append" IK from Dh) λx xs H Q h=>by
 let⟨φ,l,ps,ys,vs,r,zs,rfl,hH,ra,rs,ef,q⟩:=Mb h;unfold fD at ef;split at ef
 ·split at ef
  ·rename_i hz;cases ef
   let⟨v,rfl,rx⟩:=rs.one;exact⟨l,vs,v,rfl,rfl,hH,by rw[<-ra.length];exact hz,q .non _ rfl (ra.snoc rx)⟩
  ·cases ef
 ·cases ef
def lZ:MtS C k X "list" isL "list.append" (onL fD):=λc=>⟨Ke,λφ H h p x rh rv e=>M9 rh rv e⟩
def Mc:MtR X "list.clear" (rM C (onL pE)):=MtR.imp (show MtR X "list.clear" Lj from Lk) λx xs H Q h=>by
 let⟨φ,l,ps,ys,vs,r,zs,rfl,hH,ra,rs,ef,q⟩:=Mb h;unfold pE at ef;split at ef
 ·cases ef
  have:xs=[]:=by cases xs <;> first|rfl|exact rs.elim
  subst this;exact⟨l,vs,rfl,rfl,hH,q .non _ rfl trivial⟩
 ·cases ef
def AA:MtS C k X "list" isL "list.clear" (onL pE):=λc=>⟨Mc,λφ H h p x rh rv e=>M9 rh rv e⟩
def UG(K:Zf):R2:=λx y H Q=>∃a b ys,x=.ref a/\y=.ref b/\SqT K H a []/\SqT K H b ys/\Q (.ref b) H
def Pg:OpR X (y0Q .Add) (UG X.K):=by
 intro FR s σ H x y v u Q I rx ry h;let⟨a,b,ys,rfl,rfl,ha,hb,q⟩:=h;cases rx
 cases ry
 let⟨its,r1,p1,_⟩:=I.tuple ha;let⟨fc,r2,p2,_⟩:=I.tuple hb;cases r1
 let⟨⟨cls,dd,data,sl⟩,ho,hc,n,hd⟩:=id p1;let⟨⟨nr,iw,data2,iu⟩,gf,dq,n2,hd2⟩:=id p2;simp only at hc hd dq hd2;subst hc hd dq hd2;exact concat_meets ⟨_,ho,rfl⟩ ⟨_,gf,rfl⟩ noFill_tuple_add seq_tuple_add PySem.F.slot_tuple_add PySem.F.entry_tuple_add (PySem.F.args_tuple_add_2 _ _)
   (tuple_addW0 a b ([]:C_ s_).toArray fc.toArray n n2 dd iw sl iu (by simp)) ⟨ho,gf,⟨.ref b,H,I,rfl,q⟩⟩
def cN:PV->PV->PH->Rs PV:=λx y h=>match x,y with
 |.tup [],.tup ys=>.ok (.tup ys) h
 |x,y=>LO x y h
def eI:OpS C k X (y0Q .Add) cN:=λc=>((Uu c).or (by have:=Pg (X:=X);rw[c.K]at this;exact this)).imp λx y H Q h=>by
 let⟨φ,h,p,q,rh,rx,ry,po⟩:=h;unfold cN at po;split at po
 ·let⟨a,vs,rfl,sa,ra⟩:=rx;let⟨b,us,rfl,sb,rb⟩:=ry;have:vs=[]:=by cases vs <;> first|rfl|exact ra.elim
  subst this;exact .inr ⟨a,b,us,rfl,rfl,sa,sb,po.val rh ⟨b,us,rfl,sb,rb⟩⟩
 ·exact .inl ⟨φ,h,p,q,rh,rx,ry,po⟩
end L2
namespace L2
open PySem
@[irreducible]def Rs.W{α:Type}(r:Rs α)(Q:α->PH->Prop):Prop:=match r with
 |.ok a h=>Q a h
 |_=>False
structure FE where
 nx:Ev->PH->Prop
 rt:PV->PH->Prop
 bk:Ev->PH->Prop:=λ_ _=>False
 ct:Ev->PH->Prop:=λ_ _=>False
@[irreducible]def Fl.W(r:Fl)(E:FE):Prop:=match r with
 |.nx δ h=>E.nx δ h
 |.rt p h=>E.rt p h
 |.bk δ h=>E.bk δ h
 |.ct δ h=>E.ct δ h
 |_=>False
@[irreducible]def Lt(b:Ms)(E:FE)(δ:Ev)(h:PH):Prop:=(b δ h).W E
section
unseal Rs.W Fl.W Lt
variable{α β:Type}{Q:α->PH->Prop}{E:FE}{δ:Ev}{h:PH}
@[simp]theorem iX:(Rs.ok a h).W Q=Q a h:=(rfl)
@[simp]theorem X7:(Fl.nx δ h).W E=E.nx δ h:=(rfl)
@[simp]theorem X8:(Fl.rt p h).W E=E.rt p h:=(rfl)
@[simp]theorem X9:(Fl.bk δ h).W E=E.bk δ h:=(rfl)
@[simp]theorem X':(Fl.ct δ h).W E=E.ct δ h:=(rfl)
@[simp]theorem Ek{Q:β->PH->Prop}{r:Rs α}{f:α->PH->Rs β}:(r.bind f).W Q=r.W λa h=>(f a h).W Q:=by cases r <;> rfl
@[simp]theorem Kf{r:Rs α}{f:α->PH->Fl}:(r.fl f).W E=r.W λa h=>(f a h).W E:=by cases r <;> rfl
def Md{Q':α->PH->Prop}{r:Rs α}(h:r.W Q)(i:∀a h,Q a h->Q' a h):r.W Q':=by cases r <;> first|exact i _ _ h|exact h
@[simp]theorem WY{c:Prop}[Decidable c]{x y:Rs α}:(if c then x else y).W Q=if c then x.W Q else y.W Q:=by split <;> rfl
@[simp]theorem WZ:(Rs.bad:Rs α).W Q=False:=(rfl)
@[simp]theorem Wz:Fl.bad.W E=False:=(rfl)
def dY{r:Rs α}(w:r.W Q):∃a h,r=.ok a h/\Q a h:=by
 cases r with
 |ok a h=>exact⟨a,h,rfl,w⟩
 |exc=>exact w.elim
 |bad=>exact w.elim
variable{a b:Ms}{m ma mb mc:Me}{t ta tb:Ev->PH->Rs Bool}{g g':PV->PV->PH->Rs PV}
def El:(bD a b δ h).W E=(a δ h).W { E with nx:=λδ h=>(b δ h).W E}:=by
 show(match a δ h with|.nx δ1 h1=>b δ1 h1|r=>r).W E=_
 cases a δ h <;> rfl
def aQ:(bD a b δ h).W E=(a δ h).W { E with nx:=Lt b E}:=by
 show(match a δ h with|.nx δ1 h1=>b δ1 h1|r=>r).W E=_
 cases a δ h <;> rfl
def now(w:(b δ h).W E):Lt b E δ h:=w
@[simp]theorem UH:(iA δ h).W E=E.nx δ h:=(rfl)
@[simp]theorem X0:(Wx δ h).W E=E.bk δ h:=(rfl)
@[simp]theorem X1:(Wy δ h).W E=E.ct δ h:=(rfl)
@[simp]theorem qT:(cY i m δ h).W E=(m δ h).W λp h=>E.nx (δ.set i (a_ p)) h:=by simp[cY]
@[simp]theorem X2{t:Mg}:(Ap m t δ h).W E=(m δ h).W λp h=>∃δ',t p δ=a_ δ'/\E.nx δ' h:=by
 unfold Ap;cases m δ h with
 |ok p h1=>
  show(match t p δ with|some δ'=>Fl.nx δ' h1|none=>.bad).W E=∃δ',t p δ=a_ δ'/\E.nx δ' h1
  cases t p δ <;> simp[Fl.W]
 |exc=>rfl
 |bad=>rfl
@[simp]theorem Mf:(gK m δ h).W E=(m δ h).W λ_ h=>E.nx δ h:=by simp[gK]
@[simp]theorem Bl:(dR m δ h).W E=(m δ h).W E.rt:=by simp[dR]
@[simp]theorem WA:(UE δ h).W E=E.rt .non h:=(rfl)
@[simp]theorem cH:(fV t a b δ h).W E=(t δ h).W λc h=>if c=true then(a δ h).W E else(b δ h).W E:=by
 unfold fV;rw[Kf];congr;funext c h;cases c <;> simp
@[simp]theorem UI:mV i δ h=match Ee δ i with|some p=>.ok p h|none=>.bad:=(rfl)
@[simp]theorem X3:mC p δ h=.ok p h:=(rfl)
@[simp]theorem wH:aG g ma mb δ h=(ma δ h).bind λx h1=>(mb δ h1).bind λy h2=>g x y h2:=(rfl)
@[simp]theorem WB{g:PV->PH->Rs PV}:mUn g ma δ h=(ma δ h).bind g:=(rfl)
@[simp]theorem Vz:dQ m δ h=(m δ h).bind tru:=(rfl)
@[simp]theorem UJ:wC t δ h=(t δ h).bind λb h1=>.ok (!b) h1:=(rfl)
@[simp]theorem UK:IX ta tb δ h=(ta δ h).bind λb h1=>if b=true then tb δ h1 else .ok false h1:=by unfold IX;congr 1;funext b h1;cases b <;> simp
@[simp]theorem VA:Ef ta tb δ h=(ta δ h).bind λb h1=>if b=true then .ok true h1 else tb δ h1:=by unfold Ef;congr 1;funext b h1;cases b <;> simp
def bl2(x:PV)(f g:Rs PV):Rs PV:=match x with
 |.bl true=>f
 |.bl false=>g
 |_=>.bad
@[simp]theorem WC{b:Bool}{f g:Rs PV}:bl2 (.bl b) f g=if b=true then f else g:=by cases b <;> simp[bl2]
@[simp]theorem Mh:Bh ma mb δ h=(ma δ h).bind λx h1=>bl2 x (mb δ h1) (.ok (.bl false) h1):=by unfold Bh;first|rfl|(congr 1;funext x h1;cases x <;> first|rfl|(rename_i b;cases b <;> rfl))
@[simp]theorem UL:IY ma δ h=(ma δ h).bind λx h1=>bl2 x (.ok (.bl false) h1) (.ok (.bl true) h1):=by unfold IY;congr 1;funext x h1;cases x <;> first|rfl|(rename_i b;cases b <;> rfl)
@[simp]theorem VB:Kc g g' ma mb mc δ h=(ma δ h).bind λx h1=>(mb δ h1).bind λy h2=>(g x y h2).bind λz h3=>bl2 z ((mc δ h3).bind λw h4=>(g' y w h4).bind LU) (.ok (.bl false) h3):=by unfold Kc;first|rfl|(congr 1;funext x h1;congr 1;funext y h2;congr 1;funext z h3;cases z <;> first|rfl|(rename_i b;cases b <;> rfl))
@[simp]theorem UM{b:Bool}:LU (.bl b) h=.ok (.bl b) h:=(rfl)
@[simp]theorem J7:bH ms δ h=(ms δ h).bind λxs h1=>if xs.length<=Zq then .ok (.tup xs) h1 else .bad:=(rfl)
@[simp]theorem Em:eY ms δ h=(ms δ h).bind λxs h1=>if xs.length<=Zq then .ok (.ref h1.length) (h1++[.lst xs]) else .bad:=(rfl)
@[simp]theorem Tx:Bi δ h=.ok (.ref h.length) (h++[.dK []]):=(rfl)
@[simp]theorem fE:aD δ h=.ok [] h:=(rfl)
@[simp]theorem Bm:aA m ms δ h=(m δ h).bind λx h1=>(ms δ h1).bind λxs h2=>.ok (x::xs) h2:=(rfl)
@[simp]theorem WD{g:C_ PV->PH->Rs PV}:mCB g ms δ h=(ms δ h).bind g:=(rfl)
@[simp]theorem UN:eW n f ms δ h=(ms δ h).bind λps h1=>if ps.length=n then f ps h1 else .bad:=(rfl)
@[simp]theorem VC:Eg δ h=.ok b_ h:=(rfl)
def Mj(x:PV)(h:PH):Rs (D_ Int):=match x with
 |.int i=>.ok (a_ i) h
 |_=>.bad
@[simp]theorem Sr:Mj (.int i) h=.ok (a_ i) h:=(rfl)
@[simp]theorem X4:mP m δ h=(m δ h).bind Mj:=(rfl)
@[simp]theorem WE:mSl m ml mh δ h=(m δ h).bind λx h1=>(ml δ h1).bind λl h2=>(mh δ h2).bind λu h3=>vSl x l u h3:=(rfl)
@[simp]theorem WG{ty:PV->PH->Bool}{g:PV->C_ PV->PH->Rs PV}:mMt ty g m ms δ h=(m δ h).bind λx h1=>if ty x h1=true then(ms δ h1).bind λps h2=>g x ps h2 else .bad:=(rfl)
@[simp]theorem VD{ty:PV->PH->Bool}{g:PV->C_ PV->PH->Rs PV}:Ej ty g m δ h=(m δ h).bind λx h1=>if ty x h1=true then g x [] h1 else .bad:=(rfl)
@[simp]theorem lI:Zq=16777216:=by rw[y0b]
def Ph(c:(-18446744073709551616<i/\i<18446744073709551616)\/(-18446744073709551616<j/\j<18446744073709551616)):FQ (.int i) (.int j) h=.ok (.int (i*j)) h:=by
 show(if Ft i j then _ else _)=_
 exact if_pos c
@[simp]theorem UO(c:(-18446744073709551616<i/\i<18446744073709551616)\/(-18446744073709551616<j/\j<18446744073709551616)):vInt Ft (λi j=>i*j) (.int i) (.int j) h=.ok (.int (i*j)) h:=Ph c
@[simp]theorem VE(c:0<j/\j<1073741824):vInt L5 (λi j=>i/j) (.int i) (.int j) h=.ok (.int (i/j)) h:=if_pos c
@[simp]theorem VF(c:0<j):vInt (λ_ j=>0<j) (λi j=>i%j) (.int i) (.int j) h=.ok (.int (i%j)) h:=if_pos c
@[simp]theorem VG{j:Int}(c:0<=j/\j<=1000000/\-18446744073709551616<i/\i<18446744073709551616):vInt JC (λi j=>i ^ j.toNat) (.int i) (.int j) h=.ok (.int (i ^ j.toNat)) h:=by
 show(if JC i j then _ else _)=_
 refine if_pos ⟨c.1,c.2.1,?_⟩;let⟨_,_,h1,h2⟩:=c;omega
@[simp]theorem VH:K9 (.int i) (.int j) h=.ok (.int (i-j)) h:=(rfl)
@[simp]theorem VI:Wu (.int i) h=.ok (.int (-i)) h:=(rfl)
@[simp]theorem Tz:cN (.int i) (.int j) h=.ok (.int (i+j)) h:=(rfl)
@[simp]theorem TB{x y:Str}(c:x.length+y.length<=16777216):cN (.str x) (.str y) h=.ok (.str (x++y)) h:=if_pos c
@[simp]theorem Kg{xs ys:C_ PV}(c:xs.length+ys.length<=16777216):cN (.tup xs) (.tup ys) h=.ok (.tup (xs++ys)) h:=by
 cases xs with
 |nil=>rfl
 |cons x xs=>exact if_pos ⟨rfl,c⟩
@[simp]theorem UP{f:Int->Int->Bool}{g:C_ Nat->C_ Nat->Bool}:FT f g (.int i) (.int j) h=.ok (.bl (f i j)) h:=(rfl)
@[simp]theorem UQ{f:Int->Int->Bool}{g:C_ Nat->C_ Nat->Bool}{i j:Str}:FT f g (.str i) (.str j) h=.ok (.bl (g i.cps.toList j.cps.toList)) h:=(rfl)
@[simp]theorem WH{b:Bool}:tru (.bl b) h=.ok b h:=(rfl)
@[simp]theorem VJ:tru .non h=.ok false h:=(rfl)
@[simp]theorem VL:tru (.int i) h=.ok (i != 0) h:=(rfl)
@[simp]theorem VM{xs:C_ PV}:tru (.tup xs) h=.ok (!xs.isEmpty) h:=(rfl)
@[simp]theorem UR:ofO (a_ p) h=.ok p h:=(rfl)
@[simp]theorem US{b:Bool}:ofB (a_ b) h=.ok (.bl b) h:=(rfl)
@[simp]theorem VN:vIx (.tup xs) (.int i) h=ofO (atI xs i) h:=(rfl)
@[simp]theorem WI:vIx (.fl xs) (.int i) h=ofO (atI xs i) h:=(rfl)
def jW(e:h[n]?=a_ (.lst xs)):vIx (.ref n) (.int i) h=ofO (atI xs i) h:=by simp[vIx,bO,e]
@[simp]theorem VO{z:Str}(c:z.length<=16777216):vIx (.str z) (.int i) h=ofO ((atI z.cps.toList i).map λc=>.str ⟨#[c]⟩) h:=if_pos c
@[simp]theorem UT{xs:C_ PV}:pB [.tup xs] h=.ok (.int xs.length) h:=(rfl)
@[simp]theorem VP{xs:C_ PV}:pB [.fl xs] h=.ok (.int xs.length) h:=(rfl)
@[simp]theorem UU{x:Str}(c:x.length<=16777216):pB [.str x] h=.ok (.int x.length) h:=if_pos c
def FV{xs:C_ PV}(e:h[n]?=a_ (.lst xs)):pB [.ref n] h=.ok (.int xs.length) h:=by simp[pB,bO,e]
@[simp]theorem VQ:M8 [.int i,.int j] h=.ok (.int (if j<i then j else i)) h:=(rfl)
@[simp]theorem VR:UD [.int i,.int j] h=.ok (.int (if j>i then j else i)) h:=(rfl)
@[simp]theorem UV:Bk [.int i,.ty c] h=if c∈known then .ok (.bl (qS "int" c)) h else .bad:=(rfl)
@[simp]theorem UW:Bk [.str i,.ty c] h=if c∈known then .ok (.bl (qS "str" c)) h else .bad:=(rfl)
@[simp]theorem VS:Bk [.bl i,.ty c] h=if c∈known then .ok (.bl (qS "bool" c)) h else .bad:=(rfl)
@[simp]theorem UX:Bk [.tup i,.ty c] h=if c∈known then .ok (.bl (qS "tuple" c)) h else .bad:=(rfl)
def Ml(e:h[n]?=a_ (.lst xs)):Bk [.ref n,.ty c] h=if c∈known then .ok (.bl (qS "list" c)) h else .bad:=by simp[Bk,tyN,e]
def jX(e:h[n]?=a_ (.lst xs)):isL (.ref n) h=true:=by simp[isL,iD,e]
def jE{xs:C_ PV}(e:h[n]?=a_ (.lst xs))(c:xs.length<16777216):onL fD (.ref n) [p] h=.ok .non (h.set n (.lst (xs++[p]))):=by simp[onL,iD,e,fD,c]
def J8{α:Type}{xs:C_ α}{i:Int}(h0:0<=i)(h1:i<xs.length):atI xs i=xs[i.toNat]?:=by unfold atI ixN;rw[if_pos h0,if_pos h1];rfl
theorem yU{g:PH->Bool}{E:FE}(I:Nat->Ev->PH->Prop):∀(xs:C_ PV)(k:Nat)(δ:Ev)(h:PH),I k δ h->
  (∀i x δ h,k<=i->xs[i-k]?=a_ x->I i δ h->g h=true/\∃δ1,tg x δ=a_ δ1/\(body δ1 h).W { nx:=I (i+1),ct:=I (i+1),rt:=E.rt,bk:=E.nx})->
  (∀δ h,I (k+xs.length) δ h->g h=true/\E.nx δ h)->(kZ g tg body xs δ h).W E
 |[],k,δ,h,i0,_,fin=>by let⟨h1,h2⟩:=fin δ h i0;simp[kZ,h1,h2]
 |x::xs,k,δ,h,i0,step,fin=>by
  let⟨h1,δ1,h2,h3⟩:=step k x δ h (Zi _) (by simp) i0;have go:∀δ2 h2,I (k+1) δ2 h2->(kZ g tg body xs δ2 h2).W E:=λδ2 h2 i2=>
   yU I xs (k+1) δ2 h2 i2 (λi y δ h hk hy=>step i y δ h ⋯ (by
    have:i-k=(i-(k+1))+1:=⋯;rw[this,y0K];exact hy)) (λδ h hi=>fin δ h (by
    have e:k+(x::xs).length=k+1+xs.length:=by simp;omega
    rw[e];exact hi))
  unfold kZ;rw[if_pos h1,h2]
  show Fl.W (match body δ1 h with|.nx δ2 h2=>kZ g tg body xs δ2 h2|.ct δ2 h2=>kZ g tg body xs δ2 h2|.bk δ2 h2=>.nx δ2 h2|r=>r) E
  cases e:body δ1 h with
  |nx δ2 h2=>rw[e]at h3;exact go δ2 h2 h3
  |ct δ2 h2=>rw[e]at h3;exact go δ2 h2 h3
  |bk δ2 h2=>rw[e]at h3;exact h3
  |rt p h2=>rw[e]at h3;exact h3
  |exc=>rw[e]at h3;exact h3
  |bad=>rw[e]at h3;exact h3
def Mm{j:Int}(I:Nat->Ev->PH->Prop)(e:ms δ h=.ok [.int j] h)(hj:-4611686018427387904<=j/\j<4611686018427387904)(h0:I 0 δ h)(step:∀(q:Nat) δ h,(q:Int)<j->I q δ h->(body (δ.set i (d_ q)) h).W { nx:=I (q+1),ct:=I (q+1),rt:=E.rt,bk:=E.nx})(fin:∀δ h,I j.toNat δ h->E.nx δ h):(kJ (FU ms) (gN i) body δ h).W E:=by
 unfold kJ FU;rw[e];have jk:-(2 ^ 62)<=j/\j<2 ^ 62:=hj;simp only[Rs.bind_ok,LZ,if_pos jk,Rs.fl_ok];refine yU I _ 0 δ h h0 (λq x δ h _ hx hi=>?_) (λδ h hi=>⟨rfl,fin δ h (by rw[fR,Nat.zero_add]at hi;exact hi)⟩);have hq:q<j.toNat:=by have:=(Zc.mp hx).1;rw[fR]at this;omega
 rw[y2E,wF _ _ _ hq]at hx;cases hx
 refine⟨rfl,_,rfl,?_⟩;rw[Int.zero_add];exact step q δ h ⋯ hi
def Ss{ms:Ma}{i:Nat}{body:Ms}{lo j:Int}(I:Nat->Ev->PH->Prop)(e:ms δ h=.ok [.int lo,.int j] h)(hj:-4611686018427387904<=lo/\lo<4611686018427387904/\-4611686018427387904<=j/\j<4611686018427387904)(h0:I 0 δ h)
  (step:∀(q:Nat) δ h,lo+(q:Int)<j->I q δ h->(body (δ.set i (d_ (lo+q))) h).W { nx:=I (q+1),ct:=I (q+1),rt:=E.rt,bk:=E.nx})
  (fin:∀δ h,I (j-lo).toNat δ h->E.nx δ h):(kJ (J3 ms) (gN i) body δ h).W E:=by
 unfold kJ J3;rw[e];have jk:-(2 ^ 62)<=lo/\lo<2 ^ 62/\-(2 ^ 62)<=j/\j<2 ^ 62:=hj;simp only[Rs.bind_ok,M0,if_pos jk,Rs.fl_ok];refine yU I _ 0 δ h h0 (λq x δ h _ hx hi=>?_) (λδ h hi=>⟨rfl,fin δ h (by rw[fR,Nat.zero_add]at hi;exact hi)⟩);have hq:q<(j-lo).toNat:=by have:=(Zc.mp hx).1;rw[fR]at this;omega
 rw[y2E,wF _ _ _ hq]at hx;cases hx
 exact⟨rfl,_,rfl,step q δ h ⋯ hi⟩
def Mn{xs:C_ PV}(I:Nat->Ev->PH->Prop)(e:m δ h=.ok (.tup xs) h\/m δ h=.ok (.fl xs) h)(h0:I 0 δ h)(step:∀(q:Nat) x δ h,xs[q]?=a_ x->I q δ h->∃δ1,tg x δ=a_ δ1/\(body δ1 h).W { nx:=I (q+1),ct:=I (q+1),rt:=E.rt,bk:=E.nx})(fin:∀δ h,I xs.length δ h->E.nx δ h):(kJ (dE m) tg body δ h).W E:=by
 have go:(kZ (λ_=>true) tg body xs δ h).W E:=yU I _ 0 δ h h0 (λq x δ h _ hx hi=>⟨rfl,step q x δ h (l_ hx) hi⟩) (λδ h hi=>⟨rfl,fin δ h (l_ hi)⟩);unfold kJ dE;rcases e with e|e <;> rw[e] <;> exact go
def uN{xs:C_ PV}{h1:PH}(I:Nat->Ev->PH->Prop)(e:m δ h=.ok (.ref n) h1)(hn:h1[n]?=a_ (.lst xs))(h0:I 0 δ h1)(keep:∀q δ h,q<=xs.length->I q δ h->h[n]?=a_ (.lst xs))(step:∀(q:Nat) x δ h,xs[q]?=a_ x->I q δ h->∃δ1,tg x δ=a_ δ1/\(body δ1 h).W { nx:=I (q+1),ct:=I (q+1),rt:=E.rt,bk:=E.nx})(fin:∀δ h,I xs.length δ h->E.nx δ h):(kJ (dE m) tg body δ h).W E:=by
 have hk:∀{h:PH},h[n]?=a_ (.lst xs)->uM n xs h=true:=λ{h} e=>by
  have e3:bO h n=a_ xs:=by unfold bO;rw[e]
  unfold uM;rw[e3];exact PV.beqs_self xs
 unfold kJ dE;rw[e];have e2:ofSeq (.ref n) h1=.ok ⟨xs,uM n xs⟩ h1:=by
  have e3:bO h1 n=a_ xs:=by unfold bO;rw[hn]
  unfold ofSeq;simp only[e3]
 rw[Rs.bind_ok,e2,Rs.fl_ok];refine yU I _ 0 δ h1 h0 (λq x δ h _ hx hi=>?_) (λδ h hi=>?_)
 ·have c6:xs[q]?=a_ x:=by simpa using hx
  have:=(Zc.mp c6).1;exact⟨hk (keep q δ h ⋯ hi),step q x δ h c6 hi⟩
 ·have ax:I xs.length δ h:=by simpa using hi
  exact⟨hk (keep _ δ h (Zi _) ax),fin δ h ax⟩
def fW{args:C_ PV}{Q:PV->PH->Prop}(w:(body (args.map a_++ZW (N-args.length) b_) h).W { nx:=λ_ h=>Q .non h,rt:=Q}):(mFn N body args h).W Q:=by
 unfold mFn;cases e:body (args.map a_++ZW (N-args.length) b_) h with
 |nx δ h'=>rw[e]at w;exact w
 |rt p h'=>rw[e]at w;exact w
 |_=>rw[e]at w;exact w.elim
@[simp]theorem X5:gN i p δ=a_ (δ.set i (a_ p)):=(rfl)
@[simp]theorem WJ{ps:C_ PV}:gTp n u (.tup ps) δ=if ps.length=n then u ps δ else b_:=(rfl)
@[simp]theorem WK{t:Mg}{u:Mgs}{p:PV}{r:C_ PV}:gCn t u (p::r) δ=(t p δ).bind (u r):=(rfl)
@[simp]theorem WL:gNl [] δ=a_ δ:=(rfl)
end
def Ext(h h':PH):Prop:=∀(n:Nat)(o:MO),h[n]?=a_ o->h'[n]?=a_ o
theorem Ext.refl(h:PH):Ext h h:=λ_ _ e=>e
theorem Ext.trans{h h1 h2:PH}(a:Ext h h1)(b:Ext h1 h2):Ext h h2:=λn o e=>b n o (a n o e)
theorem Ext.app(h g:PH):Ext h (h++g):=λn o e=>by rw[y0n (Zc.mp e).1];exact e
theorem Ext.len{h h':PH}(e:Ext h h'):h.length<=h'.length:=by
 rcases Nat.lt_or_ge h'.length h.length with z|z
 ·have:h[h'.length]?=a_ h[h'.length]:=by simp[z]
  have:=(Zc.mp (e _ _ this)).1;omega
 ·exact z
def aU{h:PH}:(h++[o])[h.length]?=a_ o:=by simp
def gU{h:PH}(e:h[n]?=a_ o):(h.set n o')[n]?=a_ o':=y09 (Zc.mp e).1
def PV.pl:Nat->PV->Bool
 |_,.non=>true
 |_,.int _=>true
 |_,.str _=>true
 |n+1,.tup xs=>xs.all (PV.pl n)
 |_,_=>false
def J9{x:PV}(h1:x.d=a_ d)(h2:PV.ds xs=a_ ds):PV.ds (x::xs)=a_ (d::ds):=by simp[PV.ds,h1,h2]
def UY(h:PV.ds xs=a_ ds):(PV.tup xs).d=a_ (.tup ds):=by simp[PV.d,h]
def dA(h:(PV.tup xs).d=a_ d):∃ds,PV.ds xs=a_ ds/\d=.tup ds:=by
 unfold PV.d at h;split at h
 ·rename_i ds e;cases h;exact⟨ds,e,rfl⟩
 ·cases h
def fA{x:PV}(h:PV.ds (x::xs)=a_ ds):∃d r,x.d=a_ d/\PV.ds xs=a_ r/\ds=d::r:=by
 unfold PV.ds at h;split at h
 ·rename_i d r e1 e2;cases h;exact⟨d,r,e1,e2,rfl⟩
 ·cases h
def rQ:∀(n:Nat)(x:PV),x.pl n=true->∃d,x.d=a_ d/\d.depth<=n:=by
 intro n
 induction n with
 |zero=>intro x h;cases x <;> first|exact⟨_,rfl,Zi _⟩|(simp[PV.pl]at h)
 |succ n ih=>
  intro x h;cases x with
  |tup xs=>
   have h:xs.all (PV.pl n)=true:=h;have many:∀(xs:C_ PV),xs.all (PV.pl n)=true->∃ds,PV.ds xs=a_ ds/\D.depths ds<=n:=by
    intro xs
    induction xs with
    |nil=>intro _;exact⟨[],rfl,ZO _⟩
    |cons x xs ihx=>
     intro h;simp only[y1d,Z2]at h;let⟨d,h1,h2⟩:=ih x h.1;let⟨ds,h3,h4⟩:=ihx h.2;refine⟨d::ds,J9 h1 h3,?_⟩
     show max d.depth (D.depths ds)<=n
     omega
   let⟨ds,h1,h2⟩:=many xs h;refine⟨.tup ds,UY h1,?_⟩
   show D.depths ds+1<=n+1
   omega
  |_=>first|exact⟨_,rfl,ZO _⟩|(simp[PV.pl]at h)
def FW:∀(n:Nat)(x y:PV)(d e:D),x.pl n=true->y.pl n=true->x.d=a_ d->y.d=a_ e->eqD d e=decide (x=y):=by
 intro n
 induction n with
 |zero=>
  intro x y d e hx hy h1 h2;cases x <;> first|(simp[PV.pl]at hx;done)|skip
  all_goals cases h1
  all_goals cases y <;> first|(simp[PV.pl]at hy;done)|skip
  all_goals cases h2
  all_goals simp only[eqD]
  all_goals rw[Z8]
  all_goals simp
 |succ n ih=>
  intro x y d e hx hy h1 h2;have lists:∀(xs ys:C_ PV)(ds es:C_ D),xs.all (PV.pl n)=true->ys.all (PV.pl n)=true->PV.ds xs=a_ ds->PV.ds ys=a_ es->jC ds es=decide (xs=ys):=by
   intro xs
   induction xs with
   |nil=>
    intro ys ds es _ _ h1 h2;cases h1
    cases ys with
    |nil=>cases h2;rfl
    |cons y ys=>let⟨d,r,_,_,rfl⟩:=fA h2;simp[jC]
   |cons x xs ihx=>
    intro ys ds es hx hy h1 h2;let⟨d,r,g1,g2,rfl⟩:=fA h1;simp only[y1d,Z2]at hx;cases ys with
    |nil=>cases h2;simp[jC]
    |cons y ys=>let⟨e,q,g3,g4,rfl⟩:=fA h2;simp only[y1d,Z2]at hy;simp only[jC,ih x y d e hx.1 hy.1 g1 g3,ihx ys r q hx.2 hy.2 g2 g4];rw[Z8];simp
  cases x with
  |tup xs=>
   let⟨ds,g1,rfl⟩:=dA h1;cases y with
   |tup ys=>let⟨es,g2,rfl⟩:=dA h2;simp only[eqD,lists xs ys ds es hx hy g1 g2];rw[Z8];simp
   |non=>cases h2;simp[eqD]
   |int j=>cases h2;simp[eqD]
   |str j=>cases h2;simp[eqD]
   |_=>simp[PV.pl]at hy
  |non=>
   cases h1
   cases y with
   |tup ys=>let⟨es,g2,rfl⟩:=dA h2;simp[eqD]
   |non=>cases h2;simp[eqD]
   |int j=>cases h2;simp[eqD]
   |str j=>cases h2;simp[eqD]
   |_=>simp[PV.pl]at hy
  |int i=>
   cases h1
   cases y with
   |tup ys=>let⟨es,g2,rfl⟩:=dA h2;simp[eqD]
   |non=>cases h2;simp[eqD]
   |int j=>cases h2;simp only[eqD];rw[Z8];simp
   |str j=>cases h2;simp[eqD]
   |_=>simp[PV.pl]at hy
  |str i=>
   cases h1
   cases y with
   |tup ys=>let⟨es,g2,rfl⟩:=dA h2;simp[eqD]
   |non=>cases h2;simp[eqD]
   |int j=>cases h2;simp[eqD]
   |str j=>cases h2;simp only[eqD];rw[Z8];simp
   |_=>simp[PV.pl]at hy
  |_=>simp[PV.pl]at hx
section
variable{x y:PV}{h:PH}
def AB(hx:x.pl 40=true)(hy:y.pl 40=true):lY x y h=a_ (decide (x=y)):=by let⟨d,h1,h2⟩:=rQ 40 x hx;let⟨e,h3,h4⟩:=rQ 40 y hy;unfold lY;rw[h1,h3];simp only[h2,if_true,FW 40 x y d e hx hy h1 h3]
def HH(hx:x.pl 40=true)(hy:y.pl 40=true):vEq x y h=.ok (.bl (decide (x=y))) h:=by unfold vEq;rw[AB hx hy];rfl
def Su(hx:x.pl 40=true)(hy:y.pl 40=true):vNe x y h=.ok (.bl (!decide (x=y))) h:=by unfold vNe;rw[AB hx hy];rfl
@[simp]theorem VT:vEq (.int i) (.int j) h=.ok (.bl (decide (i=j))) h:=by rw[HH rfl rfl];congr 2;simp
@[simp]theorem VU:vEq (.str i) (.str j) h=.ok (.bl (decide (i=j))) h:=by rw[HH rfl rfl];congr 2;simp
@[simp]theorem VV:vNe (.str i) (.str j) h=.ok (.bl (!decide (i=j))) h:=by rw[Su rfl rfl];congr 3;simp
def Mp{ys:C_ PV}(hx:x.pl 39=true)(hy:ys.all (PV.pl 39)=true):Bc x ys=a_ (decide (x∈ys)):=by
 have key:∀ys:C_ PV,ys.all (PV.pl 39)=true->∃ds,PV.ds ys=a_ ds/\D.depths ds<=39/\∀d,x.d=a_ d->(ds.any λe=>eqD e d)=decide (x∈ys):=by
  intro ys
  induction ys with
  |nil=>intro _;exact⟨[],rfl,ZO _,λ_ _=>by simp⟩
  |cons y ys ih=>
   intro h;simp only[y1d,Z2]at h;let⟨e,h1,h2⟩:=rQ 39 y h.1;let⟨ds,h3,h4,h5⟩:=ih h.2;refine⟨e::ds,J9 h1 h3,?_,λd hd=>?_⟩
   ·show max e.depth (D.depths ds)<=39
    omega
   ·rw[y2a,h5 d hd,FW 39 y x e d h.1 hx h1 hd,Z8];simp only[Bool.or_eq_true,decide_eq_true_eq,Zs];constructor
    ·rintro(h|h)
     ·exact .inl h.symm
     ·exact .inr h
    ·rintro(h|h)
     ·exact .inl h.symm
     ·exact .inr h
 let⟨d,h1,h2⟩:=rQ 39 x hx;let⟨ds,h3,h4,h5⟩:=key ys hy;unfold Bc;rw[h1,h3];simp only[show D.depths ds<=40 by omega,if_true,h5 d h1]
def Bn{ys:C_ PV}(e:h[n]?=a_ (.lst ys))(hx:x.pl 39=true)(hy:ys.all (PV.pl 39)=true):Bd x (.ref n) h=.ok (.bl (!decide (x∈ys))) h:=by
 have e3:bO h n=a_ ys:=by unfold bO;rw[e]
 unfold Bd Ka;simp only[e3,Mp hx hy];rfl
def Bo{xs ys:C_ PV}(e1:h[n]?=a_ (.lst xs))(e2:h[m]?=a_ (.lst ys))(hx:xs.all (PV.pl 39)=true)(hy:ys.all (PV.pl 39)=true):lY (.ref n) (.ref m) h=a_ (decide (xs=ys)):=by
 have e3:iY (.ref n) h=a_ xs:=by unfold iY bO;simp only[e1]
 have e4:iY (.ref m) h=a_ ys:=by unfold iY bO;simp only[e2]
 have c6:(PV.tup xs).pl 40=true:=hx;have f9:(PV.tup ys).pl 40=true:=hy;let⟨d,h1,h2⟩:=rQ 40 _ c6;let⟨e,h3,h4⟩:=rQ 40 _ f9;let⟨ds,g1,rfl⟩:=dA h1;let⟨es,g2,rfl⟩:=dA h3;have h5:=FW 40 _ _ _ _ c6 f9 h1 h3;have b7:D.depths ds+1<=40:=h2;have zj:jC ds es=decide (xs=ys):=by have:jC ds es=decide (PV.tup xs=PV.tup ys):=h5;rw[this,Z8];simp
 unfold lY;have n1:(PV.ref n).d=b_:=rfl;rw[n1];simp only[e3,e4,g1,g2,show D.depths ds<=40 by omega,if_true,zj]
def Pi{xs ys:C_ PV}(e1:h[n]?=a_ (.lst xs))(e2:h[m]?=a_ (.lst ys))(hx:xs.all (PV.pl 39)=true)(hy:ys.all (PV.pl 39)=true):vEq (.ref n) (.ref m) h=.ok (.bl (decide (xs=ys))) h:=by unfold vEq;rw[Bo e1 e2 hx hy];rfl
end
end L2
namespace L2
section
variable{α:Type}{a b c d e f g:α}{r:C_ α}
def wI{xs:C_ α}(i:Nat)(h:xs[i]?=a_ v):atI xs (i:Int)=a_ v:=B3 h
@[simp]theorem Xa:atI (a::r) 0=a_ a:=wI 0 rfl
@[simp]theorem Xb:atI (a::b::r) 1=a_ b:=wI 1 rfl
@[simp]theorem Xc:atI (a::b::c::r) 2=a_ c:=wI 2 rfl
@[simp]theorem Xd:atI (a::b::c::d::r) 3=a_ d:=wI 3 rfl
@[simp]theorem Xe:atI (a::b::c::d::e::r) 4=a_ e:=wI 4 rfl
end
end L2
namespace L2
open PySem.SeqAt
open PySem.AutoSeq1 (wpAny_loadPart')
open PySem.MeetsSeq PySem.MeetsSeq2 PySem.MeetsSeq3
def Pj(A:w_)(s:t_)(v u:s_)(b:Bool):Prop:=∀(prog:z_)(w:y_)(E:f_ 0)(Q:f_ 0),Q (.bool b) s->m_ prog w A (richCompare .Lt v u) Q E s
def UZ(A:w_)(s:t_)(v u:s_)(d e:D):Prop:=EqAt A s v u (eqD d e)/\(eqD d e=false->∀b,ltD d e=a_ b->Pj A s v u b)
abbrev Dy(A:w_)(s:t_):C_ s_->C_ s_->C_ D->C_ D->Prop:=λvs us ds es=>vs.length=ds.length/\us.length=es.length/\∀(j:Nat) v u d e,vs[j]?=a_ v->us[j]?=a_ u->ds[j]?=a_ d->es[j]?=a_ e->UZ A s v u d e
theorem Dy.tail(h:Dy A s (v::vs) (u::us) (d::ds) (e::es)):UZ A s v u d e/\Dy A s vs us ds es:=⟨h.2.2 0 v u d e rfl rfl rfl rfl,by have:=h.1;simpa using this,by have:=h.2.1;simpa using this,λj v u d e h1 h2 h3 h4=>h.2.2 (j+1) v u d e (l_ h1) (l_ h2) (l_ h3) (l_ h4)⟩
def En(l b:u_)(items ay:Array s_)(n n2:Nat)(dd iw:D_ u_)(sl iu:n_ 0)(ds es:C_ D)(c:Bool)(hc:vS ds es=a_ c):
  Meets (Builtin.«tuple.__lt__» ⟨[.ref l,.ref b],[]⟩)
   (λA R s=>s.heap.get? l=a_ {cls:=.type "tuple",dict:=dd,data:=.seq items n,slots:=sl}/\s.heap.get? b=a_ {cls:=.type "tuple",dict:=iw,data:=.seq ay n2,slots:=iu}/\
    Dy A.in1 s items.toList ay.toList ds es/\R (.ok (.ret (.bool c))) s):=
 .of_wp λprog w A R s h=>by
  let⟨hp,g,d,tk,os⟩:=s;let⟨hl,hb,hit,h⟩:=h;have f2:=AutoSeq1.sub_tuple_tuple;have z1:items.size=ds.length:=by rw[<-hit.1];simp
  have z2:ay.size=es.length:=by rw[<-hit.2.1];simp
  wp_walk using wpAny_loadPart' hl,wpAny_loadPart' hb,wpAny_forIn_list _ (λrest b s'=>b.1=b_/\s'=⟨hp,g,d,tk,os⟩/\∃(vs ws:C_ s_)(gv fb:C_ D),rest=vs.zip ws/\
   Dy A.in1 ⟨hp,g,d,tk,os⟩ vs ws gv fb/\gv.length+ay.size=fb.length+items.size/\vS gv fb=a_ c) _
  case turn=>
   rintro⟨y,x⟩ rest b s' ⟨hb',rfl,vs,ws,gv,fb,hz,hvi,hlen,hR⟩;cases vs with
   |nil=>rw[List.zip_nil_left]at hz;cases hz
   |cons v vs=>
    cases ws with
    |nil=>rw[List.zip_nil_right]at hz;cases hz
    |cons u ws=>
     rw[List.zip_cons_cons]at hz;injection hz with hyx hrest;injection hyx with hy hx;subst hy hx;cases gv with
     |nil=>have:=hvi.1;simp at this
     |cons a gv=>
      cases fb with
      |nil=>have:=hvi.2.1;simp at this
      |cons e fb=>
       let⟨⟨h1,h2⟩,ht⟩:=Dy.tail hvi;simp only[ZY]at hlen;simp only[vS]at hR;refine Zb (h1 prog w _ _ ?_);cases q:eqD a e with
       |true=>
        rw[q,if_pos rfl]at hR
        wp_walk
        exact⟨rfl,rfl,_,_,_,_,hrest,ht,⋯,hR⟩
       |false=>
        rw[q,if_neg Zv]at hR;have YW:=h2 q c hR prog w
        wp_walk using YW
        exact⟨_,rfl,l_ h⟩
  case fin=>
   rintro⟨b1,b2⟩ s' ⟨hb',rfl,vs,ws,gv,fb,hz,hvi,hlen,hR⟩;simp only at hb';subst hb';have hv:c=decide (items.size<ay.size):=by
    cases gv with
    |nil=>
     cases fb with
     |nil=>
      simp only[List.length_nil]at hlen;simp only[vS]at hR;cases hR
      exact(decide_eq_false ⋯).symm
     |cons e fb=>
      simp only[List.length_nil,ZY]at hlen;simp only[vS]at hR;cases hR
      exact(decide_eq_true ⋯).symm
    |cons a gv=>
     cases fb with
     |nil=>
      simp only[List.length_nil,ZY]at hlen;simp only[vS]at hR;cases hR
      exact(decide_eq_false ⋯).symm
     |cons e fb=>
      exfalso;cases vs with
      |nil=>have:=hvi.1;simp at this
      |cons v vs=>
       cases ws with
       |nil=>have:=hvi.2.1;simp at this
       |cons u ws=>rw[List.zip_cons_cons]at hz;cases hz
   rw[hv]at h
   wp_walk
   exact⟨_,rfl,by simpa[Builtin.Tuple.tupleCompareSizes] using h⟩
  case h=>exact⟨rfl,rfl,items.toList,ay.toList,ds,es,rfl,hit,⋯,hc⟩
variable{C:MC}{k:Nat}{X:Cx}
def Sv(x y:PV):D_ Bool:=match x.d,y.d with
 |some d,a_ e=>if d.depth<=40 then ltD d e else b_
 |_,_=>b_
def QU:PV->PV->PH->Rs PV:=λx y h=>match x,y with
 |.tup xs,.tup ys=>ofB (Sv (.tup xs) (.tup ys)) h
 |x,y=>vLt x y h
section
variable{h:PH}
@[simp]theorem TC:QU (.int i) (.int j) h=.ok (.bl (decide (i<j))) h:=(rfl)
@[simp]theorem TF{i j:Str}:QU (.str i) (.str j) h=.ok (.bl (decide (i.cps.toList<j.cps.toList))) h:=(rfl)
def ltL(f:PV->PV->D_ Bool):C_ PV->C_ PV->D_ Bool
 |[],[]=>a_ false
 |[],_::_=>a_ true
 |_::_,[]=>a_ false
 |x::xs,y::ys=>if x=y then ltL f xs ys else f x y
def ltP:Nat->PV->PV->D_ Bool
 |_,.int a,.int b=>a_ (decide (a<b))
 |_,.str a,.str b=>a_ (decide (a.cps.toList<b.cps.toList))
 |n+1,.tup xs,.tup ys=>ltL (ltP n) xs ys
 |_,_,_=>b_
def QV:∀(n:Nat)(x y:PV)(d e:D),x.pl n=true->y.pl n=true->x.d=a_ d->y.d=a_ e->ltD d e=ltP n x y:=by
 intro n
 induction n with
 |zero=>
  intro x y d e hx hy h1 h2;cases x <;> first|(simp[PV.pl]at hx;done)|skip
  all_goals cases h1
  all_goals cases y <;> first|(simp[PV.pl]at hy;done)|skip
  all_goals cases h2
  all_goals simp[ltD,ltP]
 |succ n ih=>
  intro x y d e hx hy h1 h2;have lists:∀(xs ys:C_ PV)(ds es:C_ D),xs.all (PV.pl n)=true->ys.all (PV.pl n)=true->PV.ds xs=a_ ds->PV.ds ys=a_ es->vS ds es=ltL (ltP n) xs ys:=by
   intro xs
   induction xs with
   |nil=>
    intro ys ds es _ _ h1 h2;cases h1
    cases ys with
    |nil=>cases h2;simp[vS,ltL]
    |cons y ys=>let⟨d,r,_,_,rfl⟩:=fA h2;simp[vS,ltL]
   |cons x xs ihx=>
    intro ys ds es hx hy h1 h2;let⟨d,r,g1,g2,rfl⟩:=fA h1;simp only[y1d,Z2]at hx;cases ys with
    |nil=>cases h2;simp[vS,ltL]
    |cons y ys=>let⟨e,q,g3,g4,rfl⟩:=fA h2;simp only[y1d,Z2]at hy;simp only[vS,ltL,FW n x y d e hx.1 hy.1 g1 g3,ihx ys r q hx.2 hy.2 g2 g4,ih x y d e hx.1 hy.1 g1 g3,decide_eq_true_eq]
  cases x with
  |tup xs=>
   let⟨ds,g1,rfl⟩:=dA h1;cases y with
   |tup ys=>let⟨es,g2,rfl⟩:=dA h2;simp only[ltD,lists xs ys ds es hx hy g1 g2,ltP]
   |non=>cases h2;simp[ltD,ltP]
   |int j=>cases h2;simp[ltD,ltP]
   |str j=>cases h2;simp[ltD,ltP]
   |_=>simp[PV.pl]at hy
  |non=>cases h1;cases y <;> first|(simp[PV.pl]at hy;done)|(let⟨es,g2,rfl⟩:=dA h2;simp[ltD,ltP];done)|(cases h2;simp[ltD,ltP])
  |int i=>cases h1;cases y <;> first|(simp[PV.pl]at hy;done)|(let⟨es,g2,rfl⟩:=dA h2;simp[ltD,ltP];done)|(cases h2;simp[ltD,ltP])
  |str i=>cases h1;cases y <;> first|(simp[PV.pl]at hy;done)|(let⟨es,g2,rfl⟩:=dA h2;simp[ltD,ltP];done)|(cases h2;simp[ltD,ltP])
  |_=>simp[PV.pl]at hx
end
end L2
namespace L2
variable{C:MC}{k:Nat}{X:Cx}
def HI{M:z_×y_}{A:w_}{E:f_ 0}{s:t_}{l:u_}{items:Array s_}{Q:f_ 0}(hl:s.heap.IsList l items)
  (h:∀s₂:t_,s₂={s with heap:=s.heap.push {cls:=.type "list_iterator",data:=.fields #[.ref l,.int 0 0]} }->
   (s₂.heap.IsListIter (e_ s) l 0/\s₂.heap.IsList l items)->(∀b∈[(e_ s),l],b<s₂.heap.objs.size)->l≠(e_ s)->Q (.ref (e_ s)) s₂):
  wpAny (model M.1 M.2) A (pyIter (.ref l)) Q E s:=by
 have af:l<(e_ s):=by let⟨_,e,_⟩:=hl;exact Zl e
 refine y16 hl (h _ rfl ⟨⟨_,Zj _ rfl,rfl,rfl⟩,hl.push _⟩ (λb hb=>?_) (Zt af))
 show b<(s.heap.push _).objs.size
 rw[y0m];rcases Zs.mp hb with rfl|hb
 ·exact y2g _
 ·rcases Zs.mp hb with rfl|hb
  ·exact y1z af
  ·cases hb
def Kh(hc:X.calm=true)(K:Zf)(hK:X.K=K):eD X (.builtin "any") (λxs H Q=>∃(p:u_)(bs:C_ Bool),xs=[.ref p]/\SqL K H p (bs.map V.bl)/\Q (.bl (bs.any id)) H):=by
 subst hK;intro FR s σ H xs us Q I r h;let⟨p,bs,rfl,hq,q⟩:=h;let⟨u,rfl,ru⟩:=vals1 r;cases ru
 let⟨its,rv,pl,hz⟩:=I.list hq;have hlen:=rv.length;rw[Zg]at hlen;refine call_any_walk (HI (M:=(X.prog,X.w)) pl.isList λs₂ e st hfp Yv=>?_);subst e;refine⟨_,_,_,_,_,_,λi=>(bs[i]?).getD true,rfl,Walks.list (A:=X.A.in1) (I.ok.hd hc) _ p Yv its.toArray,st,?_,λh' tk hk=>?_⟩
 ·intro i v s' Q' E' hP hQ;have yb:its[i]?=a_ v:=by simpa using hP
  let⟨hi,_⟩:=Zc.mp yb;have hb:i<bs.length:=⋯;let⟨u,hu,ru⟩:=rv.get (show(bs.map V.bl)[i]?=a_ (.bl bs[i]) by simp[hb]);rw[yb]at hu;cases hu
  cases ru
  refine y1x ?_;have:(bs[i]?).getD true=bs[i]:=by simp[hb]
  rw[<-this];exact hQ
 ·have e:((ZD its.toArray.size).any λi=>(bs[i]?).getD true)=bs.any id:=by
   have hs:its.toArray.size=bs.length:=by simp[hlen]
   rw[hs,Z8,y2V,y2V];constructor
   ·rintro⟨i,hi,h⟩;have ax:=y2i.mp hi;exact⟨bs[i],y1I ax,by simpa[ax] using h⟩
   ·rintro⟨b,hb,h⟩;let⟨i,hi,rfl⟩:=y2N.mp hb;exact⟨i,y2i.mpr hi,by simpa[hi] using h⟩
  rw[e];exact⟨.bl _,H,I.kept (old_kept hk),rfl,q⟩
def Mq:C_ PV->D_ (C_ Int)
 |[]=>a_ []
 |.int i::r=>(Mq r).map (i::·)
 |_::_=>b_
def Ki:C_ PV->D_ (C_ Bool)
 |[]=>a_ []
 |.bl i::r=>(Ki r).map (i::·)
 |_::_=>b_
theorem Mr:∀{xs:C_ PV}{vs:C_ V}{ns:C_ Bool},RVs C φ H xs vs->Ki xs=a_ ns->vs=ns.map V.bl
 |[],[],_,_,e=>by cases e;rfl
 |x::xs,v::vs,ns,⟨h,r⟩,e=>by
  cases x with
  |bl i=>
   cases h
   simp only[Ki,Zw]at e;let⟨m,e,rfl⟩:=e;rw[Mr r e];rfl
  |_=>cases e
 |[],_::_,_,h,_=>h.elim
 |_::_,[],_,h,_=>h.elim
def Mt(ns:C_ Bool):Ki (ns.map PV.bl)=a_ ns:=by
 induction ns with
 |nil=>rfl
 |cons n ns ih=>simp[Ki,ih]
def Mu:C_ PV->PH->Rs PV:=λxs h=>match xs with
 |[x]=>match iY x h with
  |some ys=>match Ki ys with
   |some ns=>.ok (.bl (ns.any id)) h
   |none=>.bad
  |none=>.bad
 |_=>.bad
def V0:rP C k X (.builtin "any") Mu:=λc=>(Kh c.calm C.K c.K).imp λvs H Q h=>by
 let⟨φ,h,ps,rh,rv,po⟩:=h;unfold Mu at po;split at po
 ·let⟨v,rfl,rx⟩:=rv.one;split at po
  ·rename_i ys e;split at po
   ·rename_i ns en;let⟨a,vs,rfl,sa,ra⟩:=lX rh rx e;rw[Mr ra en]at sa;exact⟨a,ns,rfl,sa,po.val rh rfl⟩
   ·exact po.elim
  ·exact po.elim
 ·exact po.elim
def Mv{h:PH}{ns:C_ Bool}(e:h[n]?=a_ (.lst (ns.map PV.bl))):Mu [.ref n] h=.ok (.bl (ns.any id)) h:=by
 have e1:iY (.ref n) h=a_ (ns.map PV.bl):=by unfold iY bO;simp only[e]
 unfold Mu;simp only[e1,Mt]
end L2
namespace L2
open PySem
section
variable{h:PH}{lo hi:D_ Int}
@[simp]theorem Pk{z:Str}(c:z.length<=16777216):vSl (.str z) lo hi h=.ok (.str (y24 z lo hi)) h:=if_pos c
@[simp]theorem J':vSl (.tup xs) lo hi h=.ok (.tup (yS xs lo hi)) h:=(rfl)
@[simp]theorem WM:vSl (.fl xs) lo hi h=.ok (.ref h.length) (h++[.lst (yS xs lo hi)]):=(rfl)
def Ja(e:h[n]?=a_ (.lst xs)):vSl (.ref n) lo hi h=.ok (.ref h.length) (h++[.lst (yS xs lo hi)]):=by
 have e3:bO h n=a_ xs:=by unfold bO;rw[e]
 unfold vSl;simp only[e3]
@[simp]theorem WN:vIs (.bl a) (.bl b) h=.ok (.bl (a == b)) h:=(rfl)
@[simp]theorem TH:LR (.bl a) (.bl b) h=.ok (.bl (!(a == b))) h:=(rfl)
@[simp]theorem VW:vIs x .non h=.ok (.bl (yR x)) h:=(rfl)
@[simp]theorem Sw:LR x .non h=.ok (.bl (!yR x)) h:=(rfl)
end
section
variable{δ:Ev}{h h1:PH}{js:C_ (D_ Nat)}{tg:Mg}{tst:Ev->PH->Rs Bool}{elt:Me}{g:PH->Bool}{n:Nat}
theorem AC{Q:PV->PH->Prop}(I:Nat->PH->Prop):∀(xs:C_ PV)(k:Nat)(h:PH),I k h->
  (∀i x h,k<=i->xs[i-k]?=a_ x->I i h->g h=true/\∃δ1,tg x δ0=a_ δ1/\(tst δ1 h).W λb h'=>if b=true then(elt δ1 h').W λp d5=>∃ys,d5[n]?=a_ (.lst ys)/\ys.length<16777216/\I (i+1) (d5.set n (.lst (ys++[p]))) else I (i+1) h')->
  (∀h,I (k+xs.length) h->g h=true/\Q (.ref n) h)->(qR g tg tst elt δ0 n xs h).W Q
 |[],k,h,i0,_,fin=>by let⟨h1,h2⟩:=fin h i0;simp[qR,h1,h2]
 |x::xs,k,h,i0,step,fin=>by
  let⟨h1,δ1,h2,h3⟩:=step k x h (Zi _) (by simp) i0;have go:∀h2,I (k+1) h2->(qR g tg tst elt δ0 n xs h2).W Q:=λh2 i2=>
   AC I xs (k+1) h2 i2 (λi y h hk hy=>step i y h ⋯ (by
    have:i-k=(i-(k+1))+1:=⋯;rw[this,y0K];exact hy)) (λh hi=>fin h (by
    have e:k+(x::xs).length=k+1+xs.length:=by simp;omega
    rw[e];exact hi))
  unfold qR;rw[if_pos h1,h2]
  show(Rs.bind (tst δ1 h) _).W Q
  rw[Ek];refine Md h3 λb h' hb=>?_;cases b with
  |false=>exact go h' (l_ hb)
  |true=>
   show(Rs.bind (elt δ1 h') _).W Q
   rw[Ek];refine Md (show(elt δ1 h').W _ from by simpa using hb) λp d5 hp=>?_
   let⟨ys,e,hz,hi⟩:=hp;have e':iD d5 n=a_ ys:=by unfold iD;rw[e]
   simp[e',hz];exact go _ hi
theorem Dz{α:Type}{ys:C_ α}{emb:α->PV}(f:α->D_ PV)(e:mi δ h=.ok ⟨ys.map emb,g⟩ h1)(hg:∀h,Ext h1 h->g h=true)(hz:ys.length<=16777216)(step:∀y∈ys,∃δ1,tg (emb y) (kK js δ)=a_ δ1/\∀h,Ext h1 h->match f y with
   |none=>tst δ1 h=.ok false h
   |some p=>tst δ1 h=.ok true h/\elt δ1 h=.ok p h):eZ js mi tg tst elt δ h=.ok (.ref h1.length) (h1++[.lst (ys.filterMap f)]):=by
 have w:(eZ js mi tg tst elt δ h).W λp h'=>p=.ref h1.length/\h'=h1++[.lst (ys.filterMap f)]:=by
  unfold eZ;rw[e,Rs.bind_ok];refine AC (λi h'=>h'=h1++[.lst ((ys.take i).filterMap f)]) (ys.map emb) 0 _ (by simp) (λi x h' _ hx hi=>?_) (λh' hi=>?_)
  ·subst hi;have hx:(ys.map emb)[i]?=a_ x:=by simpa using hx
   rw[Zr]at hx;let⟨y,hy,rfl⟩:=Zw.mp hx;have lg:=(Zc.mp hy).1;let⟨δ1,ht,hs⟩:=step y (ZP hy);have hs:=hs (h1++[.lst ((ys.take i).filterMap f)]) (Ext.app _ _);have htk:ys.take (i+1)=ys.take i++[y]:=by rw[y0L,hy];rfl
   refine⟨hg _ (Ext.app _ _),δ1,ht,?_⟩;cases ef:f y with
   |none=>rw[ef]at hs;rw[hs];simp[htk,ef]
   |some p=>rw[ef]at hs;rw[hs.1];simp[hs.2];refine⟨?_,by simp[htk,ef]⟩;have:=List.length_filterMap_le f (ys.take i);rw[y0R]at this;omega
  ·subst hi;simp;exact hg _ (Ext.app _ _)
 let⟨p,h',e,rfl,rfl⟩:=dY w;exact e
def wJ(e:m δ h=.ok (.ref n) h1)(hn:h1[n]?=a_ (.lst xs)):dE m δ h=.ok ⟨xs,uM n xs⟩ h1:=by
 unfold dE;have e3:bO h1 n=a_ xs:=by unfold bO;rw[hn]
 rw[e,Rs.bind_ok];unfold ofSeq;simp only[e3]
def rR(hn:h1[n]?=a_ (.lst xs)):∀h,Ext h1 h->uM n xs h=true:=λh hx=>by
 have e3:bO h n=a_ xs:=by unfold bO;rw[hx _ _ hn]
 unfold uM;rw[e3];exact PV.beqs_self xs
theorem mB{α:Type}{ys:C_ α}{emb:α->PV}(f:α->D_ PV)(e:m δ h=.ok (.ref n) h1)(hn:h1[n]?=a_ (.lst (ys.map emb)))(hz:ys.length<=16777216)(step:∀y∈ys,∃δ1,tg (emb y) (kK js δ)=a_ δ1/\∀h,Ext h1 h->match f y with
   |none=>tst δ1 h=.ok false h
   |some p=>tst δ1 h=.ok true h/\elt δ1 h=.ok p h):eZ js (dE m) tg tst elt δ h=.ok (.ref h1.length) (h1++[.lst (ys.filterMap f)]):=
 Dz f (wJ e hn) (rR hn) hz step
end
end L2
namespace L2
section
variable{X:Cx}{FR:g_ 0}{σ:St}{H:Hp}{s:t_}{C:MC}{φ:C_ u_}
mutual
theorem Mw(I:Inv X FR σ H s)(hK:X.K=C.K):∀(n:Nat){p:PV}{v:V}{u:s_},p.ky n=true->RV C φ H p v->RelV v u->HR s.heap p u
 |_,.int i,v,u,_,r,ru=>by cases r;exact ru
 |_,.str i,v,u,_,r,ru=>by cases r;exact ru
 |n+1,.tup ps,v,u,hk,r,ru=>by
  let⟨a,vs,rfl,q,rs⟩:=r;cases ru
  rw[<-hK]at q;let⟨its,rv,p,_⟩:=I.tuple q;exact⟨a,its,rfl,p,Eo I hK n (Zy.mp hk) rs rv⟩
 |0,.tup _,_,_,hk,_,_=>by cases hk
 |n,.non,_,_,hk,_,_=>by cases n <;> cases hk
 |n,.bl _,_,_,hk,_,_=>by cases n <;> cases hk
 |n,.ref _,_,_,hk,_,_=>by cases n <;> cases hk
 |n,.ty _,_,_,hk,_,_=>by cases n <;> cases hk
 |n,.fl _,_,_,hk,_,_=>by cases n <;> cases hk
theorem Eo(I:Inv X FR σ H s)(hK:X.K=C.K):∀(n:Nat){ps:C_ PV}{vs:C_ V}{us:C_ s_},(∀p∈ps,p.ky n=true)->RVs C φ H ps vs->bN vs us->HRs s.heap ps us
 |_,[],[],us,_,_,ru=>by cases ru;trivial
 |n,p::ps,v::vs,us,hk,r,ru=>by
  cases ru with
  |cons h t=>exact⟨Mw I hK n (hk p Zn) r.1 h,Eo I hK n (λq hq=>hk q (Zh _ hq)) r.2 t⟩
 |_,[],_::_,_,_,r,_=>r.elim
 |_,_::_,[],_,_,r,_=>r.elim
end
abbrev yV:C_ (PV×u_×V)->C_ (PV×u_×s_)->Prop:=Paired λp q=>p.1=q.1/\p.2.1=q.2.1/\RelV p.2.2 q.2.2
def HD(C:MC)(φ:C_ u_)(H:Hp)(X:Cx)(s:t_)(a:u_)(kvs:C_ (PV×PV)):Prop:=
 ∃ks xs,RKd C φ H kvs ks/\yV ks xs/\xs.length<=Zq/\(a == y0p)=false/\s.heap.DictOfH (wA X.prog X.w) a xs
def bW(h:PH)(n:Nat):D_ (C_ (PV×PV)):=match h[n]? with
 |some (.dD kvs)=>a_ kvs
 |some (.dK [])=>a_ []
 |_=>b_
def PV.isKt:PV->Bool
 |.tup xs=>(PV.tup xs).ky 6
 |_=>false
def wK{p:PV}(h:p.isKt=true):p.ky 6=true:=by cases p <;> first|exact h|cases h
def pF{p:PV}{v:V}(h:p.isKt=true)(r:RV C φ H p v):∃b,v=.ref b:=by cases p <;> first|(let⟨b,_,e,_⟩:=r;exact⟨b,e⟩)|cases h
def wL{h:PH}{n:Nat}{a:u_}{kvs:C_ (PV×PV)}(I:Inv X FR σ H s)(hK:X.K=C.K)(hw:X.w=C.w)(rh:RH C φ H h)(ha:φ[n]?=a_ a)(e:bW h n=a_ kvs):HD C φ H X s a kvs/\Mut (H a)/\FA (H a):=by
 unfold bW at e;split at e
 ·rename_i kv hk;cases e
  let⟨ks,hH,r⟩:=rh.at' n a _ ha hk;have hO:eB X.prog X.w H s.heap a (dDO C.w a ks):=I.hok a _ hH;let⟨⟨hz,hm,xs,rx,o,es,ep,h1,h2,h3,h4,h5⟩,_⟩:=hO;refine⟨⟨ks,xs,r,rx,by rw[<-Z0 rx];exact hz,hm,o,es,ep,h1,h2,h3,?_,?_,h5⟩,by rw[hH];exact y00,by rw[hH];exact y00⟩
  ·rw[h4,<-hw];rfl
  ·have all:∀{l:C_ (PV×PV)}{m:C_ (PV×u_×V)}{z:C_ (PV×u_×s_)},RKd C φ H l m->yV m z->∀x∈z,(wA X.prog X.w).is s.heap x.1 x.2.1:=by
    intro l m z q;unfold RKd at q
    induction q generalizing z with
    |nil=>intro rz x hx;cases rz;cases hx
    |cons hq t ih=>
     intro rz x hx;cases rz with
     |cons f7 tz=>
      rcases Zs.mp hx with e|hx
      ·subst e;refine⟨?_,?_⟩
       ·rw[<-f7.1,<-hq.1];exact hq.2.1
       ·rw[<-f7.1,<-hq.1,<-f7.2.1];exact Mw I hK 6 hq.2.1 hq.2.2.1 rfl
      ·exact ih tz x hx
   exact all r rx
 ·rename_i hk;cases e
  let⟨ks,hH,r⟩:=rh.at' n a _ ha hk;have:ks=[]:=by cases r;rfl
  subst this;let⟨z,hd,vs,rel,o,es,ep,h1,h2,h3,h4,h5,h6⟩:=Dm I.hok hH;have:vs=[]:=by cases rel;rfl
  subst this;refine⟨⟨[],[],.nil,.nil,ZO _,hd,o,es,ep,h1,h2,h3,?_,(λx hx=>nomatch hx),List.nodup_nil⟩,by rw[hH];exact y00,by rw[hH];exact y00⟩;cases he:es.toList with
  |nil=>rfl
  |cons y ys=>rw[he]at h5;cases h5
 ·cases e
theorem HD.val{a:u_}{kvs:C_ (PV×PV)}{ks:C_ (PV×u_×V)}{xs:C_ (PV×u_×s_)}(r:RKd C φ H kvs ks)(rx:yV ks xs)(k:PV):match cF kvs k,(atKey xs k).map (·.2) with
  |some p,a_ u=>∃v,RelV v u/\RV C φ H p v
  |none,b_=>True
  |_,_=>False:=by
 unfold RKd at r
 induction r generalizing xs with
 |nil=>cases rx;trivial
 | @cons p q ps qs h t ih=>
  cases rx with
  | @cons q' x qs' xs' hx tx=>
   let⟨pk,pv⟩:=p;by_cases e:pk=k
   ·have e':x.1=k:=hx.1.symm.trans (h.1.symm.trans e);have b:atKey (x::xs') k=a_ x.2:=by simp[atKey,y1D,e']
    rw[b];unfold cF;rw[if_pos e];exact⟨_,hx.2.2,h.2.2.2⟩
   ·have e':¬ x.1=k:=λz=>e (h.1.trans (hx.1.trans z));have b:atKey (x::xs') k=atKey xs' k:=by simp[atKey,y1D,e']
    rw[b];unfold cF;rw[if_neg e];exact ih tx
def jF{κ:Type}[DecidableEq κ](kvs:C_ (κ×PV))(k:κ)(p:PV):C_ (κ×PV):=if(cF kvs k).isSome then kvs.map (λkv=>if kv.1=k then(kv.1,p) else kv) else kvs++[(k,p)]
theorem HD.replace{a:u_}{kvs:C_ (PV×PV)}{xs:C_ (PV×u_×s_)}(r:RKd C φ H kvs ks)(rx:yV ks xs)(k:PV)(rp:RV C φ H p v)(ru:RelV v u):
  ∃aq,RKd C φ H (kvs.map λkv=>if kv.1=k then(kv.1,p) else kv) aq/\yV aq (xs.map (putAt k u)):=by
 unfold RKd at r
 induction r generalizing xs with
 |nil=>cases rx;exact⟨[],.nil,.nil⟩
 | @cons pp q ps qs h t ih=>
  cases rx with
  | @cons q' x qs' xs' hx tx=>
   let⟨aq,r1,r2⟩:=ih tx;by_cases e:pp.1=k
   ·refine⟨(q.1,q.2.1,v)::aq,.cons ?_ r1,.cons ?_ r2⟩
    ·simp only[if_pos e];exact⟨h.1,h.2.1,h.2.2.1,rp⟩
    ·unfold putAt;rw[if_pos (hx.1.symm.trans (h.1.symm.trans e))];exact⟨hx.1,hx.2.1,ru⟩
   ·refine⟨q::aq,.cons ?_ r1,.cons ?_ r2⟩
    ·simp only[if_neg e];exact h
    ·unfold putAt;rw[if_neg λz=>e (h.1.trans (hx.1.trans z))];exact hx
theorem HD.put{a b:u_}{kvs:C_ (PV×PV)}{ks:C_ (PV×u_×V)}{xs:C_ (PV×u_×s_)}(r:RKd C φ H kvs ks)(rx:yV ks xs){k:PV}(hk:k.ky 6=true)(rk:RV C φ H k (.ref b)){p:PV}{v:V}{u:s_}(rp:RV C φ H p v)(ru:RelV v u):
  ∃aq,RKd C φ H (jF kvs k p) aq/\yV aq (storedH xs k b u):=by
 have hv:=HD.val (a:=b) r rx k;unfold jF storedH;cases e1:cF kvs k with
 |some p0=>
  rw[e1]at hv;cases e2:atKey xs k with
  |none=>rw[e2]at hv;exact hv.elim
  |some z=>exact HD.replace (a:=b) r rx k rp ru
 |none=>
  rw[e1]at hv;cases e2:atKey xs k with
  |some z=>rw[e2]at hv;exact hv.elim
  |none=>exact⟨ks++[(k,b,v)],Paired.snoc r ⟨rfl,hk,rk,rp⟩,Paired.snoc rx ⟨rfl,rfl,ru⟩⟩
theorem HD.isSome(r:RKd C φ H kvs ks)(rx:yV ks xs)(k:PV):(atKey xs k).isSome=(cF kvs k).isSome:=by
 have hv:=HD.val (a:=0) r rx k;cases e1:cF kvs k with
 |some p0=>
  rw[e1]at hv;cases e2:atKey xs k with
  |none=>rw[e2]at hv;exact hv.elim
  |some z=>rfl
 |none=>
  rw[e1]at hv;cases e2:atKey xs k with
  |some z=>rw[e2]at hv;exact hv.elim
  |none=>rfl
def Bp(I:Inv X FR σ H s)(hK:X.K=C.K){p:PV}{b:u_}(hk:p.isKt=true)(r:RV C φ H p (.ref b)):(wA X.prog X.w).is s.heap p b:=⟨wK hk,Mw I hK 6 (wK hk) r rfl⟩
end
section
variable{C:MC}{k:Nat}{X:Cx}
theorem Cxt.room6(c:Cxt C k X):(wA X.prog X.w).room X.A.in1:=by
 have:=c.hu64
 show X.A.units+1+6<cLine
 omega
def rE(x y:PV)(h:PH):D_ (D_ PV):=match y with
 |.ref n=>if x.isKt=true then(bW h n).map λkvs=>cF kvs x else b_
 |_=>b_
def Jb(C:MC):V->V->Hp->(C_ u_->D_ PV->Prop)->Prop:=λx y H R=>∃φ h p n a kvs,RH C φ H h/\RV C φ H p x/\y=.ref a/\φ[n]?=a_ a/\bW h n=a_ kvs/\p.isKt=true/\R φ (cF kvs p)
def uO{R:C_ u_->D_ PV->Prop}(rh:RH C φ H h)(rx:RV C φ H p x)(ry:RV C φ H q y)(e:rE p q h=a_ o)(r:R φ o):Jb C x y H R:=by
 unfold rE at e;cases q with
 |ref n=>
  let⟨a,rfl,ha⟩:=ry;dsimp only at e;split at e
  ·rename_i hk;cases e1:bW h n with
   |none=>rw[e1]at e;cases e
   |some kvs=>rw[e1]at e;cases e;exact⟨φ,h,p,n,a,kvs,rh,rx,rfl,ha,e1,hk,r⟩
  ·cases e
 |_=>cases e
def Pl(c:Cxt C k X):OpR X (ZZ .In) (λx y H Q=>Jb C x y H λ_ o=>Q (.bl o.isSome) H):=λFR s σ H x y v u Q I rx ry h=>by
 let⟨φ,h,p,n,a,kvs,rh,rp,rfl,ha,ht,hk,q⟩:=h;cases ry
 let⟨b,rfl⟩:=pF hk rp;cases rx
 let⟨⟨ks,xs,r,ba,hz,hm,dd⟩,_⟩:=wL I c.K c.w rh ha ht;refine wpAny_in_heap c.room6 (Bp I c.K hk rp) hm dd ?_;rw[HD.isSome r ba p];exact⟨.bl _,H,I.tok _,rfl,q⟩
def HJ(c:Cxt C k X):OpR X (ZZ .NotIn) (λx y H Q=>Jb C x y H λ_ o=>Q (.bl (!o.isSome)) H):=λFR s σ H x y v u Q I rx ry h=>by
 let⟨φ,h,p,n,a,kvs,rh,rp,rfl,ha,ht,hk,q⟩:=h;cases ry
 let⟨b,rfl⟩:=pF hk rp;cases rx
 let⟨⟨ks,xs,r,ba,hz,hm,dd⟩,_⟩:=wL I c.K c.w rh ha ht;refine wpAny_notIn_heap c.room6 (Bp I c.K hk rp) hm dd ?_;rw[HD.isSome r ba p];exact⟨.bl _,H,I.tok _,rfl,q⟩
def Kj:PV->PV->PH->Rs PV:=λx y h=>match rE x y h with
 |some o=>.ok (.bl o.isSome) h
 |none=>vIn x y h
def lJ:PV->PV->PH->Rs PV:=λx y h=>match rE x y h with
 |some o=>.ok (.bl (!o.isSome)) h
 |none=>Bd x y h
def V1:OpS C k X (ZZ .In) Kj:=λc=>((Wv c).or (Pl c)).imp λx y H Q h=>by
 let⟨φ,h,p,q,rh,rx,ry,po⟩:=h;unfold Kj at po;cases e:rE p q h with
 |none=>rw[e]at po;exact .inl ⟨φ,h,p,q,rh,rx,ry,po⟩
 |some o=>rw[e]at po;exact .inr (uO rh rx ry e (po.val rh rfl))
def FX:OpS C k X (ZZ .NotIn) lJ:=λc=>((Pe c).or (HJ c)).imp λx y H Q h=>by
 let⟨φ,h,p,q,rh,rx,ry,po⟩:=h;unfold lJ at po;cases e:rE p q h with
 |none=>rw[e]at po;exact .inl ⟨φ,h,p,q,rh,rx,ry,po⟩
 |some o=>rw[e]at po;exact .inr (uO rh rx ry e (po.val rh rfl))
def WO(c:Cxt C k X):IxR X (λx y H Q=>Jb C y x H λφ o=>∃p,o=a_ p/\∀v:V,RV C φ H p v->Q v H):=by
 intro value slice FR s σ H x y v u Q I rx ry h hs;let⟨φ,h,p,n,a,kvs,rh,rp,rfl,ha,ht,hk,p',ep,q⟩:=h;cases rx
 let⟨b,rfl⟩:=pF hk rp;cases ry
 let⟨⟨ks,xs,r,ba,hz,hm,dd⟩,_⟩:=wL I c.K c.w rh ha ht;have hT:=dd.typeIs;have hv:=HD.val (a:=a) r ba p;rw[ep]at hv;cases e2:atKey xs p with
 |none=>rw[e2]at hv;exact hv.elim
 |some z=>
  rw[e2]at hv;let⟨v',ab,br⟩:=hv;unfold subscriptTail;refine Zb ?_;rw[getitemInPython_of_ne hT.not_modules];refine Zb (y2t hT PySem.F.slot_dict_getitem.lookup ?_);have fin:wpAny (h_ X) X.A (subscripted slice false (.ref a) (.ref b)) (λr s₃=>wpAny (h_ X) X.A (letTemporaryGo value (.ref a) r >>= λ_=>pure r) (EP X FR σ Q) X.xe s₃) X.xe s:=by rw[hs];exact wpAny_operating (wpAny_getItem_heap c.room6 (Bp I c.K hk rp) dd e2 (Zb (wpAny_letTemporaryGo (Zd ⟨v',H,I.tok _,ab,q v' br⟩))))
  first
   |exact Zd (Zb fin)
   |exact Zb (Zd (Zb fin))
   |exact Zb fin
def vAt:PV->PV->PH->Rs PV:=λx y h=>match rE y x h with
 |some (a_ p)=>.ok p h
 |some b_=>.bad
 |none=>vIx x y h
def dG(ha:SE C k X a ma)(hb:SE C k X b mb)(hs:IJ b:=by intro _ _;rfl):SE C k X (.Subscript a b pos) (aG vAt ma mb):=λc=>
 (U' ((ixC c.hu C.K c.K).or (WO c)) (ha c) (hb c) hs).imp λσ H Q h=>by
  let⟨φ,δ,h,rh,re,p⟩:=IV h;refine⟨φ,δ,h,rh,re,p.imp ?_⟩;rintro v H1 ⟨φ,δ,h,rh,re,p⟩;refine⟨φ,δ,h,rh,re,p.imp ?_⟩;rintro u H2 ⟨φ,h,p,q,rh,rx,ry,po⟩;unfold vAt at po;cases e:rE q p h with
  |none=>rw[e]at po;exact .inl (UB ⟨φ,h,p,q,rh,rx,ry,po⟩)
  |some o=>
   rw[e]at po;cases o with
   |none=>exact po.elim
   |some r=>exact .inr (uO rh ry rx e ⟨r,rfl,λv' rv=>po.val rh rv⟩)
def HK(x y v:PV)(h:PH):D_ PH:=match x with
 |.ref n=>match HE y,h[n]? with
  |some key,a_ (.dK kvs)=>if kvs.length<Zq then a_ (h.set n (.dK (jF kvs key v))) else b_
  |some _,_=>b_
  |none,_=>if y.isKt=true then(match bW h n with
   |some kvs=>if kvs.length<Zq then a_ (h.set n (.dD (jF kvs y v))) else b_
   |none=>b_) else b_
 |_=>b_
def HL{φ:C_ u_}{H:Hp}{κ:Type}[DecidableEq κ]{kvs:C_ (κ×PV)}{ks:C_ (κ×V)}(r:RKv C φ H kvs ks)(a:κ):(cF kvs a).isSome=(oC ks a).isSome:=by
 have:=yQ r a;cases e1:cF kvs a with
 |none=>
  cases e2:oC ks a with
  |none=>rfl
  |some v=>rw[e1,e2]at this;exact this.elim
 |some p=>
  cases e2:oC ks a with
  |none=>rw[e1,e2]at this;exact this.elim
  |some v=>rfl
def FY{φ:C_ u_}{H:Hp}{κ:Type}[DecidableEq κ]{kvs:C_ (κ×PV)}{ks:C_ (κ×V)}(r:RKv C φ H kvs ks)(a:κ){p:PV}{v:V}(rp:RV C φ H p v):RKv C φ H (jF kvs a p) (putK ks a v):=by
 unfold jF putK;rw[AY,HL r a];split
 ·rename_i hx;clear hx;unfold RKv at r⊢
  induction r with
  |nil=>exact .nil
  | @cons p' q' ps qs h t ih=>
   refine .cons ?_ ih;by_cases e:p'.1=a
   ·have e':q'.1=a:=h.1.symm.trans e;simp only[if_pos e,if_pos e'];exact⟨h.1,rp⟩
   ·have e':¬ q'.1=a:=λz=>e (h.1.trans z);simp only[if_neg e,if_neg e'];exact h
 ·exact Paired.snoc r ⟨rfl,rp⟩
def DA{φ:C_ u_}{H:Hp}{h h':PH}{px py pv:PV}{x y v:V}(c:Cxt C k X)(rh:RH C φ H h)(rx:RV C φ H px x)(ry:RV C φ H py y)(rv:RV C φ H pv v)(e:HK px py pv h=a_ h'){FR:g_ 0}{σ:St}{s:t_}{xu yu vu:s_}
  {Q:j_ Unit} (I:Inv X FR σ H s) (jd:RelV x xu) (de:RelV y yu) (iz:RelV v vu) (q:∀s' H',Inv X FR σ H' s'->Kp H H'->RH C φ H' h'->Q () s'):wpAny (h_ X) X.A (setItem xu yu vu) Q X.xe s:=by
 unfold HK at e;cases px with
 |ref n=>
  let⟨a,rfl,ha⟩:=rx;cases jd
  dsimp only at e;split at e
  ·rename_i key kvs ah hk;split at e
   ·rename_i hl;cases e
    let⟨ks,hH,rk⟩:=rh.at' n a _ ha hk;have ey:y=kV key:=HF ry ah;subst ey;have cy:ks.length<Zq:=by rw[<-Z0 rk];exact hl
    refine JO c.hu I (.k hH cy) de iz λs' I'=>q s' _ I' (Kp.dK hH) ?_;refine rh.write ha (by rw[hH];exact y00) ⟨_,bX,?_⟩;exact(FY rk key rv).mono Zm (Kp.dK hH)
   ·cases e
  ·cases e
  ·split at e
   ·rename_i hk;split at e
    ·rename_i kvs ht;split at e
     ·rename_i hl;cases e
      let⟨b,rfl⟩:=pF hk ry;cases de
      let⟨⟨ks,xs,r,ba,hz,hm,dd⟩,mu,nt⟩:=wL I c.K c.w rh ha ht;refine wpAny_setItem_heap (hsz:=hz) c.room6 (Bp I c.K hk ry) dd λh' dw hs=>?_;let⟨aq,r1,r2⟩:=HD.put (a:=a) r ba (wK hk) ry rv iz;let⟨o,es,ep,hq,h2,h3,h4,_,h5⟩:=dw;have fw:aq.length<=Zq:=by
       have e1:=Z0 r1;have e2:(jF kvs py pv).length<=kvs.length+1:=by
        unfold jF;split
        ·rw[Zg];omega
        ·simp
       omega
      refine q _ (upd H a (dDO C.w a aq)) (tE I mu hs ⟨o,hq⟩ ⟨⟨fw,hm,_,r2,o,es,ep,hq,h2,h3,?_,h5⟩,⟨o,hq⟩,?_⟩) (Kp.upd nt) ?_
      ·rw[h4,<-c.w];rfl
      ·rintro g1 g2 ⟨z1,z2,ws,z3,o',es',c5,z4,z5⟩ keep;exact⟨z1,z2,ws,z3,o',es',c5,keep _ z4,z5⟩
      ·exact rh.write ha nt ⟨aq,bX,RKd.mono Zm (Kp.upd nt) r1⟩
     ·cases e
    ·cases e
   ·cases e
 |_=>cases e
end
end L2
namespace L2
def MtG(C:MC)(k:Nat)(X:Cx)(T:String)(ty:PV->PH->Bool)(id:String)(g:PV->C_ PV->PH->Rs PV):Prop:=Cxt C k X->MtR X id (rM C g)/\
 ∀FR s σ H φ h p x v,Inv X FR σ H s->RH C φ H h->RV C φ H p x->RelV x v->ty p h=true->s.TypeIs v T/\∀a,v=.ref a->∃ob,s.heap.get? a=a_ ob/\ob.dict=b_
section
variable{C:MC}{k:Nat}{X:Cx}
section
variable{o e:A_}{es:C_ A_}{mo:Me}{ms:Ma}{name:Str}{apos cpos:Pos}{T id:String}{ty:PV->PH->Bool}{g:PV->C_ PV->PH->Rs PV}
def V2(pa:PlainAttrs T)(slot:Slot T name id)(d8:typeOf (.builtin id)=pure (.type "method_descriptor"))(hm:MtG C k X T ty id g)(ho:SE C k X o mo)(ha:SA C k X (e::es) ms)
  (ak:y1c o name X.env (eval o X.env)=eval o X.env:=by rfl)
  (fh:((backTo cpos (Zx (e::es) X.env)).all (λx=>!x.1)&&(backToKw cpos (keywordEach [] X.env)).all (λx=>x.1.isSome)
   && decide ((e::es).length+([]:C_ Keyword).length+(if([]:C_ Keyword).isEmpty then 0 else 1)<30))=true:=by rfl)
  (ao:(apos.endLine == cpos.line)=true:=by rfl) (hs:Zx (e::es) X.env=(false,eval e X.env)::Zx es X.env:=by rfl) (bo:(backTo cpos (Zx es X.env)).any (·.1)=false:=by rfl):
  SE C k X (.Call (.Attribute o name apos) (e::es) [] cpos) (mMt ty g mo ms):=λc FR s σ H Q I ⟨φ,δ,h,rh,re,p⟩=>by
 refine wpAny_Call_method_late ak fh ao rfl (thn (ho c FR s σ H _ I ⟨φ,δ,h,rh,re,post.bind p⟩) ?_);rintro v s1 ⟨x,H1,I1,r1,φ1,px,h1,p1,t1,aa,ab,q1⟩;let⟨ht,q1⟩:=q1.ite;let⟨g1,g2⟩:=(hm c).2 FR s1 σ H1 φ1 h1 px x v I1 aa ab r1 ht;refine⟨T,id,pa,slot,d8,g1,g2,?_⟩;have hA:=ha c cpos FR s1 σ H1 _ I1 ⟨φ1,δ,h1,aa,re.mono p1 t1,postA.bind q1⟩;rw[hs]at hA⊢;refine y2k (show(false || (backTo cpos (Zx es X.env)).any (·.1))=false by rw[bo];rfl) (Calls.evalArgs_plain (thn hA ?_));rintro us s2 ⟨vs,H2,I2,r2,φ2,ps,h2,p2,t2,aj,br,q2⟩;exact(hm c).1 FR s2 σ H2 x vs v us Q I2 r1 r2 ⟨φ2,h2,px,ps,aj,ab.mono p2 t2,br,q2⟩
def V3(pa:PlainAttrs T)(slot:Slot T name id)(d8:typeOf (.builtin id)=pure (.type "method_descriptor"))(hm:MtG C k X T ty id g)(ho:SE C k X o mo)
  (ak:y1c o name X.env (eval o X.env)=eval o X.env:=by rfl) (ao:(apos.endLine == cpos.line)=true:=by rfl):SE C k X (.Call (.Attribute o name apos) [] [] cpos) (Ej ty g mo):=λc FR s σ H Q I ⟨φ,δ,h,rh,re,p⟩=>by
 refine wpAny_Call_method0_late ak ao (thn (ho c FR s σ H _ I ⟨φ,δ,h,rh,re,post.bind p⟩) ?_);rintro v s1 ⟨x,H1,I1,r1,φ1,px,h1,p1,t1,aa,ab,q1⟩;let⟨ht,q1⟩:=q1.ite;let⟨g1,g2⟩:=(hm c).2 FR s1 σ H1 φ1 h1 px x v I1 aa ab r1 ht;exact⟨T,id,pa,slot,d8,g1,g2,y2k rfl (PySem.evalArgs_none ((hm c).1 FR s1 σ H1 x [] v [] Q I1 r1 .nil ⟨φ1,h1,px,[],aa,ab,trivial,q1⟩))⟩
end
def qU(x:PV)(h:PH):Bool:=match x with
 |.ref n=>match h[n]? with
  |some (.dK _)=>true
  |some (.dD _)=>true
  |_=>false
 |_=>false
def Bq(c:Cxt C k X):∀FR s σ H φ h p x v,Inv X FR σ H s->RH C φ H h->RV C φ H p x->RelV x v->qU p h=true->s.TypeIs v "dict" /\ ∀a,v=.ref a->∃ob,s.heap.get? a=a_ ob/\ob.dict=b_:=by
 intro FR s σ H φ h p x v I rh rv r e;unfold qU at e;cases p with
 |ref n=>
  let⟨a,rfl,ha⟩:=rv;cases r
  dsimp only at e;split at e
  ·rename_i kvs hk;let⟨ks,hH,rk⟩:=rh.at' n a _ ha hk;let⟨z,hd,vs,rel,dd⟩:=Dm I.hok hH;refine⟨dd.typeIs,λb eb=>?_⟩;cases eb
   let⟨ob,_,_,h1,h2,_⟩:=dd;exact⟨ob,h1,h2.2.1⟩
  ·rename_i kvs hk;have ht:bW h n=a_ kvs:=by unfold bW;rw[hk]
   let⟨⟨ks,xs,r,ba,hz,hm,dd⟩,_⟩:=wL I c.K c.w rh ha ht;refine⟨dd.typeIs,λb eb=>?_⟩;cases eb
   let⟨ob,_,_,h1,h2,_⟩:=dd;exact⟨ob,h1,h2.2.1⟩
  ·cases e
 |_=>cases e
end
def Kk(x:C_ Key):C_ (C_ Key)->C_ (C_ Key)
 |[]=>[x]
 |y::ys=>if nB y x=true then y::Kk x ys else x::y::ys
def yW:C_ (C_ Key)->C_ (C_ Key)
 |[]=>[]
 |x::xs=>Kk x (yW xs)
theorem yX(x:C_ Key):∀ys,(Kk x ys).Perm (x::ys)
 |[]=>.refl _
 |y::ys=>by
  unfold Kk;split
  ·exact((yX x ys).cons y).trans (.swap x y ys)
  ·exact .refl _
theorem kB:∀xs,(yW xs).Perm xs
 |[]=>.refl _
 |x::xs=>(yX x _).trans ((kB xs).cons x)
theorem A5{S:C_ Bool}{x:C_ Key}(hx:shape x=S):∀{ys:C_ (C_ Key)},(∀y∈ys,shape y=S)->ys.Pairwise (λa b=>nB b a=false)->(Kk x ys).Pairwise (λa b=>nB b a=false)
 |[],_,_=>y2c _ _
 |y::ys,hs,hp=>by
  have hy:=hs y Zn;have ig:=λz hz=>hs z (Zh _ hz);rw[y0O]at hp;unfold Kk;split
  ·rename_i h;rw[y0O];refine⟨λz hz=>?_,A5 hx ig hp.2⟩;rcases Zs.mp ((yX x ys).mem_iff.mp hz) with rfl|hz
   ·exact IR h
   ·exact hp.1 z hz
  ·rename_i h;have h':nB y x=false:=by simpa using h
   rw[y0O];refine⟨λz hz=>?_,y0O.mpr hp⟩;rcases Zs.mp hz with rfl|hz
   ·exact h'
   ·exact IS (hx.trans hy.symm) (hy.trans (ig z hz).symm) h' (hp.1 z hz)
theorem uD:∀{xs:C_ (C_ Key)},(∀y∈xs,shape y=S)->(yW xs).Pairwise (λa b=>nB b a=false)
 |[],_=>.nil
 |x::xs,hs=>A5 (hs x Zn) (λy hy=>hs y (Zh _ ((kB xs).mem_iff.mp hy))) (uD λy hy=>hs y (Zh _ hy))
def HM{S:C_ Bool}{xs ys:C_ (C_ Key)}(hs:∀y∈xs,shape y=S)(hp:ys.Perm xs)(h:ys.Pairwise (λa b=>nB b a=false)):ys=yW xs:=by refine y22 (le:=λa b=>nB b a=false) (λa b ha hb h1 h2=>?_) h (uD hs) (hp.trans (kB xs).symm);exact FC ((hs a (hp.mem_iff.mp ha)).trans (hs b ((kB xs).mem_iff.mp hb)).symm) h2 h1
def kP:Key->PV
 |.inl i=>.int i
 |.inr x=>.str x
def QW:C_ PV->D_ (C_ Key)
 |[]=>a_ []
 |x::xs=>match HE x,QW xs with
  |some a,a_ r=>a_ (a::r)
  |_,_=>b_
def QX:C_ PV->D_ (C_ (C_ Key))
 |[]=>a_ []
 |.tup xs::r=>match QW xs,QX r with
  |some a,a_ b=>a_ (a::b)
  |_,_=>b_
 |_::_=>b_
def WQ(au:C_ (C_ Key)):Bool:=match au with
 |[]=>true
 |a::r=>(!a.isEmpty)&&r.all λx=>shape x == shape a
section
variable{C:MC}{k:Nat}{X:Cx}
theorem RH.same(r:RH C φ H h)(s:AX H H1):RH C φ H1 h:=⟨r.len,r.nd,λn b ob h1 h2=>by have q:=r.at' n b ob h1 h2;let⟨u,hu⟩:=q.some;exact q.stay Zm (Kp.same s) ((s _ _ hu).trans hu.symm)⟩
def Pm{a b:Str}:nB [.inr a] [.inr b]=decide (a.cps.toList<b.cps.toList):=by
 unfold nB;split
 ·rename_i e;cases e
  simp[nB,List.lt_irrefl]
 ·rfl
theorem Ep:∀{ss:C_ Str}{vs:C_ V},RVs C φ H (ss.map PV.str) vs↔vs=ss.map V.str
 |[],[]=>by simp[RVs]
 |[],_::_=>by simp[RVs]
 |_::_,[]=>by simp[RVs]
 |x::ss,v::vs=>by simp only[ZM,RVs,List.cons.injEq];exact and_congr Iff.rfl Ep
end
end L2
namespace L2
open PySem
section
variable{h:PH}
@[simp]theorem V4:rE x (.tup xs) h=b_:=(rfl)
@[simp]theorem VX:rE x (.fl xs) h=b_:=(rfl)
@[simp]theorem TJ:rE x (.str z) h=b_:=(rfl)
@[simp]theorem V5:rE (.int i) y h=b_:=by cases y <;> rfl
def Mx(e:h[n]?=a_ (.lst xs)):rE x (.ref n) h=b_:=by unfold rE bW;simp[e]
@[simp]theorem VY:vAt x (.int i) h=vIx x (.int i) h:=by unfold vAt;simp
def A6(e:h[n]?=a_ (.lst xs)):lJ x (.ref n) h=Bd x (.ref n) h:=by unfold lJ;rw[Mx e]
end
end L2
namespace L2
section
variable{C:MC}{k:Nat}{X:Cx}
def tI:PV->C_ PV->PH->Rs PV:=λx ps h=>match x,ps with
 |.ref n,[y,z]=>match HE y with
  |some key=>match h[n]? with
   |some (.dK kvs)=>match cF kvs key with
    |some p=>.ok p h
    |none=>if kvs.length<Zq then .ok z (h.set n (.dK (jF kvs key z))) else .bad
   |_=>.bad
  |none=>if y.isKt=true then(match bW h n with
   |some kvs=>match cF kvs y with
    |some p=>.ok p h
    |none=>if kvs.length<Zq then .ok z (h.set n (.dD (jF kvs y z))) else .bad
   |none=>.bad) else .bad
 |_,_=>.bad
def My{κ:Type}[DecidableEq κ](kvs:C_ (κ×PV))(a:κ)(p:PV):(jF kvs a p).length<=kvs.length+1:=by
 unfold jF;split
 ·rw[Zg];omega
 ·simp
def CD(c:Cxt C k X):MtR X "dict.setdefault" (rM C tI):=λFR s σ H x xs v us Q I rx rs h=>by
 let⟨φ,h,p,ps,rh,rp,nv,po⟩:=h;unfold tI at po;split at po
 ·rename_i n y z;let⟨a,rfl,ha⟩:=rp;cases rx
  let⟨yv,zv,rfl,ry,rz⟩:=nv.two;let⟨yu,zu,rfl,de,kh⟩:=vals2 rs;split at po
  ·rename_i key ah;split at po
   ·rename_i kvs hk;let⟨ks,hH,rk⟩:=rh.at' n a _ ha hk;have ey:=HF ry ah;subst ey;let⟨hz,hd,vs,rel,dd⟩:=Dm I.hok hH;have Yu:vs.length<=Zq:=by rw[<-rel.length];exact hz
    have lv:=yQ rk key;have rv:=rel.val key;refine call_meetsIn y2p dd.typeIs PySem.F.entry_dict_setdefault (PySem.F.args_dict_setdefault_3 _ _ _) (oX (fC X.prog X.w) a hd (Dj de) zu) ⟨vs,dd,Yu,λv e=>?_,λe h' dw hs=>?_⟩
    ·rw[e]at rv;cases e1:oC ks key with
     |none=>rw[e1]at rv;exact rv.elim
     |some v1=>
      rw[e1]at rv lv;cases e2:cF kvs key with
      |none=>rw[e2]at lv;exact lv.elim
      |some p1=>rw[e2]at lv po;exact⟨v1,H,I.tok _,rv,po.val rh lv⟩
    ·rw[e]at rv;cases e1:oC ks key with
     |some v1=>rw[e1]at rv;exact rv.elim
     |none=>
      rw[e1]at lv;cases e2:cF kvs key with
      |some p1=>rw[e2]at lv;exact lv.elim
      |none=>
       rw[e2]at po;let⟨hl,po⟩:=po.ite;have cy:(putK ks key zv).length<=Zq:=by have:=rK ks key zv;have e3:=Z0 rk;omega
       have he:∃q,h'.get? a=a_ q:=let ⟨q,_,_,hq,_⟩:=dw;⟨q,hq⟩;refine⟨zv,upd H a (.dK (putK ks key zv)),tE I (by rw[hH];exact y00) hs he (Ln cy hd (rel.put key kh) dw),kh,?_⟩;have kp:Kp H (upd H a (.dK (putK ks key zv))):=Kp.dK hH;exact po φ zv _ Zm kp (rh.write ha (by rw[hH];exact y00) ⟨_,bX,(FY rk key rz).mono Zm kp⟩) (rz.mono Zm kp)
   ·exact po.elim
  ·let⟨hk,po⟩:=po.ite;split at po
   ·rename_i kvs ht;let⟨b,rfl⟩:=pF hk ry;cases de
    let⟨⟨ks,xs,r,ba,hz,hm,dd⟩,mu,nt⟩:=wL I c.K c.w rh ha ht;have hv:=HD.val (a:=a) r ba y;refine call_meetsIn y2p dd.typeIs PySem.F.entry_dict_setdefault (PySem.F.args_dict_setdefault_3 _ _ _) (rD (wA X.prog X.w) a b hm zu) ⟨c.room6,y,xs,Bp I c.K hk ry,dd,hz,λp e=>?_,λe h' dw hs=>?_⟩
    ·rw[e]at hv;cases e2:cF kvs y with
     |none=>rw[e2]at hv;exact hv.elim
     |some p1=>rw[e2]at hv po;let⟨v',ab,br⟩:=hv;exact⟨v',H,I.tok _,ab,po.val rh br⟩
    ·rw[e]at hv;cases e2:cF kvs y with
     |some p1=>rw[e2]at hv;exact hv.elim
     |none=>
      rw[e2]at po;let⟨hl,po⟩:=po.ite;let⟨aq,r1,r2⟩:=HD.put (a:=a) r ba (wK hk) ry rz kh;let⟨o,es,ep,hq,h2,h3,h4,_,h5⟩:=dw;have fw:aq.length<=Zq:=by have e1:=Z0 r1;have e3:=My kvs y z;omega
      refine⟨zv,upd H a (dDO C.w a aq),tE I mu hs ⟨o,hq⟩ ⟨⟨fw,hm,_,r2,o,es,ep,hq,h2,h3,?_,h5⟩,⟨o,hq⟩,?_⟩,kh,?_⟩
      ·rw[h4,<-c.w];rfl
      ·rintro g1 g2 ⟨z1,z2,ws,z3,o',es',c5,z4,z5⟩ keep;exact⟨z1,z2,ws,z3,o',es',c5,keep _ z4,z5⟩
      ·exact po φ zv _ Zm (Kp.upd nt) (rh.write ha nt ⟨aq,bX,RKd.mono Zm (Kp.upd nt) r1⟩) (rz.mono Zm (Kp.upd nt))
   ·exact po.elim
 ·exact po.elim
def Er:MtG C k X "dict" qU "dict.setdefault" tI:=λc=>⟨CD c,Bq c⟩
def A7{κ:Type}[DecidableEq κ](kvs:C_ (κ×PV))(a:κ):C_ (κ×PV):=kvs.filter λkv=>decide (kv.1≠a)
end
section
variable{C:MC}{k:Nat}{X:Cx}
def tJ(h:PH)(d:Nat):D_ (C_ PV):=match h[d]? with
 |some (.dK kvs)=>a_ (kvs.map (·.2))
 |some (.dD kvs)=>a_ (kvs.map (·.2))
 |_=>b_
def Br{prog:z_}{w:y_}{K:Type}[DecidableEq K]{knd:KeyKind prog w K}{es:C_ y1q}{kvs:C_ (K×s_)}(h:Pairs knd es kvs):es.map (·.val)=kvs.map (·.2):=by
 apply y01;intro i;rw[Zr,Zr];have hl:=h.length;by_cases hi:i<es.length
 ·have e1:es[i]?=a_ es[i]:=by simp[hi]
  have ax:i<kvs.length:=⋯;have e2:kvs[i]?=a_ (kvs[i].1,kvs[i].2):=by simp[ax]
  rw[e1,e2];exact congrArg a_ (h.get? e1 e2).2
 ·rw[y1Q ⋯,y1Q ⋯];rfl
def Mz{FR:g_ 0}{σ:St}{H:Hp}{s:t_}{φ:C_ u_}{h:PH}{d:Nat}{b:u_}{xs:C_ PV}(c:Cxt C k X)(I:Inv X FR σ H s)(rh:RH C φ H h)(hb:φ[d]?=a_ b)(e:tJ h d=a_ xs):
  s.TypeIs (.ref b) "dict" /\ (b == y0p)=false/\xs.length<=Zq/\∃oc es ep,s.heap.get? b=a_ oc/\oc.data=.dict es ep/\∃ws,RVs C φ H xs ws/\bN ws (es.toList.map (·.val)):=by
 unfold tJ at e;split at e
 ·rename_i kvs hk;cases e
  let⟨ks,hH,rk⟩:=rh.at' d b _ hb hk;let⟨z,hd,vs,rel,dd⟩:=Dm I.hok hH;refine⟨dd.typeIs,hd,by rw[Zg,Z0 rk];exact z,?_⟩;let⟨oc,es,ep,g1,g2,g3,g4,g5,g6⟩:=dd;refine⟨oc,es,ep,g1,g3,ks.map (·.2),?_,?_⟩
  ·unfold RKv at rk;clear hk hH rel z
   induction rk with
   |nil=>trivial
   |cons q t ih=>exact⟨q.2,ih⟩
  ·rw[Br g5];clear hk hH g4 g5 g6 z;unfold KV at rel;clear rk
   induction rel with
   |nil=>exact .nil
   |cons q t ih=>exact .cons q.2 ih
 ·rename_i kvs hk;cases e
  have ht:bW h d=a_ kvs:=by unfold bW;rw[hk]
  let⟨⟨ks,ys,r,ba,hz,hm,dd⟩,_⟩:=wL I c.K c.w rh hb ht;have hlen:kvs.length=ys.length:=(Z0 r).trans (Z0 ba);refine⟨dd.typeIs,hm,by rw[Zg,hlen];exact hz,?_⟩;let⟨oc,es,ep,g1,g2,g3,g4,g5,g6⟩:=dd;refine⟨oc,es,ep,g1,g3,ks.map (·.2.2),?_,?_⟩
  ·unfold RKd at r;clear hk ht ba hlen
   induction r with
   |nil=>trivial
   |cons q t ih=>exact⟨q.2.2.2,ih⟩
  ·rw[g4,Z7];clear hk ht r hlen hz g4 g5 g6
   induction ba with
   |nil=>exact .nil
   |cons q t ih=>exact .cons q.2.2 ih
 ·cases e
def MA(h:PH)(n:Nat):D_ (C_ PV):=match h[n]? with
 |some (.vw 1 d)=>tJ h d
 |_=>b_
end
section
variable{h:PH}
def Pn(e:h[n]?=a_ (.dD kvs)):bW h n=a_ kvs:=by simp[bW,e]
def Kl{kvs:C_ (PV×PV)}(e:bW h n=a_ kvs)(hk:(PV.tup xs).ky 6=true)(hl:kvs.length<16777216):
  tI (.ref n) [.tup xs,z] h=match cF kvs (.tup xs) with|some p=>.ok p h|none=>.ok z (h.set n (.dD (jF kvs (.tup xs) z))):=by
 have k1:(PV.tup xs).isKt=true:=hk;have cy:kvs.length<Zq:=by rw[lI];exact hl
 unfold tI;simp only[HE,k1,if_true,e];cases cF kvs (.tup xs) with
 |some p=>rfl
 |none=>simp only[if_pos cy]
end
end L2
namespace L2
open PySem.SeqAt PySem.W
def Bs(l:C_ Nat):C_ Int:=l.map (λ(c:Nat)=>(c:Int)+2)++[1]
mutual
def enc:PV->C_ Int
 |.int i=>[i]
 |.str x=>Bs x.cps.toList
 |.tup xs=>wM xs
 |_=>[]
def wM:C_ PV->C_ Int
 |[]=>[0]
 |x::xs=>1::(enc x++wM xs)
end
def tK(a:Nat)(l:C_ Nat):Bs (a::l)=((a:Int)+2)::Bs l:=rfl
theorem Jc:∀(a b:C_ Nat)(s t:C_ Int),a≠b->((Bs a++s<Bs b++t)↔a<b)
 |[],[],_,_,h=>(h rfl).elim
 |[],b::bs,s,t,_=>by
  rw[tK]
  show(1::s<((b:Int)+2)::(Bs bs++t))↔_
  rw[y0l];constructor
  ·intro _;exact List.nil_lt_cons _ _
  ·intro _;left;omega
 |a::as,[],s,t,_=>by
  rw[tK]
  show(((a:Int)+2)::(Bs as++s)<1::t)↔_
  rw[y0l];constructor
  ·rintro(h|⟨h,_⟩) <;> omega
  ·intro h;exact(List.not_lt_nil _ h).elim
 |a::as,b::bs,s,t,h=>by
  rw[tK,tK]
  show(((a:Int)+2)::(Bs as++s)<((b:Int)+2)::(Bs bs++t))↔_
  rw[y0l,y0l];by_cases e:a=b
  ·subst e;have h':as≠bs:=λz=>h (by rw[z]);have ih:=Jc as bs s t h';constructor
   ·rintro(h1|⟨_,h1⟩)
    ·omega
    ·exact .inr ⟨rfl,ih.mp h1⟩
   ·rintro(h1|⟨_,h1⟩)
    ·omega
    ·exact .inr ⟨rfl,ih.mpr h1⟩
  ·constructor
   ·rintro(h1|⟨h1,_⟩) <;> (left;omega)
   ·rintro(h1|⟨h1,_⟩)
    ·left;omega
    ·exact(e h1).elim
def HN:∀(n:Nat)(x y:PV)(c:Bool)(s t:C_ Int),x≠y->ltP n x y=a_ c->((enc x++s<enc y++t)↔c=true):=by
 intro n;have one:∀(a b:Int)(c:Bool)(s t:C_ Int),PV.int a≠.int b->a_ (decide (a<b))=a_ c->(([a]++s < [b]++t)↔c=true):=λa b c s t h e=>by
  cases e
  have h':a≠b:=λz=>h (by rw[z])
  show(a::s<b::t)↔_
  rw[y0l,decide_eq_true_eq];constructor
  ·rintro(h1|⟨h1,_⟩)
   ·exact h1
   ·exact(h' h1).elim
  ·intro h1;exact .inl h1
 have two:∀(a b:Str)(c:Bool)(s t:C_ Int),PV.str a≠.str b->a_ (decide (a.cps.toList<b.cps.toList))=a_ c->((Bs a.cps.toList++s<Bs b.cps.toList++t)↔c=true):=λa b c s t h e=>by
  cases e
  rw[Jc _ _ s t (λz=>h (by rw[IQ z])),decide_eq_true_eq]
 induction n with
 |zero=>intro x y c s t h e;cases x <;> cases y <;> first|exact one _ _ c s t h e|exact two _ _ c s t h e|(simp[ltP]at e)
 |succ n ih=>
  have lists:∀(xs ys:C_ PV)(c:Bool)(s t:C_ Int),xs≠ys->ltL (ltP n) xs ys=a_ c->((wM xs++s<wM ys++t)↔c=true):=by
   intro xs
   induction xs with
   |nil=>
    intro ys c s t h e;cases ys with
    |nil=>exact(h rfl).elim
    |cons y ys=>
     cases e
     show(0::s<1::((enc y++wM ys)++t))↔_
     rw[y0l];constructor
     ·intro _;rfl
     ·intro _;left;omega
   |cons x xs ihx=>
    intro ys c s t h e;cases ys with
    |nil=>
     cases e
     show(1::((enc x++wM xs)++s)<0::t)↔_
     rw[y0l];constructor
     ·rintro(h1|⟨h1,_⟩) <;> omega
     ·intro h1;cases h1
    |cons y ys=>
     show(1::((enc x++wM xs)++s)<1::((enc y++wM ys)++t))↔_
     have e':(if x=y then ltL (ltP n) xs ys else ltP n x y)=a_ c:=e;rw[y0l,y0J,y0J];have key:(enc x++(wM xs++s)<enc y++(wM ys++t))↔c=true:=by
      by_cases xy:x=y
      ·rw[if_pos xy]at e';subst xy;have:=ihx ys c s t (λz=>h (by rw[z])) e';rw[<-this];have cut:∀l:C_ Int,(l++(wM xs++s)<l++(wM ys++t))↔(wM xs++s<wM ys++t):=λl=>by
        induction l with
        |nil=>exact Iff.rfl
        |cons a l ih=>
         show(a::(l++_)<a::(l++_))↔_
         rw[y0l,ih];constructor
         ·rintro(h1|⟨_,h1⟩)
          ·omega
          ·exact h1
         ·intro h1;exact .inr ⟨rfl,h1⟩
       exact cut _
      ·rw[if_neg xy]at e';exact ih x y c _ _ xy e'
     rw[key];constructor
     ·rintro(h1|⟨_,h1⟩)
      ·omega
      ·exact h1
     ·intro h1;exact .inr ⟨rfl,h1⟩
  intro x y c s t h e;cases x <;> cases y <;> first|exact one _ _ c s t h e|exact two _ _ c s t h e|(simp[ltP]at e;done)|exact lists _ _ c s t (λz=>h (by rw[z])) e
def ltN(x y:PV):Bool:=decide (enc x<enc y)
theorem FZ{f:PV->PV->D_ Bool}:∀xs:C_ PV,ltL f xs xs=a_ false
 |[]=>rfl
 |x::xs=>by
  show(if x=x then ltL f xs xs else f x x)=a_ false
  rw[if_pos rfl];exact FZ xs
def MB(h:ltP n x x=a_ c):c=false:=by
 have st:∀{z:Str}{c:Bool},a_ (decide (z.cps.toList<z.cps.toList))=a_ c->c=false:=λ{z c} e=>by
  cases e
  exact decide_eq_false (List.lt_irrefl _)
 have it:∀{z:Int}{c:Bool},a_ (decide (z<z))=a_ c->c=false:=λ{z c} e=>by
  cases e
  exact decide_eq_false (Int.lt_irrefl _)
 cases n with
 |zero=>
  cases x with
  |int i=>exact it h
  |str i=>exact st h
  |_=>simp[ltP]at h
 |succ n=>
  cases x with
  |tup xs=>
   have h':ltL (ltP n) xs xs=a_ c:=h;rw[FZ]at h';cases h'
   rfl
  |int i=>exact it h
  |str i=>exact st h
  |_=>simp[ltP]at h
def Po(x:PV):ltN x x=false:=decide_eq_false (List.lt_irrefl _)
def MD(h:ltP n x y=a_ c):ltN x y=c:=by
 by_cases e:x=y
 ·subst e;rw[MB h];exact Po x
 ·have:=HN n x y c [] [] e h;rw[y1h,y1h]at this;unfold ltN;cases c with
  |true=>exact decide_eq_true (this.mpr rfl)
  |false=>exact decide_eq_false λz=>by cases this.mp z
def Pp(h:ltP n x y=a_ c)(e:enc x=enc y):x=y:=by
 by_cases xy:x=y
 ·exact xy
 ·have h1:=HN n x y c [0] [1] xy h;have h2:=HN n x y c [1] [0] xy h;rw[e]at h1 h2;have cut:∀(l s t:C_ Int),(l++s<l++t)↔(s<t):=λl s t=>by
   induction l with
   |nil=>exact Iff.rfl
   |cons a l ih=>
    show(a::(l++_)<a::(l++_))↔_
    rw[y0l,ih];constructor
    ·rintro(h1|⟨_,h1⟩)
     ·omega
     ·exact h1
    ·intro h1;exact .inr ⟨rfl,h1⟩
  rw[cut]at h1 h2;have t1:([0]:C_ Int) < [1]:=by decide
  have t2:¬ ([1]:C_ Int) < [0]:=by decide
  exact(t2 (h2.mpr (h1.mp t1))).elim
def ME(h1:ltN b a=false)(h2:ltN c b=false):ltN c a=false:=decide_eq_false (y1o.mpr (List.le_trans (y1o.mp (of_decide_eq_false h1)) (y1o.mp (of_decide_eq_false h2))))
def MF(h:ltN a b=true):ltN b a=false:=decide_eq_false (List.lt_asymm (of_decide_eq_true h))
def Sx(h1:ltN a b=false)(h2:ltN b a=false):enc a=enc b:=List.le_antisymm (y1o.mp (of_decide_eq_false h2)) (y1o.mp (of_decide_eq_false h1))
section
variable{α:Type}(key:α->PV)
def Bt(x:α):C_ α->C_ α
 |[]=>[x]
 |y::ys=>if ltN (key y) (key x) then y::Bt x ys else x::y::ys
def oM:C_ α->C_ α
 |[]=>[]
 |x::xs=>Bt key x (oM xs)
theorem yY(x:α):∀ys,(Bt key x ys).Perm (x::ys)
 |[]=>.refl _
 |y::ys=>by
  unfold Bt;split
  ·exact((yY x ys).cons y).trans (.swap x y ys)
  ·exact .refl _
theorem pG:∀xs,(oM key xs).Perm xs
 |[]=>.refl _
 |x::xs=>(yY key x _).trans ((pG xs).cons x)
theorem A8(x:α):∀{ys:C_ α},ys.Pairwise (λa b=>ltN (key b) (key a)=false)->(Bt key x ys).Pairwise (λa b=>ltN (key b) (key a)=false)
 |[],_=>y2c _ _
 |y::ys,h=>by
  unfold Bt;rw[y0O]at h;split
  ·rename_i af;rw[y0O];refine⟨λz hz=>?_,A8 x h.2⟩;rcases Zs.mp ((yY key x ys).mem_iff.mp hz) with rfl|hz
   ·exact MF af
   ·exact h.1 z hz
  ·rename_i af;have qi:ltN (key y) (key x)=false:=by simpa using af
   rw[y0O];refine⟨λz hz=>?_,y0O.mpr h⟩;rcases Zs.mp hz with rfl|hz
   ·exact qi
   ·exact ME qi (h.1 z hz)
theorem pH:∀xs:C_ α,(oM key xs).Pairwise (λa b=>ltN (key b) (key a)=false)
 |[]=>.nil
 |x::xs=>A8 key x (pH xs)
def DB{ys:C_ α}(inj:∀a∈xs,∀b∈xs,enc (key a)=enc (key b)->a=b)(hp:ys.Perm xs)(h:ys.Pairwise (λa b=>ltN (key b) (key a)=false)):ys=oM key xs:=by refine y22 (le:=λa b=>ltN (key b) (key a)=false) (λa b ha hb h1 h2=>?_) h (pH key xs) (hp.trans (pG key xs).symm);exact inj a (hp.mem_iff.mp ha) b ((pG key xs).mem_iff.mp hb) (Sx h2 h1)
end
theorem HP:∀{xs:C_ PV}{ds:C_ D},PV.ds xs=a_ ds->xs.length=ds.length
 |[],ds,h=>by cases h;rfl
 |x::xs,ds,h=>by let⟨d,r,_,h2,rfl⟩:=fA h;simp[HP h2]
theorem MG:∀{xs:C_ PV}{ds:C_ D}{j:Nat}{d:D},PV.ds xs=a_ ds->ds[j]?=a_ d->∃x,xs[j]?=a_ x/\x.d=a_ d
 |[],ds,j,d,h,e=>by cases h;simp at e
 |x::xs,ds,j,d,h,e=>by
  let⟨d',r,h1,h2,rfl⟩:=fA h;cases j with
  |zero=>
   have:d'=d:=by simpa using e
   exact⟨x,rfl,by rw[h1,this]⟩
  |succ j=>
   let⟨y,a,b⟩:=MG (j:=j) h2 (l_ e);exact⟨y,l_ a,b⟩
def rS:∀(n:Nat)(p:PV),p.ky n=true->p.pl n=true:=by
 intro n
 induction n with
 |zero=>intro p h;cases p <;> first|rfl|cases h
 |succ n ih=>
  intro p h;cases p with
  |tup xs=>
   show xs.all (PV.pl n)=true
   rw[Zy];exact λy hy=>ih y (Zy.mp (show xs.all (PV.ky n)=true from h) y hy)
  |_=>first|rfl|cases h
def Sy:∀(n:Nat){A:w_}{s:t_}{p q:PV}{v u:s_}{b:Bool},p.ky n=true->q.ky n=true->A.units+n<cLine->HR s.heap p v->HR s.heap q u->ltP n p q=a_ b->Pj A s v u b:=by
 intro n;have one:∀{A:w_}{s:t_}{i j:Int}{v u:s_}{b:Bool},HR s.heap (.int i) v->HR s.heap (.int j) u->a_ (decide (i<j))=a_ b->Pj A s v u b:=λ{A s i j v u b} r r' e=>by
  let⟨t,rfl⟩:=r;let⟨t',rfl⟩:=r';cases e
  exact λprog w E Q q=>(PyProof.Rows.lt_int q:m_ prog w A (ZZ .Lt _ _) Q E s)
 have two:∀{A:w_}{s:t_}{i j:Str}{v u:s_}{b:Bool},HR s.heap (.str i) v->HR s.heap (.str j) u->a_ (decide (i.cps.toList<j.cps.toList))=a_ b->Pj A s v u b:=λ{A s i j v u b} r r' e=>by
  let⟨t,rfl⟩:=r;let⟨t',rfl⟩:=r';cases e
  exact λprog w E Q q=>(PyProof.Rows.lt_str q:m_ prog w A (ZZ .Lt _ _) Q E s)
 induction n with
 |zero=>
  intro A s p q v u b hp hq hu r r' e;cases p with
  |int i=>
   cases q with
   |int j=>exact one r r' e
   |_=>simp[ltP]at e
  |str i=>
   cases q with
   |str j=>exact two r r' e
   |_=>simp[ltP]at e
  |_=>cases hp
 |succ n ih=>
  intro A s p q v u b hp hq hu r r' e;cases p with
  |int i=>
   cases q with
   |int j=>exact one r r' e
   |_=>simp[ltP]at e
  |str i=>
   cases q with
   |str j=>exact two r r' e
   |_=>simp[ltP]at e
  |tup ps=>
   cases q with
   |tup qs=>
    let⟨a,its,rfl,p1,rs⟩:=r;let⟨a',its',rfl,p2,cu⟩:=r';have kp:∀z∈ps,z.ky n=true:=Zy.mp hp;have kq:∀z∈qs,z.ky n=true:=Zy.mp hq;let⟨d,hd,_⟩:=rQ (n+1) _ (rS _ _ hp);let⟨d',bx,_⟩:=rQ (n+1) _ (rS _ _ hq);have af:=QV (n+1) _ _ d d' (rS _ _ hp) (rS _ _ hq) hd bx;rw[e]at af;let⟨ds,g1,rfl⟩:=dA hd;let⟨es,g2,rfl⟩:=dA bx;have hb':vS ds es=a_ b:=by simpa[ltD] using af
    let⟨⟨cls,dd,data,sl⟩,ho,hc,m,fv⟩:=id p1;let⟨⟨nr,iw,data2,iu⟩,gf,dq,m2,hd2⟩:=id p2;simp only at hc fv dq hd2;subst hc fv dq hd2;intro prog w E Q j9;refine richCompare_meets_room (op:=.Lt) ⟨_,ho,rfl⟩ ⟨_,gf,rfl⟩ PySem.F.slot_tuple_lt PySem.F.entry_tuple_lt (PySem.F.args_tuple_lt_2 _ _) (En a a' its.toArray its'.toArray m m2 dd iw sl iu ds es b hb')
     ⟨ho,gf,⟨?_,?_,?_⟩,show Value.bool b≠Value.notImplemented/\Q (.bool b) s from⟨(λx=>nomatch x),j9⟩⟩ ⋯
    ·have l1:=rs.length;have l2:=HP g1
     show its.length=ds.length
     omega
    ·have l1:=cu.length;have l2:=HP g2
     show its'.length=es.length
     omega
    ·intro j v u d e h1 h2 h3 h4;let⟨x,hx,ex⟩:=MG g1 h3;let⟨y,hy,ey⟩:=MG g2 h4;let⟨v',hv,rv⟩:=rs.at hx;let⟨u',kg,ru⟩:=cu.at hy;have e1:v=v':=by have:its[j]?=a_ v:=h1;rw[hv]at this;exact(ZI this).symm
     have e2:u=u':=by have:its'[j]?=a_ u:=h2;rw[kg]at this;exact(ZI this).symm
     subst e1 e2;have kx:=kp x (ZP hx);have ky:=kq y (ZP hy);have yi:A.in1.units+n<cLine:=by show A.units+1+n<cLine;omega
     refine⟨?_,λ_ b hb=>?_⟩
     ·rw[FW n x y d e (rS _ _ kx) (rS _ _ ky) ex ey];exact HC kx ky yi rv ru
     ·rw[QV n x y d e (rS _ _ kx) (rS _ _ ky) ex ey]at hb;exact ih kx ky yi rv ru hb
   |_=>simp[ltP]at e
  |_=>cases hp
section
variable{prog:z_}{w:y_}{A:w_}{E:f_ 0}{s:t_}
def MH:C_ PV->Prop
 |.tup _::_=>False
 |_=>True
theorem DC{Q:j_ Bool}(hu:A.units+n<cLine):∀(ps qs:C_ PV)(us ws:C_ s_)(i:Nat)(c:Bool),(∀p∈ps,p.ky n=true)->(∀q∈qs,q.ky n=true)->HRs s.heap ps us->HRs s.heap qs ws->ltL (ltP n) ps qs=a_ c->((b&&i == 0)=true->MH ps)->fin=decide (ps.length<qs.length)->Q c s->KatLex prog w A b fin Q (us.zip ws) i s
 |[],[],[],[],i,c,_,_,_,_,hc,_,hf,h=>by
  cases hc
  rw[hf];exact h
 |[],q::qs,[],u::ws,i,c,_,_,_,_,hc,_,hf,h=>by
  cases hc
  rw[hf];exact h
 |p::ps,[],u::us,[],i,c,_,_,_,_,hc,_,hf,h=>by
  cases hc
  rw[hf];exact h
 |p::ps,q::qs,u::us,v::ws,i,c,kp,kq,rs,cu,hc,hn,hf,h=>by
  rw[List.zip_cons_cons];have ae:(if p=q then ltL (ltP n) ps qs else ltP n p q)=a_ c:=hc;have k1:=kp p Zn;have k2:=kq q Zn;refine kat_cons (HC k1 k2 hu rs.1 cu.1 prog w _ _ ?_);by_cases pq:p=q
  ·rw[if_pos pq]at ae;rw[decide_eq_true pq];refine kat_yes (DC hu ps qs us ws (i+1) c (λz hz=>kp z (Zh _ hz)) (λz hz=>kq z (Zh _ hz)) rs.2 cu.2 ae (λz=>?_) ?_ h)
   ·cases b <;> simp at z
   ·rw[hf];simp
  ·rw[if_neg pq]at ae;rw[decide_eq_false pq];refine kat_no ?_;have gen:m_ prog w A (oneLt' false u v) Q (λ_ _=>False) s:=kat_one _ _ (Sy n k1 k2 hu rs.1 cu.1 ae prog w _ (PySem.W.BoolBack Q) h);cases hb:(b&&i == 0) with
   |false=>exact gen
   |true=>
    have ko:=hn hb;cases p with
    |tup _=>exact ko.elim
    |int a=>
     cases q with
     |int d=>
      let⟨t,rfl⟩:=rs.1;let⟨t',rfl⟩:=cu.1;have e:decide (a<d)=c:=by cases n <;> exact ZI ae
      rw[<-e]at h;exact oneLt_int h
     |_=>cases n <;> simp[ltP]at ae
    |str a=>
     cases q with
     |str d=>
      let⟨t,rfl⟩:=rs.1;let⟨t',rfl⟩:=cu.1;have e:decide (a.cps.toList<d.cps.toList)=c:=by cases n <;> exact ZI ae
      rw[<-e]at h;exact oneLt_str h
     |_=>cases n <;> simp[ltP]at ae
    |_=>exact rs.1.elim
 |[],_,_::_,_,_,_,_,_,r,_,_,_,_,_=>r.elim
 |_::_,_,[],_,_,_,_,_,r,_,_,_,_,_=>r.elim
 |_,[],_,_::_,_,_,_,_,_,r,_,_,_,_=>r.elim
 |_,_::_,_,[],_,_,_,_,_,r,_,_,_,_=>r.elim
def MI{p q:PV}{Q:j_ Bool}(hu:A.units+n<cLine)(kp:p.ky (n+1)=true)(kq:q.ky (n+1)=true)(tp:∃ps,p=.tup ps/\(b=true->MH ps))(tq:∃qs,q=.tup qs)(r:HR s.heap p v)(r':HR s.heap q u)(hc:ltP (n+1) p q=a_ c)(h:Q c s):
  m_ prog w A (keyLt' (tuples' b) v u) Q E s:=by
 let⟨ps,rfl,hn⟩:=tp;let⟨qs,rfl⟩:=tq;let⟨a,its,rfl,⟨ox,Yc,_,m,dx⟩,rs⟩:=r;let⟨a',its',rfl,⟨oy,hoy,_,m',dy⟩,cu⟩:=r';refine kat_lt Yc dx hoy dy ?_;have l1:=rs.length;have l2:=cu.length;have e1:decide (its.toArray.size<its'.toArray.size)=decide (ps.length<qs.length):=by simp[l1,l2]
 rw[e1];exact DC hu ps qs its its' 0 c (Zy.mp kp) (Zy.mp kq) rs cu hc (λz=>hn (by cases b <;> simp at z;rfl)) rfl h
def fk:PV->Nat
 |.tup (.int _::_)=>0
 |.tup (.str _::_)=>1
 |.tup (.tup _::_)=>2
 |_=>3
def fkT(m:Nat):s_:=.type (if m=0 then "int" else if m=1 then "str" else "tuple")
theorem Bu(hm:m<3):∀{ps:C_ PV}{vs:C_ s_},HRs s.heap ps vs->(∀p∈ps,fk p=m)->∃fs:C_ s_,fs.length=vs.length/\KatTups s.heap vs fs/\∀f∈fs,Looks (model prog w) s.heap (typeOf f) (fkT m)
 |[],[],_,_=>⟨[],rfl,KatTups.nil,λ_ hf=>nomatch hf⟩
 |p::ps,v::vs,r,hs=>by
  let⟨fs,hl,ht,hT⟩:=Bu hm r.2 λx hx=>hs x (Zh _ hx);have h0:=hs p Zn;have r1:=r.1;cases p with
  |tup xs=>
   let⟨a,its,rfl,⟨o,ho,hc,n,hd⟩,rx⟩:=r1;cases xs with
   |nil=>simp[fk]at h0;omega
   |cons x xs=>
    cases its with
    |nil=>exact rx.elim
    |cons f its=>
     refine⟨f::fs,by simp[hl],KatTups.cons ho hc hd (by simp) ht,λg hg=>?_⟩;rcases Zs.mp hg with rfl|hg
     ·have rf:=rx.1;cases x with
      |int i=>let⟨t,rfl⟩:=rf;have:m=0:=h0.symm;subst this;exact Looks.now
      |str i=>let⟨t,rfl⟩:=rf;have:m=1:=h0.symm;subst this;exact Looks.now
      |tup i=>let⟨a',its',rfl,⟨o',bw,ae,n',bx⟩,_⟩:=rf;have:m=2:=h0.symm;subst this;have:Looks (model prog w) s.heap (typeOf (.ref a')) o'.cls:=(Looks.ld bw).andThen .now;rw[ae]at this;exact this
      |_=>exact rf.elim
     ·exact hT g hg
  |_=>simp[fk]at h0;omega
 |[],_::_,r,_=>r.elim
 |_::_,[],r,_=>r.elim
def Pq(hm:m<3){vs:C_ s_}{Q:j_ SortKind}(r:HRs s.heap ps vs)(hs:∀p∈ps,fk p=m)(h0:0<vs.length)(h:Q (tuples' (decide (m≠2))) s):m_ prog w A (keyKind' vs.toArray) Q E s:=by
 let⟨fs,hl,ht,hT⟩:=Bu (prog:=prog) (w:=w) hm r hs;refine kat_kind (T:=fkT m) ht ⋯ hT ?_ ?_
 ·match m,hm with
  |0,_=>rfl
  |1,_=>rfl
  |2,_=>rfl
 ·have:((fkT m) != y1v "tuple")=decide (m≠2):=by
   match m,hm with
   |0,_=>rfl
   |1,_=>rfl
   |2,_=>rfl
  rw[this];exact h
end
structure OkN(m:Nat)(xs:C_ PV):Prop where
 m3:m<3
 ky:∀x∈xs,x.ky 20=true
 fk:∀x∈xs,fk x=m
 lt:∀x∈xs,∀y∈xs,(ltP 20 x y).isSome=true
theorem OkN.inj(h:OkN m xs):∀a∈xs,∀b∈xs,enc a=enc b->a=b:=λa ha b hb e=>by let⟨c,hc⟩:=y13.mp (h.lt a ha b hb);exact Pp hc e
def MJ(hm:m<3)(h:fk p=m):∃ps,p=.tup ps/\(decide (m≠2)=true->MH ps):=by
 cases p with
 |tup xs=>
  refine⟨xs,rfl,λhd=>?_⟩;have bx:m≠2:=of_decide_eq_true hd;cases xs with
  |nil=>trivial
  |cons x xs=>cases x <;> first|trivial|(exact(bx h.symm).elim)
 |_=>simp[fk]at h;omega
theorem HRs.getD{ps:C_ PV}{vs:C_ s_}(r:HRs h ps vs)(hi:i<ps.length):HR h (ps.getD i .non) (vs.getD i ZE):=by
 have g:ps[i]?=a_ (ps.getD i .non):=by simp[hi]
 let⟨v,hv,hr⟩:=r.at g;have e:vs.getD i ZE=v:=by simp[y0M,hv]
 rw[e];exact hr
section
variable{C:MC}{k:Nat}{X:Cx}
def DD:C_ PV->D_ (C_ Str)
 |[]=>a_ []
 |.str x::r=>(DD r).map (x::·)
 |_=>b_
theorem G0:∀ss:C_ Str,DD (ss.map PV.str)=a_ ss
 |[]=>rfl
 |x::r=>by
  show(DD (r.map PV.str)).map (x::·)=_
  rw[G0 r];rfl
theorem G1:∀{xs:C_ PV}{ss:C_ Str},DD xs=a_ ss->xs=ss.map PV.str
 |[],ss,h=>by cases h;rfl
 |x::r,ss,h=>by
  cases x with
  |str z=>have h':(DD r).map (z::·)=a_ ss:=h;let⟨t,ht,rfl⟩:=Zw.mp h';rw[G1 ht];rfl
  |_=>cases h
def unZ:C_ Key->Str
 |[.inr x]=>x
 |_=>""
def kC(ss:C_ Str):C_ Str:=(yW (ss.map λx=>[(Sum.inr x:Key)])).map unZ
def Jd(ss:C_ Str):(ss.map λx=>[(Sum.inr x:Key)]).map unZ=ss:=by rw[Z7];exact(y0W λ_ _=>rfl).trans (List.map_id ss)
def Bv(ss:C_ Str):(kC ss).Perm ss:=by have:=(kB (ss.map λx=>[(Sum.inr x:Key)])).map unZ;rw[Jd]at this;exact this
end
end L2
namespace L2
abbrev KP:=C_ Key×PV
def QY(x:KP):C_ KP->C_ KP
 |[]=>[x]
 |y::ys=>if nB y.1 x.1=true then y::QY x ys else x::y::ys
def MK:C_ KP->C_ KP
 |[]=>[]
 |x::xs=>QY x (MK xs)
open Classical in
noncomputable def sortBy(b:Bool)(ks ys:C_ PV):D_ (C_ PV):=match QX ks with
 |some au=>if au.length<64/\au.length=ys.length/\WQ au=true/\au.Nodup then a_ ((PySem.W.katRev b (MK (au.zip ys))).map (·.2)) else b_
 |none=>b_
noncomputable def Je(f:Fn)(b:Bool)(ys:C_ PV):C_ PV->C_ PV->PH->Rs PV
 |[],ks,h=>match sortBy b ks ys with
  |some zs=>.ok (.ref h.length) (h++[.lst zs])
  |none=>.bad
 |x::xs,ks,h=>(f [x] h).bind λk h1=>Je f b ys xs (ks++[k]) h1
def ML(x:PV)(h:PH):D_ (C_ PV):=match x with
 |.ref n=>match bO h n with
  |some ys=>a_ ys
  |none=>MA h n
 |.fl ys=>a_ ys
 |_=>b_
noncomputable def MM(f:Fn)(b:Bool)(x:PV)(h:PH):Rs PV:=match ML x h with
 |some ys=>if ys.length<64 then Je f b ys ys [] h else .bad
 |none=>.bad
noncomputable def Sz(f:Fn)(b:Bool)(me:Me):Me:=λδ h=>(me δ h).bind λx h1=>MM f b x h1
section
variable{C:MC}{k:Nat}{X:Cx}
theorem RVs.pick{xs:C_ PV}{vs:C_ V}(r:RVs C φ H xs vs):∀{p:C_ Nat},(∀i∈p,i<xs.length)->RVs C φ H (p.map λi=>xs.getD i .non) (p.map λi=>vs.getD i .non)
 |[],_=>trivial
 |i::p,h=>by
  have hi:=h i Zn;have g:xs[i]?=a_ (xs.getD i .non):=by simp[hi]
  let⟨v,hv,hr⟩:=r.at g;have e:vs.getD i .non=v:=by simp[y0M,hv]
  refine⟨?_,RVs.pick r λj hj=>h j (Zh _ hj)⟩
  show RV C φ H (xs.getD i .non) (vs.getD i .non)
  rw[e];exact hr
def MN{FR:g_ 0}{σ:St}{H:Hp}{s:t_}(I:Inv X FR σ H s){a:u_}(ha:(e_ s)<=a):X.s₀.heap.objs.size<=a/\a≠X.env.locals/\(∀x c,X.env.cells.lookup x=a_ c->c≠a)/\(∀p∈X.pn++FR,p.1≠a)/\a∉X.fs:=by
 refine⟨y0e I.sz ha,y0a (Zz I.lt ha),λx c e z=>?_,λp hp z=>?_,I.nofs ha⟩
 ·let⟨v,o,ho,_⟩:=I.cell x c e;rw[z]at ho;exact absurd (Zz (Zl ho) ha) (y0A _)
 ·have ho:=(I.pin p hp).1;rw[z]at ho;exact absurd (Zz (Zl ho) ha) (y0A _)
def rT:∀v,(seqObj "list" its e).data≠.cell v:=λv z=>nomatch z
theorem Inv.adopt{FR:g_ 0}{σ:St}{H:Hp}{s:t_}{a d:u_}{o:HO}{h':x_}(I:Inv X FR σ H s)(ha:H a=b_)(hd:H d=b_)
  (fa:X.s₀.heap.objs.size<=a/\a≠X.env.locals/\(∀x c,X.env.cells.lookup x=a_ c->c≠a)/\(∀p∈X.pn++FR,p.1≠a)/\a∉X.fs) (fd:X.s₀.heap.objs.size<=d/\d≠X.env.locals/\(∀x c,X.env.cells.lookup x=a_ c->c≠d)/\(∀p∈X.pn++FR,p.1≠d)/\d∉X.fs)
  (kp:∀x u,x≠a->x≠d->s.heap.get? x=a_ u->h'.get? x=a_ u) (new:eB X.prog X.w (upd H a o) h' a o):Inv X FR σ (upd H a o) {s with heap:=h'}:=by
 have na:∀x u,H x=a_ u->x≠a:=λx u e z=>by rw[z,ha]at e;cases e
 have nd:∀x u,H x=a_ u->x≠d:=λx u e z=>by rw[z,hd]at e;cases e
 refine I.call' (s':={s with heap:=h'}) (ch:=[a,d]) rfl ⟨λb u q n _ hx=>?_,λb u q n _ hx=>⟨u.slots,?_⟩,λb u q n hx=>?_,λb u q hx=>⟨u,?_⟩,λb xs q=>?_,λb u xs q=>?_,λb ps q=>⟨#[],?_⟩⟩ (λb u e=>?_) I.bare λb hb=>?_
 ·exact kp b u (λz=>hx (by simp[z])) (λz=>hx (by simp[z])) q
 ·exact kp b u (λz=>hx (by simp[z])) (λz=>hx (by simp[z])) q
 ·rw[bE (λz=>hx (by simp[z]))];exact n
 ·exact kp b u (λz=>hx (by simp[z])) (λz=>hx (by simp[z])) q
 ·rw[bE (na _ _ q)];exact q
 ·rw[bE (na _ _ q)];exact q
 ·rw[bE (na _ _ q),q];simp
 ·by_cases hb:b=a
  ·subst hb;rw[bX]at e;cases e;exact new
  ·rw[bE hb]at e;refine(I.hok b u e).stay (λc v hc q=>kp c v ?_ ?_ q) (λc q=>by rw[bE (na _ _ q)];exact q) λc xs q=>by rw[bE (na _ _ q)];exact q
   ·rcases hc with z|z
    ·rw[z];exact hb
    ·exact na _ _ z
   ·rcases hc with z|z
    ·rw[z];exact nd _ _ e
    ·exact nd _ _ z
 ·rcases Zs.mp hb with rfl|hb
  ·exact⟨.inr fa.1,fa.2.1,fa.2.2.1,fa.2.2.2.1⟩
  ·rw[ZN.mp hb];exact⟨.inr fd.1,fd.2.1,fd.2.2.1,fd.2.2.2.1⟩
end
end L2
namespace L2
open PySem
section
variable{δ:Ev}{h:PH}{m:Me}
@[simp]theorem TK:Sz f b m δ h=(m δ h).bind λx h1=>MM f b x h1:=(rfl)
def Km{kvs:C_ (PV×PV)}(e:bW h n=a_ kvs):tJ h n=a_ (kvs.map (·.2)):=by
 unfold bW at e;split at e
 ·rename_i q;cases e;simp[tJ,q]
 ·rename_i q;cases e;simp[tJ,q]
 ·cases e
def dZ(e:bW h n=a_ kvs):∃o,h[n]?=a_ o/\qU (.ref n) h=true/\∀h',h'[n]?=a_ o->bW h' n=a_ kvs:=by
 unfold bW at e;split at e
 ·rename_i q;cases e;exact⟨_,q,by simp[qU,q],λh' e=>by simp[bW,e]⟩
 ·rename_i q;cases e;exact⟨_,q,by simp[qU,q],λh' e=>by simp[bW,e]⟩
 ·cases e
def Bw(x:Ext h h')(e:bW h n=a_ kvs):bW h' n=a_ kvs:=by let⟨o,g,_,k⟩:=dZ e;exact k h' (x _ _ g)
def SB{kvs:C_ (PV×PV)}(e:bW h n=a_ kvs)(hk:(PV.tup xs).ky 6=true)(hl:kvs.length<16777216):HK (.ref n) (.tup xs) z h=a_ (h.set n (.dD (jF kvs (.tup xs) z))):=by
 have k1:(PV.tup xs).isKt=true:=hk;have cy:kvs.length<Zq:=by rw[lI];exact hl
 unfold HK;simp only[HE,k1,if_true,e];rw[if_pos cy]
def SC(e:bW h n=a_ kvs)(hk:(PV.tup xs).ky 6=true):Kj (.tup xs) (.ref n) h=.ok (.bl (cF kvs (.tup xs)).isSome) h:=by
 have k1:(PV.tup xs).isKt=true:=hk;have:rE (.tup xs) (.ref n) h=a_ (cF kvs (.tup xs)):=by simp only[rE,k1,if_true,e,Option.map_some]
 unfold Kj;rw[this]
@[simp]theorem SD:yR (.tup xs)=false:=(rfl)
@[simp]theorem SF:yR .non=true:=(rfl)
end
section
variable{δ:Ev}{h h1:PH}{js:C_ (D_ Nat)}{tg:Mg}{elt:Me}{g:PH->Bool}
theorem Ext.setN{h hX:PH}(x:Ext h hX)(hn:h.length<=n):Ext h (hX.set n o):=λm o' e=>by have:=(Zc.mp e).1;rw[Zk ⋯];exact x m o' e
def tL{xs ys:C_ PV}(e1:h[n]?=a_ (.lst xs))(e2:h[m]?=a_ (.lst ys))(c:xs.length+ys.length<=16777216):cN (.ref n) (.ref m) h=.ok (.ref h.length) (h++[.lst (xs++ys)]):=by
 show LO (.ref n) (.ref m) h=_
 simp[LO,iD,e1,e2,c]
end
end L2
namespace L2
def lK(f:Str)(p:PV):C_ (Str×PV)->C_ (Str×PV)
 |[]=>[(f,p)]
 |(g,x)::r=>if g=f then(g,p)::r else(g,x)::lK f p r
def qV(x:PV)(h:PH):D_ (Nat×Str×C_ (Str×PV)):=match x with
 |.ref n=>match h[n]? with
  |some (.ins c fs)=>a_ (n,c,fs)
  |_=>b_
 |_=>b_
def dS(f:Str):PV->PH->Rs PV:=λx h=>match qV x h with
 |some (_,_,fs)=>match fs.lookup f with
  |some p=>.ok p h
  |none=>.bad
 |none=>.bad
def A9(f:Str)(x y:PV)(h:PH):D_ PH:=match qV x h with
 |some (n,c,fs)=>if fs.length<1000 then a_ (h.set n (.ins c (lK f y fs))) else b_
 |none=>b_
section
variable{C:MC}{k:Nat}{X:Cx}
def MP(r:RKv C φ H fs ks)(f:Str)(rv:RV C φ H p v):RKv C φ H (lK f p fs) (oB f v ks):=by
 unfold RKv at r⊢
 induction r with
 |nil=>exact .cons ⟨rfl,rv⟩ .nil
 | @cons a b as bs h t ih=>
  let⟨a1,a2⟩:=a;let⟨b1,b2⟩:=b;have e:a1=b1:=h.1;subst e;unfold lK oB;by_cases z:a1=f
  ·rw[if_pos z,if_pos z];exact .cons ⟨rfl,rv⟩ t
  ·rw[if_neg z,if_neg z];exact .cons h ih
def uP{fs:C_ (Str×PV)}{ks:C_ (Str×V)}(r:RKv C φ H fs ks)(f:Str):(fs.lookup f=b_/\ks.lookup f=b_)\/∃p v,fs.lookup f=a_ p/\ks.lookup f=a_ v/\RV C φ H p v:=by
 unfold RKv at r
 induction r with
 |nil=>exact .inl ⟨rfl,rfl⟩
 | @cons a b as bs h t ih=>
  let⟨a1,a2⟩:=a;let⟨b1,b2⟩:=b;have e:a1=b1:=h.1;subst e;simp only[ZH];cases z:(f == a1) with
  |true=>exact .inr ⟨a2,b2,rfl,rfl,h.2⟩
  |false=>exact ih
def wN{φ:C_ u_}{h:PH}(rh:RH C φ H h)(rv:RV C φ H x v)(e:qV x h=a_ (n,c,fs)):
  ∃a ca dx ks,x=.ref n/\v=.ref a/\φ[n]?=a_ a/\h[n]?=a_ (.ins c fs)/\C.cl c=a_ ca/\H a=a_ (.ins ca dx ks)/\RKv C φ H fs ks:=by
 unfold qV at e;cases x with
 |ref m=>
  let⟨a,rfl,ha⟩:=rv;dsimp only at e;split at e
  ·rename_i c' wg q;cases e
   let⟨ca,dx,ks,h1,h2,h3⟩:=rh.at' _ a _ ha q;exact⟨a,ca,dx,ks,rfl,rfl,ha,q,h1,h2,h3⟩
  ·cases e
 |_=>cases e
def iB(C:MC)(f:Str):Prop:=∀c a,C.cl c=a_ a->Cls C.K a/\rH C.K a f
section
variable{e o value:A_}{f:Str}{m mo mv:Me}{pos pos' nh:Pos}
def gQ(hF:iB C f)(he:SE C k X e m)(hb:y1c e f X.env (eval e X.env)=eval e X.env:=by rfl):SE C k X (.Attribute e f pos) (mUn (dS f) m):=λc=>
 (RC (he c) hb).imp λσ H Q h=>by
  let⟨φ,δ,h,rh,re,p⟩:=h;refine⟨φ,δ,h,rh,re,(post.bind p).imp ?_⟩;rintro v H1 ⟨φ1,x,h1,p1,t1,aa,ab,q1⟩;unfold dS at q1;cases ei:qV x h1 with
  |none=>rw[ei]at q1;exact q1.elim
  |some z=>
   let⟨n,cn,fs⟩:=z;rw[ei]at q1;dsimp only at q1;let⟨a,ca,dx,ks,rfl,rfl,ha,hh,hc,hH,rk⟩:=wN aa ab ei;let⟨cl,na⟩:=hF cn ca hc;rcases uP rk f with⟨l1,_⟩|⟨y,u,l1,l2,ru⟩
   ·rw[l1]at q1;exact q1.elim
   ·rw[l1]at q1;exact⟨a,ca,dx,ks,u,rfl,hH,by rw[c.K];exact cl,by rw[c.K];exact na,l2,q1.val aa ru⟩
def uE(f:Str)(mo mv:Me):Ms:=λδ h=>(mv δ h).fl λy h1=>(mo δ h1).fl λx h2=>match A9 f x y h2 with
 |some h3=>.nx δ h3
 |none=>.bad
def Pr{D:Ends}(c:Cxt C k X)(hF:iB C f)(rh:RH C φ H h)(re:RE C φ H δ σ)(rx:RV C φ H x v)(ry:RV C φ H y u)(es:A9 f x y h=a_ h3)(q:eV C φ H (.nx δ h3) D):
  ∃a ca dx ks,v=.ref a/\H a=a_ (.ins ca dx ks)/\Cls X.K ca/\rH X.K ca f/\ks.length<1000/\D.nx σ (upd H a (.ins ca dx (oB f u ks)))/\∃n cn fs,qV x h=a_ (n,cn,fs)/\C.cl cn=a_ ca:=by
 unfold A9 at es;cases ei:qV x h with
 |none=>rw[ei]at es;cases es
 |some z=>
  let⟨n,cn,fs⟩:=z;rw[ei]at es;dsimp only at es;split at es
  ·rename_i hl;cases es
   let⟨a,ca,dx,ks,rfl,rfl,ha,hh,hc,hH,rk⟩:=wN rh rx ei;let⟨cl,na⟩:=hF cn ca hc;have kp:Kp H (upd H a (.ins ca dx (oB f u ks))):=Kp.upd (by rw[hH];trivial);refine⟨a,ca,dx,ks,rfl,hH,by rw[c.K];exact cl,by rw[c.K];exact na,by rw[<-Z0 rk];exact hl,?_⟩;refine⟨q φ σ _ Zm kp (rh.write ha (by rw[hH];trivial) ⟨ca,dx,_,hc,bX,?_⟩) (re.mono Zm kp),n,cn,fs,rfl,hc⟩;exact(MP rk f ry).mono Zm kp
  ·cases es
def Bx(hF:iB C f)(hv:SE C k X value mv)(ho:SE C k X o mo)(hs:swapsWith value (a_ (.Attribute o f pos')) pos.line X.env=pure false:=by rfl):SSt C k X (.Assign [.Attribute o f pos'] value pos) (uE f mo mv):=λc=>
 (RD (ho c) (hv c) hs).imp λD σ H h=>by
  let⟨φ,δ,h,rh,re,p⟩:=h;refine⟨φ,δ,h,rh,re,(post.fl p).imp ?_⟩;rintro u H1 ⟨φ1,y,h1,p1,t1,aa,ab,q1⟩;refine⟨φ1,δ,h1,aa,re.mono p1 t1,(post.fl q1).imp ?_⟩;rintro v H2 ⟨φ2,x,h2,p2,t2,aj,br,q2⟩;cases es:A9 f x y h2 with
  |none=>rw[es]at q2;exact q2.elim
  |some h3=>rw[es]at q2;let⟨a,ca,dx,ks,g1,g2,g3,g4,g5,g6,_⟩:=Pr c hF aj ((re.mono p1 t1).mono p2 t2) br (ab.mono p2 t2) es q2;exact⟨a,ca,dx,ks,g1,g2,g3,g4,g5,g6⟩
end
def MQ(C:MC)(X:Cx)(k:Nat)(m:Str)(n:Nat)(tb:Str->D_ Fn):Prop:=∀c a f,C.cl c=a_ a->tb c=a_ f->
 ∃g fd ps j,Cls C.K a/\DY C.K a m g/\j<=k/\bR X.prog X.w C.K X.mg X.base CX0 j g fd ps (spM C (n+1) f)/\Binds C.K fd ps []
def cB:MQ C X k m n (λ_=>b_):=λ_ _ _ _ h=>nomatch h
def aR{tb:Str->D_ Fn}(hc:C.cl c=a_ a)(hC:Cls C.K a)(me:DY C.K a m g)(hj:j<=k)(G:bR X.prog X.w C.K X.mg X.base CX0 j g fd ps (spM C (n+1) f))(B:Binds C.K fd ps [])(r:MQ C X k m n tb):
  MQ C X k m n (λz=>if z=c then a_ f else tb z):=λc' a' f' h1 h2=>by
 have b7:(if c'=c then a_ f else tb c')=a_ f':=h2;by_cases e:c'=c
 ·subst e;rw[hc]at h1;cases h1
  rw[if_pos rfl]at b7;cases b7
  exact⟨g,fd,ps,j,hC,me,hj,G,B⟩
 ·rw[if_neg e]at b7;exact r c' a' f' h1 b7
def bA(m:Str)(n:Nat)(tb:Str->D_ Fn)(mo:Me)(ms:Ma):Me:=λδ h=>(mo δ h).bind λx h1=>match qV x h1 with
 |some (_,c,fs)=>match tb c,fs.lookup m with
  |some f,b_=>(ms δ h1).bind λps h2=>if ps.length=n then f (x::ps) h2 else .bad
  |_,_=>.bad
 |none=>.bad
section
variable{o e:A_}{es:C_ A_}{m:Str}{n:Nat}{tb:Str->D_ Fn}{mo:Me}{ms:Ma}{pos apos:Pos}{pl:Sem Bool}
def fF(hM:MQ C X k m n tb)(ho:SE C k X o mo)(ha:SA C k X (e::es) ms)(bc:Zx (e::es) X.env=(false,eval e X.env)::Zx es X.env:=by rfl)(az:(backTo pos (Zx es X.env)).any (·.1)=false:=by rfl)
  (ht:eval (.Call (.Attribute o m apos) (e::es) [] pos) X.env=(do
   let ov <-eval o X.env
   standAt apos.atName
   let (f,first) <-holding [ov] (getMethod ov m pl)
   callWith pos f first (backTo pos (Zx (e::es) X.env)) (backToKw pos (keywordEach [] X.env))):=by rfl):
  SE C k X (.Call (.Attribute o m apos) (e::es) [] pos) (bA m n tb mo ms):=λc FR s σ H Q I h=>by
 let⟨φ,δ,h,rh,re,p⟩:=h
 refine PySem.W.methodCall_KW (pl:=pl) (thn (ho c FR s σ H _ I ⟨φ,δ,h,rh,re,post.bind p⟩) λu s1 hh=>?_) ht
 let⟨v,H1,I1,ru,φ1,x,h1,p1,t1,aa,ab,q1⟩:=hh
 cases ei:qV x h1 with
 |none=>rw[ei]at q1;exact q1.elim
 |some z=>
  let⟨n',cn,fs⟩:=z
  rw[ei]at q1
  dsimp only at q1
  let⟨a,ca,dx,ks,rfl,rfl,hφ,hh,hc,hH,rk⟩:=wN aa ab ei
  cases et:tb cn with
  |none=>rw[et]at q1;exact q1.elim
  |some f=>
   rw[et]at q1
   rcases uP rk m with⟨l1,l2⟩|⟨y,u',l1,_⟩
   ·rw[l1]at q1
    dsimp only at q1
    let⟨g,fd,ps,j,cl,me,hj,F,bd⟩:=hM cn ca f hc et
    have wj:Cls X.K ca:=by rw[c.K];exact cl
    have pz:DY X.K ca m g:=by rw[c.K];exact me
    have F':bR X.prog X.w X.K X.mg X.base CX0 j g fd ps (spM C (n+1) f):=by rw[c.K];exact F
    have qc:Binds X.K fd ps []:=by rw[c.K];exact bd
    cases ru
    refine AQ I1 hH wj pz l2 ?_
    refine PySem.W.callWith_K (first:=[.ref a]) (h₀:=X.base) I.ok.mod.kin pz.kp (thn (ha c pos FR s1 σ H1 _ I1 ⟨φ1,δ,h1,aa,re.mono p1 t1,postA.bind q1⟩) λus s2 h2=>?_) bc az
    let⟨vs,H2,I2,r2,φ2,zs,h3,p2,t2,aj,br,q2⟩:=h2
    let⟨hl,q2⟩:=q2.ite
    refine⟨I2.kIn,?_⟩
    exact Hi (us:=.ref a::us) (vs:=.ref a::vs) F' (c.room.mono hj) qc .nil IL I2 (.cons rfl r2) ⟨φ2,h3,.ref n'::zs,aj,⟨⟨a,rfl,lH p2 hφ⟩,(by show RVs C φ2 H2 zs (vs++[]);rw[y1h];exact br)⟩,by simp[hl],q2⟩
   ·rw[l1]at q1;exact q1.elim
def eK(hM:MQ C X k m 0 tb)(ho:SE C k X o mo)
  (ht:eval (.Call (.Attribute o m apos) [] [] pos) X.env=(do
   let ov <-eval o X.env
   standAt apos.atName
   let (f,first) <-holding [ov] (getMethod ov m pl)
   callWith pos f first (backTo pos (Zx [] X.env)) (backToKw pos (keywordEach [] X.env))):=by rfl):
  SE C k X (.Call (.Attribute o m apos) [] [] pos) (bA m 0 tb mo aD):=λc FR s σ H Q I h=>by
 let⟨φ,δ,h,rh,re,p⟩:=h
 refine PySem.W.methodCall_KW (pl:=pl) (thn (ho c FR s σ H _ I ⟨φ,δ,h,rh,re,post.bind p⟩) λu s1 hh=>?_) ht
 let⟨v,H1,I1,ru,φ1,x,h1,p1,t1,aa,ab,q1⟩:=hh
 cases ei:qV x h1 with
 |none=>rw[ei]at q1;exact q1.elim
 |some z=>
  let⟨n',cn,fs⟩:=z
  rw[ei]at q1
  dsimp only at q1
  let⟨a,ca,dx,ks,rfl,rfl,hφ,hh,hc,hH,rk⟩:=wN aa ab ei
  cases et:tb cn with
  |none=>rw[et]at q1;exact q1.elim
  |some f=>
   rw[et]at q1
   rcases uP rk m with⟨l1,l2⟩|⟨y,u',l1,_⟩
   ·rw[l1]at q1
    dsimp only at q1
    let⟨g,fd,ps,j,cl,me,hj,F,bd⟩:=hM cn ca f hc et
    have wj:Cls X.K ca:=by rw[c.K];exact cl
    have pz:DY X.K ca m g:=by rw[c.K];exact me
    have F':bR X.prog X.w X.K X.mg X.base CX0 j g fd ps (spM C (0+1) f):=by rw[c.K];exact F
    have qc:Binds X.K fd ps []:=by rw[c.K];exact bd
    cases ru
    refine AQ I1 hH wj pz l2 ?_
    have q2:post C φ1 H1 (f [.ref n'] h1) Q:=q1
    exact PySem.W.callWith_K0 (first:=[.ref a]) I1.kIn pz.kp (Hi (us:=[.ref a]) (vs:=[.ref a]) F' (c.room.mono hj) qc .nil IL I1 (.cons rfl .nil) ⟨φ1,h1,[.ref n'],aa,⟨⟨a,rfl,hφ⟩,trivial⟩,rfl,q2⟩)
   ·rw[l1]at q1;exact q1.elim
end
def nF(cn:Str)(n:Nat)(f:Fn)(ms:Ma):Me:=λδ h=>(ms δ h).bind λps h1=>if ps.length=n then(f (.ref h1.length::ps) (h1++[.ins cn []])).bind λv h2=>(match v with
 |.non=>.ok (.ref h1.length) h2
 |_=>.bad) else .bad
section
variable{x cn:Str}{ca f:u_}{fd:ZL}{ps:C_ Str}{j n:Nat}{fn:Fn}{e:A_}{es:C_ A_}{ms:Ma}{p pos:Pos}
def Pt{h:PH}{zs:C_ PV}(hc:C.cl cn=a_ ca)(rh:RH C φ H h)(rv:RVs C φ H zs vs)(q:post C φ H (if zs.length=n then(fn (.ref h.length::zs) (h++[.ins cn []])).bind λv h2=>(match v with|.non=>Rs.ok (.ref h.length) h2|_=>.bad) else .bad) Q):
  ∀y dx,H y=b_->H dx=b_->dx≠y->spM C (n+1) fn (.ref y::(vs++[])) (upd (upd H dx (.own y)) y (.ins ca dx [])) (λv H2=>v=.non/\Q (.ref y) H2) E0:=λy dx hy hd ne=>by
 let⟨hl,q⟩:=q.ite;have f9:(upd H dx (.own y)) y=b_:=by rw[bE (ZV ne)];exact hy
 have k1:Kp H (upd H dx (.own y)):=Kp.new hd;have k2:Kp (upd H dx (.own y)) (upd (upd H dx (.own y)) y (.ins ca dx [])):=Kp.new f9;have aj:RH C (φ++[y]) (upd (upd H dx (.own y)) y (.ins ca dx [])) (h++[.ins cn []]):=(rh.aside hd).new f9 ⟨ca,dx,[],hc,bX,.nil⟩;have Xo:RV C (φ++[y]) (upd (upd H dx (.own y)) y (.ins ca dx [])) (.ref h.length) (.ref y):=⟨y,rfl,by rw[<-rh.len];simp⟩;refine⟨φ++[y],h++[.ins cn []],.ref h.length::zs,aj,⟨Xo,by rw[y1h];exact rv.mono (y0k _ _) (k1.trans k2)⟩,by simp[hl],?_⟩;refine(post.bind (post.weak (y0k _ [y]) (k1.trans k2) q)).imp ?_;rintro v H2 ⟨φ2,pv,h2,p2,t2,d6,rv3,q3⟩;cases pv with
 |non=>cases rv3;exact⟨rfl,q3.val d6 (Xo.mono p2 t2)⟩
 |_=>exact q3.elim
def tM(hc:C.cl cn=a_ ca)(M:Mk C.K ca f)(F:bR X.prog X.w C.K X.mg X.base CX0 j f fd ps (spM C (0+1) fn))(hm:X.mg x=c_ ca)(bd:Binds C.K fd ps [])(hj:j+1<=k:=by decide)(hg:Gl X x:=by rfl)
  (cm:(x == ("__debug__" : Str))=false:=by decide):SE C k X (.Call (.Name x p) [] [] pos) (nF cn 0 fn aD):=λc=>by
 have M':Mk X.K ca f:=by rw[c.K];exact M
 have F':bR X.prog X.w X.K X.mg X.base CX0 j f fd ps (spM C (0+1) fn):=by rw[c.K];exact F
 have qc:Binds X.K fd ps []:=by rw[c.K];exact bd
 refine(Le M' F' (c.room.mono hj) hg hm qc .nil IL cm).imp λσ H Q h=>?_;let⟨φ,δ,h,rh,re,po⟩:=h;exact Pt (zs:=[]) hc rh trivial po
end
end
def uF(x y v:PV)(h:PH):D_ PH:=match x,y with
 |.ref n,.int i=>match iD h n with
  |some xs=>match ixN xs.length i with
   |some j=>a_ (h.set n (.lst (xs.set j v)))
   |none=>b_
  |none=>HK x y v h
 |_,_=>HK x y v h
def DE(mv mo mi:Me):Ms:=λδ h=>(mv δ h).fl λv h1=>(mo δ h1).fl λx h2=>(mi δ h2).fl λy h3=>match uF x y v h3 with
 |some h4=>.nx δ h4
 |none=>.bad
def V6:C_ PV->PH->Rs PV:=λxs h=>match xs with
 |[.bl b]=>.ok (.int (if b then 1 else 0)) h
 |[.int i]=>.ok (.int i) h
 |_=>.bad
section
variable{C:MC}{k:Nat}{X:Cx}
def HQ{φ:C_ u_}{H:Hp}{h h':PH}{px py pv:PV}{x y v:V}(c:Cxt C k X)(rh:RH C φ H h)(rx:RV C φ H px x)(ry:RV C φ H py y)(rv:RV C φ H pv v)(e:uF px py pv h=a_ h'){FR:g_ 0}{σ:St}{s:t_}{xu yu vu:s_}
  {Q:j_ Unit} (I:Inv X FR σ H s) (jd:RelV x xu) (de:RelV y yu) (iz:RelV v vu) (q:∀s' H',Inv X FR σ H' s'->Kp H H'->RH C φ H' h'->Q () s'):wpAny (h_ X) X.A (setItem xu yu vu) Q X.xe s:=by
 unfold uF at e;split at e
 ·rename_i n i;split at e
  ·rename_i xs el;split at e
   ·rename_i j ej;cases e
    let⟨a,rfl,ha⟩:=rx;cases ry
    let⟨ws,hH,bu⟩:=rh.at' n a _ ha (oI el);refine thn (set_list FR s σ H (.ref a) (.int i) v xu yu vu (λH'=>H'=upd H a (.lst (ws.set j v))) I jd de iz ⟨a,ws,i,j,rfl,rfl,hH,by rw[<-bu.length];exact ej,rfl⟩) ?_;rintro _ s' ⟨H',I',rfl⟩;refine q s' _ I' (Kp.lst hH) (rh.write ha (by rw[hH];trivial) ⟨_,bX,(RVs.set rv j bu).mono Zm (Kp.lst hH)⟩)
   ·cases e
  ·exact DA c rh rx ry rv e I jd de iz q
 ·exact DA c rh rx ry rv e I jd de iz q
def HS{pos:Pos}(hv:SE C k X value mv)(ho:SE C k X o mo)(hi:SE C k X i mi)(hs:swapsWith value (a_ (.Subscript o i pos')) pos.line X.env=pure false:=by rfl):
  SSt C k X (.Assign [.Subscript o i pos'] value pos) (DE mv mo mi):=λc FR s σ H D I ⟨φ,δ,h,rh,re,p⟩=>by
 refine wpAny_Assign_Subscript (thn (hv c FR s σ H _ I ⟨φ,δ,h,rh,re,post.fl p⟩) ?_) hs;rintro vu s1 ⟨v,H1,I1,iz,φ1,pv,h1,p1,t1,aa,ab,q1⟩;refine thn (ho c FR s1 σ H1 _ I1 ⟨φ1,δ,h1,aa,re.mono p1 t1,post.fl q1⟩) ?_;rintro xu s2 ⟨x,H2,I2,jd,φ2,px,h2,p2,t2,aj,br,q2⟩;refine thn (hi c FR s2 σ H2 _ I2 ⟨φ2,δ,h2,aj,(re.mono p1 t1).mono p2 t2,post.fl q2⟩) ?_;rintro yu s3 ⟨y,H3,I3,de,φ3,py,h3,p3,t3,d6,rv3,q3⟩;cases e:uF px py pv h3 with
 |none=>rw[e]at q3;exact q3.elim
 |some h4=>rw[e]at q3;exact HQ c d6 (br.mono p3 t3) rv3 ((ab.mono p2 t2).mono p3 t3) e I3 jd de iz λs' H' I' kp dh=>⟨σ,H',I',q3 φ3 σ H' Zm kp dh ((((re.mono p1 t1).mono p2 t2).mono p3 t3).mono Zm kp)⟩
end
section
variable{δ:Ev}{h:PH}{m mo mv:Me}{E:FE}
def By(e:h[n]?=a_ (.ins c fs)):qV (.ref n) h=a_ (n,c,fs):=by simp[qV,e]
def pI{fs:C_ (Str×PV)}(e:h[n]?=a_ (.ins c fs))(l:fs.lookup f=a_ p):dS f (.ref n) h=.ok p h:=by simp[dS,By e,l]
def mD{fs:C_ (Str×PV)}(e:h[n]?=a_ (.ins c fs))(l:fs.length<1000):A9 f (.ref n) p h=a_ (h.set n (.ins c (lK f p fs))):=by simp[A9,By e,l]
@[simp]theorem MR:(uE f mo mv δ h).W E=(mv δ h).W λy h1=>(mo δ h1).W λx h2=>∃h3,A9 f x y h2=a_ h3/\E.nx δ h3:=by
 unfold uE;rw[Kf];congr 1;funext y h1;rw[Kf];congr 1;funext x h2;cases e:A9 f x y h2 <;> simp
@[simp]theorem Bz:nF cn n f ms δ h=(ms δ h).bind λps h1=>if ps.length=n then(f (.ref h1.length::ps) (h1++[.ins cn []])).bind λv h2=>(match v with|.non=>.ok (.ref h1.length) h2|_=>.bad) else .bad:=(rfl)
def eL{tb:Str->D_ Fn}{h1:PH}{fs:C_ (Str×PV)}(e:mo δ h=.ok (.ref k) h1)(g:h1[k]?=a_ (.ins c fs))(t:tb c=a_ f)(l:fs.lookup mm=b_):
  bA mm n tb mo ms δ h=(ms δ h1).bind λps h2=>if ps.length=n then f (.ref k::ps) h2 else .bad:=by
 unfold bA;rw[e,Rs.bind_ok,By g];simp only[t,l]
@[simp]theorem WR:(DE mv mo mi δ h).W E=(mv δ h).W λv h1=>(mo δ h1).W λx h2=>(mi δ h2).W λy h3=>∃h4,uF x y v h3=a_ h4/\E.nx δ h4:=by
 unfold DE;rw[Kf];congr 1;funext v h1;rw[Kf];congr 1;funext x h2;rw[Kf];congr 1;funext y h3;cases e:uF x y v h3 <;> simp
@[simp]theorem V7:V6 [.bl b] h=.ok (.int (if b then 1 else 0)) h:=(rfl)
end
def V8:C_ Int->Int
 |[]=>0
 |[x]=>x
 |x::y::r=>max x (V8 (y::r))
def V9:C_ Int->Int
 |[]=>0
 |[x]=>x
 |x::y::r=>min x (V9 (y::r))
def V':C_ PV->PH->Rs PV:=λxs h=>match xs with
 |[.ref n]=>match bO h n with
  |some ys=>match Mq ys with
   |some (a::ns)=>.ok (.int (V8 (a::ns))) h
   |_=>.bad
  |none=>.bad
 |_=>UD xs h
def Va:C_ PV->PH->Rs PV:=λxs h=>match xs with
 |[.ref n]=>match bO h n with
  |some ys=>match Mq ys with
   |some (a::ns)=>.ok (.int (V9 (a::ns))) h
   |_=>.bad
  |none=>.bad
 |_=>M8 xs h
def G2:C_ PV->PH->Rs PV:=λxs h=>match xs with
 |[.ref n]=>match bW h n with
  |some kvs=>.ok (.int kvs.length) h
  |none=>pB xs h
 |_=>pB xs h
section
variable{prog:z_}{w:y_}{A:w_}{E:f_ 0}{s:t_}{d:u_}{oc:Obj}{es:Array y1q}{ep:Nat}
def CF(hd:(d == y0p)=false):MeetsIn prog w (Builtin.«dict.__len__» ⟨[.ref d],[]⟩) (λ_ R s=>∃oc es ep,s.heap.get? d=a_ oc/\oc.data=.dict es ep/\R (.ok (.ret (.int es.size s.toks))) { s with toks:=s.toks+1}):=
 .of_wp λA R s ⟨oc,es,ep,ho,cf,h⟩=>by
  show wpAny _ _ (dictSize d >>= _) _ _ s
  unfold dictSize;refine Zb (Zb (y0x ho cf (Zd ?_)))
  show wpAny _ _ (Builtin.Dict.pendingCount d >>= _) _ _ s
  refine Zb (wpAny_pendingCount_other hd (wpAny_ret_mkInt ?_));rw[Nat.add_zero];exact h
def Pu{Q:f_ 0}(hd:(d == y0p)=false)(hT:s.TypeIs (.ref d) "dict")(ho:s.heap.get? d=a_ oc)(cf:oc.data=.dict es ep)(Yf:(es.size:Int)<2 ^ 63)
  (h:Q (.int es.size (s.toks+1)) { s with toks:=s.toks+1+1}):m_ prog w A (call (.builtin "len") [.ref d]) Q E s:=by
 refine Calls.call_function_entry kind_len plain_len entry_len (args_len1 _) ?_;unfold Builtin.«len»;refine Zb (m:=oneArg "len" _) (Zd ?_);refine Zb (m:=callSpecial? (.ref d) (y0i "__len__")) (ZR (name:=y0i "__len__") hT F.slot_dict_len
  (call_meetsIn F.slot_dict_len hT F.entry_dict_len (F.args_dict_len_1 _) (CF hd) ⟨oc,es,ep,ho,cf,?_⟩))
 show wpAny _ _ _ _ _ { s with toks:=s.toks+1}
 refine Zb (Z3 (Zd (Zb (wpAny_letGo ?_))))
 show wpAny _ _ (if((es.size:Nat):Int)<0 then _ else _) _ _ _
 rw[if_neg ⋯]
 show wpAny _ _ (if((es.size:Nat):Int) >= 2 ^ 63 then _ else _) _ _ _
 rw[if_neg ⋯];exact Zb (wpAny_mkInt (Zd ⟨_,rfl,h⟩))
end
section
variable{C:MC}{k:Nat}{X:Cx}
def Kn(c:Cxt C k X):eD X (.builtin "len") (λxs H Q=>∃(φ:C_ u_)(h:PH)(n:Nat)(a:u_)(kvs:C_ (PV×PV)),xs=[.ref a]/\RH C φ H h/\φ[n]?=a_ a/\bW h n=a_ kvs/\Q (.int kvs.length) H):=by
 intro FR s σ H xs us Q I r h;let⟨φ,h,n,a,kvs,rfl,rh,ha,et,q⟩:=h;let⟨u,rfl,ru⟩:=vals1 r;cases ru
 let⟨hT,hm,hz,oc,es,ep,g1,g2,ws,r1,r2⟩:=Mz c I rh ha (Km et);have e1:=r1.length;rw[Zg]at e1 hz;have e2:ws.length=es.size:=by have:=r2.length;simpa using this
 refine Pu hm hT g1 g2 (by rw[y0b]at hz;omega) ?_;have e3:(es.size:Int)=(kvs.length:Int):=⋯;rw[e3];exact⟨.int kvs.length,H,(I.tok _).tok _,⟨_,rfl⟩,q⟩
def SH:rP C k X (.builtin "len") G2:=λc=>eD.imp (eD.or (Bj c) (Kn c)) λvs H Q h=>by
 let⟨φ,h,ps,rh,rv,po⟩:=h;unfold G2 at po;split at po
 ·rename_i n;split at po
  ·rename_i kvs e;let⟨v,rfl,rx⟩:=rv.one;let⟨p,rfl,hp⟩:=rx;exact .inr ⟨φ,h,n,p,kvs,rfl,rh,hp,e,po.val rh rfl⟩
  ·exact .inl ⟨φ,h,_,rh,rv,po⟩
 ·exact .inl ⟨φ,h,_,rh,rv,po⟩
end
section
variable{h:PH}
@[simp]theorem TL:V' [.int i,.int j] h=.ok (.int (if j>i then j else i)) h:=(rfl)
@[simp]theorem TM:Va [.int i,.int j] h=.ok (.int (if j<i then j else i)) h:=(rfl)
def Pv{kvs:C_ (PV×PV)}(e:bW h n=a_ kvs):G2 [.ref n] h=.ok (.int kvs.length) h:=by simp[G2,e]
end
def Es:typeLookup (.type "list") "keys" = pure b_:=by rw[typeLookup_type,y2B];kernel_rfl
def Et{A:w_}{E:f_ 0}{s:t_}{o:Obj}{Q:D_ s_->t_->Prop}(hx:s.heap.get? a=a_ o)(hc:o.cls=.type "list")(cf:o.data=.seq xs k)(hd:o.dict=b_)(hA:A.handled=b_)(h:∀h' tk,(∀b u,s.heap.get? b=a_ u->h'.get? b=a_ u)->Q b_ {s with heap:=h',toks:=tk}):m_ prog w A (getAttr? (.ref a) "keys") Q E s:=by
 let⟨c,dct,dat,sl⟩:=o;simp only at hc cf hd;subst hc cf hd;let⟨hp,g,d,tk,os⟩:=s;have hT:∀gi,(⟨hp,g,d,gi,os⟩:t_).TypeIs (.ref a) "list" := λ_=>⟨_,hx,rfl⟩;have f1:=sub_AttributeError;have f3:=F.slot_list_getattribute.lookup;have f4:=F.slot_list_getattribute.bind (.ref a);have f5:=am_list_getattr_none;unfold getAttr? getAttrBy? getAttrBy
 repeat (any_goals (first|assumption|exact hT _|((with_reducible show wpAny _ _ (call (Value.builtin "list.__getattribute__") _ _) _ _ _);refine call_meets F.slot_list_getattribute (hT _) am_entry_list_getattribute (F.args_list_getattribute_2 _ _) (meets_getattribute_miss_list a xs k sl "keys" _ Es nofun (by size_fits)) ⟨hx,hA,λh' gi e c6=>?_⟩)|wp_step))
 let⟨t',u',he⟩:=c6.there
 show wpAny _ _ (getattributeRaised _ _ _ _ _ _ _) _ _ _
 unfold getattributeRaised
 repeat (any_goals (first|assumption|wp_step))
 exact h _ _ c6.of.keeps
section
variable{prog:z_}{w:y_}{K:Type}[DecidableEq K]{knd:HeapKind prog w K}{A:w_}{R:j_ Result}
def G3(xs:C_ (K×u_×s_))(ps:C_ (u_×K×u_×s_)):C_ (K×u_×s_):=ps.foldl (λacc p=>storedH acc p.2.1 p.2.2.1 p.2.2.2) xs
def Aa(xs:C_ (K×u_×s_))(k:K)(a:u_)(v:s_):(storedH xs k a v).length<=xs.length+1:=by
 unfold storedH;split
 ·rw[Zg];omega
 ·simp
def G4{xs:C_ (K×u_×s_)}{k:K}{a:u_}{v:s_}{x:K×u_×s_}(h:x∈storedH xs k a v):(∃y∈xs,x.1=y.1/\x.2.1=y.2.1)\/(x.1=k/\x.2.1=a):=by
 unfold storedH at h;split at h
 ·let⟨y,hy,rfl⟩:=Zu.mp h;refine .inl ⟨y,hy,?_,?_⟩
  ·unfold putAt;split <;> rfl
  ·unfold putAt;split <;> rfl
 ·rcases ZQ.mp h with h|h
  ·exact .inl ⟨x,h,rfl,rfl⟩
  ·rw[ZN.mp h];exact .inr ⟨rfl,rfl⟩
def G5{I d:u_}{fp wr:C_ u_}{n:Nat}{P:Nat->s_->Prop}{St:Nat->x_->Prop}(W:Walks prog w A.in1 I fp wr n P St)(hd:d∉fp)(hu:knd.room A.in1)(ps:C_ (u_×K×u_×s_))(hn:ps.length=n)
  (hP:∀i v,P i v->∃p,ps[i]?=a_ p/\v=.ref p.1) (h0:x_) (uf:∀b u,h0.get? b=a_ u->b∉wr/\b≠d)
  (hk:∀h',(∀b u,h0.get? b=a_ u->h'.get? b=a_ u)->∀p∈ps,knd.is h' p.2.1 p.2.2.1/\IsTup h' p.1 #[.ref p.2.2.1,p.2.2.2]) (res:s_):
  ∀(m i:Nat)(s:t_)(xs:C_ (K×u_×s_)),n-i=m->i<=n->St i s.heap->s.heap.DictOfH knd d xs->(∀x∈xs,∃p∈ps,x.1=p.2.1/\x.2.1=p.2.2.1)->xs.length+n<=Zq+i->(∀b u,h0.get? b=a_ u->s.heap.get? b=a_ u)->
  (∀h' tk,h'.DictOfH knd d (G3 xs (ps.drop i))->(∀b u,h0.get? b=a_ u->h'.get? b=a_ u)->R (.ok (.ret res)) {s with heap:=h',toks:=tk})->
  codeAny (model prog w) A (.builtin "dict.update.loop" ⟨[.ref d,.ref I,rawInt i,res],[]⟩) R s:=by
 have yz:d∉wr:=λh=>hd (W.sub _ h);intro m
 induction m with
 |zero=>
  intro i s xs hm hi bc fv hxs hz hit hR;have cj:i=n:=⋯;subst cj;refine y0E uC ?_;rw[y0g jU _]
  show wpAny _ A.in1 (pyNext (.ref I) >>= _) _ _ s
  refine Zb (W.done s _ _ bc λh' tk c8=>?_)
  show wpAny _ A.in1 (Builtin.Dict.addKeywords d [] >>= _) _ _ _
  have kj:∀b u,h0.get? b=a_ u->h'.get? b=a_ u:=λb u e=>c8 b u (uf b u e).1 (hit b u e);have jx:=hR h' tk (by rw[List.drop_of_length_le ⋯];let⟨o,es,ep,h1,h2,h3,h4,h5,h6⟩:=fv;refine⟨o,es,ep,c8 d _ yz h1,h2,h3,h4,λx hx=>?_,h6⟩;let⟨p,hp,e1,e2⟩:=hxs x hx;rw[e1,e2];exact(hk h' kj p hp).1) kj;exact Zb (Zd (Zd jx))
 |succ m ih=>
  intro i s xs hm hi bc fv hxs hz hit hR;have af:i<n:=⋯;refine y0E uC ?_;rw[y0g jU _]
  show wpAny _ A.in1 (pyNext (.ref I) >>= _) _ _ s
  refine Zb (W.item i s _ _ af bc λv h' tk Yi c7 c8=>?_);let⟨p,hp,rfl⟩:=hP i v Yi;have mq:=ZP hp;have kj:∀b u,h0.get? b=a_ u->h'.get? b=a_ u:=λb u e=>c8 b u (uf b u e).1 (hit b u e);let⟨qy,ob,pd,u2,nn,hb3⟩:=hk h' kj p mq;have hTy:({s with heap:=h',toks:=tk}:t_).TypeIs (.ref p.1) "tuple" := ⟨ob,pd,u2⟩;have wa:h'.DictOfH knd d xs:=by let⟨o,es,ep,h1,h2,h3,h4,h5,h6⟩:=fv;refine⟨o,es,ep,c8 d _ yz h1,h2,h3,h4,λx hx=>?_,h6⟩;let⟨p,hp,e1,e2⟩:=hxs x hx;rw[e1,e2];exact(hk h' kj p hp).1
  refine Zb (Z3 (Zb (wpAny_tryCatch ?_)));unfold Builtin.Dict.pairItems;refine Zb (y1K hTy ?_);rw[if_pos nofun];refine Zb (y1X pd hb3 (Zd ?_))
  show wpAny _ _ (holding [.ref p.2.2.1,p.2.2.2] (dictSet d (.ref p.2.2.1) p.2.2.2)) _ _ _
  refine Z3 (wpAny_dictSet_heap (hsz:=by omega) hu qy wa λh2 hd2 bz=>?_);refine Zd ⟨y1e jU _,?_⟩;have ku:St (i+1) h2:=W.frame (i+1) h' h2 c7 λb hb o e=>(bz.2 b (λz=>hd (z▸hb))).trans e;refine ih (i+1) _ (storedH xs p.2.1 p.2.2.1 p.2.2.2) ⋯ af ku hd2 (λx hx=>?_) ?_ (λb u e=>(bz.2 b (uf b u e).2).trans (kj b u e)) λh3 XS hd3 Yk=>?_
  ·rcases G4 hx with⟨y,hy,e1,e2⟩|⟨e1,e2⟩
   ·rw[e1,e2];exact hxs y hy
   ·exact⟨p,mq,e1,e2⟩
  ·have:=Aa xs p.2.1 p.2.2.1 p.2.2.2;omega
  ·refine hR h3 XS ?_ Yk;have hdr:ps.drop i=p::ps.drop (i+1):=by let⟨hl,e⟩:=Zc.mp hp;rw[List.drop_eq_getElem_cons hl,e]
   rw[hdr];exact hd3
def Aq{E:f_ 0}{s:t_}{o:Obj}{ps:C_ (u_×K×u_×s_)}{Q:f_ 0}(hA:A.handled=b_)(hu:knd.room A.in1.in1)(hx:s.heap.get? a=a_ o)(hc:o.cls=.type "list")(cf:o.data=.seq (ps.map λp=>ZC p.1).toArray k)(hd:o.dict=b_)(hk:∀h',(∀b u,s.heap.get? b=a_ u->h'.get? b=a_ u)->∀p∈ps,knd.is h' p.2.1 p.2.2.1/\IsTup h' p.1 #[.ref p.2.2.1,p.2.2.2])(hz:ps.length<=Zq)(h:∀h' tk,h'.DictOfH knd (e_ s) (G3 [] ps)->(∀b u,s.heap.get? b=a_ u->h'.get? b=a_ u)->Q (.ref (e_ s)) {s with heap:=h',toks:=tk}):
  m_ prog w A (call (.type "dict") [.ref a]) Q E s:=by
 refine callType_codes (Q₁:=λobj s₁=>obj=.ref (e_ s)/\s₁={s with heap:=s.heap.push {cls:=.type "dict",data:=.dict #[]} }) F.kt_called_dict (F.kt_typeCall_dict_1 _) F.entry_dict_init (kt_code_dict_new _ ⟨rfl,rfl⟩) ?_;rintro obj s₁ ⟨rfl,rfl⟩;have jo:(s.heap.push {cls:=.type "dict",data:=.dict #[]}).DictOfH knd (e_ s) []:=Heap.DictOfH.new s.heap;have up:∀b u,s.heap.get? b=a_ u->(s.heap.push {cls:=.type "dict",data:=.dict #[]}).get? b=a_ u:=λb u e=>Ze _ e;have hTa:({s with heap:=s.heap.push {cls:=.type "dict",data:=.dict #[]} }:t_).TypeIs (.ref a) "list" := ⟨o,up _ _ hx,hc⟩;refine⟨jo.typeIs,F.args_dict_init_2 _ _,?_⟩;unfold Builtin.«dict.__init__»;refine Zb ?_;unfold Builtin.Dict.selfAndRest;refine Zb (y1k jo.typeIs (show wpAny _ _ (pure (s.heap.objs.size,[ZC a])) _ _ _ from Zd ?_))
 show wpAny _ _ (Builtin.Dict.updateFrom "dict.__init__" (e_ s) (.ref a) [] .none) _ _ _
 unfold Builtin.Dict.updateFrom;refine Zb (y1K hTa ?_);rw[if_pos nofun];refine Zb (Et (up _ _ hx) hc cf hd hA λh1 Yp se=>?_);rw[if_pos (by rfl)];refine Zb (y07 ?_);have qz:h1.IsList a (ps.map λp=>ZC p.1).toArray:=⟨o,se _ _ (up _ _ hx),hc,k,cf⟩;refine Zb (y16 (s:={s with heap:=h1,toks:=Yp}) qz (Zd ⟨y1e jU _,?_⟩));have wu:(e_ s)<h1.objs.size:=by have:=se (e_ s) _ (Zj s.heap rfl);exact Zl this
 have af:∀b u,s.heap.get? b=a_ u->b<(e_ s):=λb u e=>Zl e;have Xv:=af _ _ hx;refine G5 (knd:=knd) (fp:=[h1.objs.size,a]) (wr:=[h1.objs.size]) (n:=(ps.map λp=>ZC p.1).toArray.size) (Walks.list (A:=A.in1.in1) hA h1.objs.size a (Zt (Nat.lt_trans Xv wu)) (ps.map λp=>ZC p.1).toArray) ?_ hu ps (by simp) (λi v e=>?_) s.heap (λb u e=>?_) hk .none _ 0 _ [] (y2E _) (ZO _) ?_ ?_ (λx hx=>nomatch hx) (l_ hz) (λb u e=>?_) λh' tk dd kk=>?_
 ·intro z;rcases Zs.mp z with z|z
  ·exact Zt wu z
  ·exact Zt Xv (ZN.mp z).symm
 ·have e':(ps.map λp=>ZC p.1)[i]?=a_ v:=by simpa using e
  rw[Zr]at e';let⟨p,hp,rfl⟩:=Zw.mp e';exact⟨p,hp,rfl⟩
 ·have h0:=af _ _ e;exact⟨λz=>Zt (Nat.lt_trans h0 wu) (ZN.mp z),Zt h0⟩
 ·refine⟨⟨_,Zj _ rfl,rfl,rfl⟩,?_⟩;let⟨ob,e,r⟩:=qz;exact⟨ob,Ze _ e,r⟩
 ·let⟨oo,es,ep,e,r1,r2,r3,r4,r5⟩:=jo;exact⟨oo,es,ep,Ze _ (se _ _ e),r1,r2,r3,(λx hx=>nomatch hx),r5⟩
 ·exact Ze _ (se _ _ (up _ _ e))
 ·exact⟨rfl,h h' tk (l_ dd) kk⟩
end
section
variable{C:MC}{k:Nat}{X:Cx}{φ:C_ u_}{H:Hp}{FR:g_ 0}{σ:St}{s:t_}
def rU:C_ PV->D_ (C_ (PV×PV))
 |[]=>a_ []
 |.tup [y,v]::r=>if y.isKt=true then(rU r).map ((y,v)::·) else b_
 |_=>b_
def Eu(kvs more:C_ (PV×PV)):C_ (PV×PV):=more.foldl (λacc kv=>jF acc kv.1 kv.2) kvs
def DF{h h':x_}(kp:∀b u,h.get? b=a_ u->h'.get? b=a_ u)(a:u_)(x:Array s_):IsTup h a x->IsTup h' a x:=λ⟨o,e,r⟩=>⟨o,kp _ _ e,r⟩
theorem BA(I:Inv X FR σ H s)(hK:X.K=C.K):∀{ps:C_ PV}{rs:C_ (PV×PV)}{vs:C_ V}{us:C_ s_},rU ps=a_ rs->RVs C φ H ps vs->bN vs us->
  ∃qs:C_ (u_×PV×u_×s_),us=qs.map (λq=>ZC q.1)/\(∀h',(∀b u,s.heap.get? b=a_ u->h'.get? b=a_ u)->∀q∈qs,(wA X.prog X.w).is h' q.2.1 q.2.2.1/\IsTup h' q.1 #[.ref q.2.2.1,q.2.2.2])/\
   ∀{kvs:C_ (PV×PV)}{ks:C_ (PV×u_×V)}{xs:C_ (PV×u_×s_)},RKd C φ H kvs ks->yV ks xs->∃aq,RKd C φ H (Eu kvs rs) aq/\yV aq (G3 xs qs)
 |[],rs,[],us,e,_,ru=>by
  cases ru
  cases e
  exact⟨[],rfl,(λ_ _ _ h=>nomatch h),λr rx=>⟨_,r,rx⟩⟩
 |p::ps,rs,v::vs,us,e,r,ru=>by
  cases ru with
  | @cons _ u _ us' h t=>
   cases p with
   |tup xs=>
    match xs,e with
    |[y,z],e=>
     unfold rU at e;split at e
     ·rename_i hk;cases e2:rU ps with
      |none=>rw[e2]at e;cases e
      |some cu=>
       rw[e2]at e;cases e
       let⟨qs,rfl,a1,a2⟩:=BA I hK e2 r.2 t;let⟨b,bs,rfl,sq,rb⟩:=r.1;cases h
       let⟨yv,zv,rfl,ry,rz⟩:=rb.two;rw[<-hK]at sq;let⟨its,jw,pt,_⟩:=I.tuple sq;let⟨yu,zu,rfl,de,kh⟩:=vals2 jw;let⟨c,rfl⟩:=pF hk ry;cases de
       have qy:=Bp I hK hk ry;refine⟨(b,y,c,zu)::qs,rfl,?_,λ{kvs ks xs} r' ba=>?_⟩
       ·intro h' kp q hq;rcases Zs.mp hq with rfl|hq
        ·exact⟨⟨qy.1,HR.keep (DF kp) qy.2⟩,DF kp _ _ pt⟩
        ·exact a1 h' kp q hq
       ·let⟨aq,r1,r2⟩:=HD.put (a:=b) r' ba (wK hk) ry rz kh;exact a2 r1 r2
     ·cases e
    |[],e=>cases e
    |[_],e=>cases e
    |_::_::_::_,e=>cases e
   |_=>cases e
 |[],_,_::_,_,_,r,_=>r.elim
 |_::_,_,[],_,_,r,_=>r.elim
theorem DG{K:Type}[DecidableEq K]:∀(ps:C_ (u_×K×u_×s_))(xs:C_ (K×u_×s_)),(G3 xs ps).length<=xs.length+ps.length
 |[],xs=>Zi _
 |p::ps,xs=>by
  have:=DG ps (storedH xs p.2.1 p.2.2.1 p.2.2.2);have h2:=Aa xs p.2.1 p.2.2.1 p.2.2.2
  show(G3 (storedH xs p.2.1 p.2.2.1 p.2.2.2) ps).length<=_
  rw[ZY];omega
end
end L2
namespace L2
open PySem.SeqAt
open PySem.AutoSeq1 (wpAny_loadPart')
open PySem.MeetsSeq PySem.MeetsSeq2 PySem.MeetsSeq3
section
variable{C:MC}{k:Nat}{X:Cx}
def Vb:PV->PV->PH->Rs PV:=λx y h=>match x,y with
 |.tup xs,.tup ys=>ofB ((Sv (.tup xs) (.tup ys)).map (!·)) h
 |x,y=>vGe x y h
variable{h:PH}
@[simp]theorem Vc:Vb (.int i) (.int j) h=.ok (.bl (decide (j<=i))) h:=(rfl)
@[simp]theorem Vd{i j:Str}:Vb (.str i) (.str j) h=.ok (.bl (!decide (i.cps.toList<j.cps.toList))) h:=(rfl)
end
end L2
namespace L2
section
variable{prog:z_}{w:y_}{A:w_}{E:f_ 0}{s:t_}{v dc it:u_}{oc:Obj}{es:Array y1q}{ep:Nat}
def Ko{Q:f_ 0}(hT:s.TypeIs (.ref dc) "dict")(hd:(dc == y0p)=false)(h1:s.heap.get? dc=a_ oc)(h2:oc.data=.dict es ep)
  (q:Q (.ref (e_ s)) {s with heap:=s.heap.push {cls:=.type "dict_keyiterator",data:=.fields #[.ref dc,.int 0 0,.int es.size 0,.int ep 0]} }):m_ prog w A (pyIter (.ref dc)) Q E s:=by
 refine wpAny_pyIter_slot hT F.slot_dict_iter (Z1 F.slot_dict_iter hT F.entry_dict_iter ?_ (F.args_dict_iter_1 _));unfold Builtin.«dict.__iter__»;refine Zb ?_;unfold Builtin.Dict.dictSlotNone;refine Zb (y1k hT ?_)
 show wpAny _ _ (pure (ZC dc)) _ _ s
 refine Zd ?_
 show wpAny _ _ (y2A dc >>= _) _ _ s
 unfold y2A;rw[if_neg (by rw[hd];exact Zv)];refine Zb (Zd ?_);refine Zb (y0x h1 h2 ?_);refine Zb (y2y h1 h2 ?_);refine Zb (ZJ (Zd ⟨_,rfl,"dict_keyiterator",_,⟨_,Zj _ rfl,rfl⟩,y03.lookup,?_⟩));simpa[rawInt] using q
def MS{Q:D_ s_->t_->Prop}(hI:s.heap.IsKeyIter it dc i es.size ep)(h1:s.heap.get? dc=a_ oc)(h2:oc.data=.dict es ep)(af:i<es.size)(q:∀h',h'.IsKeyIter it dc (i+1) es.size ep->y0z it s.heap h'->Q (a_ es[i].key) {s with heap:=h'}):m_ prog w A (pyNext (.ref it)) Q E s:=by
 let⟨oi,g1,g2,g3⟩:=id hI;unfold pyNext;refine Zb (y1f (ZR (name:=y0i "__next__") hI.typeIs y03 (Z1 y03 hI.typeIs F.entry_dict_keyiterator_next ?_ (F.args_dict_keyiterator_next_1 _))));refine Zb (Zd (Zb (Zb ?_)))
 first|refine Zb (y1p hI.typeIs (Zd ?_))|refine Zb (y17 hI.typeIs (Zd ?_))
 refine Zb (y1V g1 g3 ?_);rw[show y02 "dict_keyiterator" = false by decide];simp only[ZU,if_false]
 show wpAny _ _ (if(ZC dc == ZE)=true then _ else _) _ _ s
 rw[if_neg (show ¬ ((ZC dc == ZE)=true) from Zv)]
 refine Zb (Zd (Zb (y0x h1 h2 ?_)));rw[if_neg (show ¬ _ by simp)];refine Zb (Zd (Zb (y2y h1 h2 ?_)));rw[if_neg (show ¬ _ by simp)];refine Zd ?_;simp only[show ¬ ((i:Int)<0) by omega,if_false,Int.toNat_natCast,ZG af];refine Zb ?_
 first|refine Zb (y1p hI.typeIs (Zd ?_))|refine Zb (y17 hI.typeIs (Zd ?_))
 refine Zb (wpAny_isOneOf_keyiter hI.typeIs (show wpAny _ _ (setField (.ref it) 1 (rawInt ((i:Int)+1)) >>= _) _ _ s from Zb (y2R g1 g3 (by simp) ?_)))
 have l8:(s.heap.update it (y1O (·.setIfInBounds 1 (rawInt ((i:Int)+1))))).IsKeyIter it dc (i+1) es.size ep:=⟨_,ZX _ g1 (y2C (y2o g3 _)),(Obj.cls_mapFields ..).trans g2,by rw[y2o g3];simp[rawInt]⟩;have qr:({s with heap:=s.heap.update it (y1O (·.setIfInBounds 1 (rawInt ((i:Int)+1))))}:t_).TypeIs (.ref it) "dict_keyiterator" := l8.typeIs;refine Zb (Z3 (Zb (wpAny_isOneOf_keyiter qr ?_)))
 show wpAny _ _ (pure es[i].key) _ _ _
 exact Zd (Zd ⟨_,rfl,Zd (q _ l8 (ZK ..))⟩)
def MT{Q:D_ s_->t_->Prop}(hh:A.handled=b_)(hI:s.heap.IsKeyIter it dc i es.size ep)(h1:s.heap.get? dc=a_ oc)(h2:oc.data=.dict es ep)(kr:es.size<=i)(q:∀h',Heap.ExtBut it s.heap h'->Q b_ {s with heap:=h'}):m_ prog w A (pyNext (.ref it)) Q E s:=by
 let⟨oi,g1,g2,g3⟩:=id hI;unfold pyNext;refine Zb (y1f (ZR (name:=y0i "__next__") hI.typeIs y03 (Z1 y03 hI.typeIs F.entry_dict_keyiterator_next ?_ (F.args_dict_keyiterator_next_1 _))));refine Zb (Zd (Zb (Zb ?_)))
 first|refine Zb (y1p hI.typeIs (Zd ?_))|refine Zb (y17 hI.typeIs (Zd ?_))
 refine Zb (y1V g1 g3 ?_);rw[show y02 "dict_keyiterator" = false by decide];simp only[ZU,if_false]
 show wpAny _ _ (if(ZC dc == ZE)=true then _ else _) _ _ s
 rw[if_neg (show ¬ ((ZC dc == ZE)=true) from Zv)]
 refine Zb (Zd (Zb (y0x h1 h2 ?_)));rw[if_neg (show ¬ _ by simp)];refine Zb (Zd (Zb (y2y h1 h2 ?_)));rw[if_neg (show ¬ _ by simp)];refine Zd ?_;simp only[show ¬ ((i:Int)<0) by omega,if_false,Int.toNat_natCast,y0d kr];refine Zb ?_
 first|refine Zb (y1p hI.typeIs (Zd ?_))|refine Zb (y17 hI.typeIs (Zd ?_))
 refine(show wpAny _ _ (setField (.ref it) 0 .none >>= _) _ _ s from Zb (y2R g1 g3 (by simp) ?_))
 refine(show wpAny _ _ (newExc (.type "StopIteration") [] >>= _) _ _ _ from Zb ?_);simp only[newExc,newTuple]
 refine Zb (ZJ (Zb (m:=y1W _ _) (y1E (a:=ZE) (by first|rfl|(simp only[y1W];rfl)) (ZJ ?_ (by size_fits)))) (by size_fits))
 simp only[raiseNew];refine Zb (wpAny_handled ?_);rw[show A.in1.handled=b_ from hh]
 refine Zb (Zd (wpAny_throw ?_));refine Zb (y0T (T:="StopIteration") (b:=true) ⟨_,Zj _ rfl,rfl⟩ isSubtype_stop ?_);exact Zd (q _ (((ZK ..).extBut.push _).push _))
def HU(hh:A.handled=b_)(I dc:u_)(cz:dc≠I)(oc:Obj)(es:Array y1q)(ep:Nat)(h2:oc.data=.dict es ep):
  Walks prog w A I [I,dc] [I] es.size (λi v=>∃e,es[i]?=a_ e/\v=e.key) (λi h=>h.IsKeyIter I dc i es.size ep/\h.get? dc=a_ oc) where
 sub:=λb hb=>by rw[ZN.mp hb];exact Zn
 frame:=λ_ _ _ st hk=>⟨let ⟨o,e,r⟩:=st.1;⟨o,hk I Zn o e,r⟩,hk dc (Zh _ Zn) _ st.2⟩
 item:=λi s Q E hi st hQ=>MS st.1 st.2 h2 hi λh' vg ig=>hQ _ h' s.toks ⟨es[i],by simp[hi],rfl⟩ ⟨vg,(ig.2 dc cz).trans st.2⟩ λb o hb e=>(ig.2 b λz=>hb (by rw[z];exact Zn)).trans e
 done:=λs Q E st hQ=>MT hh st.1 st.2 h2 (Zi _) λh' lu=>hQ h' s.toks λb o hb e=>lu b o (λz=>hb (by rw[z];exact Zn)) e
 self:=λ_ _ _ _ st hQ=>wpAny_pyIter_keyiter st.1 hQ
def MU(hc:oc.cls=.type "dict")(hd:(dc == y0p)=false)(h2:oc.data=.dict es ep):PySem.W.KdlSrc prog w "dict" dc dc es.size (λi v=>∃e,es[i]?=a_ e/\v=e.key) (λh=>h.get? dc=a_ oc) where
 type:=λ_ hm=>⟨oc,hm,hc⟩
 there:=λ_ hm=>⟨Zl hm,Zl hm⟩
 keep:=λ_ _ hm hk=>hk dc (.inl rfl) _ hm
 notList:=by decide
 notTuple:=by decide
 hint:=λ_ _ _ _ hm hq=>PySem.W.kdl_hint_dict ⟨oc,hm,hc⟩ hq
 iter:=λ_ _ hh hm=>⟨_,_,(λ_ _ hq=>Ko ⟨oc,hm,hc⟩ hd hm h2 hq),HU hh _ dc (Zt (Zl hm)) oc es ep h2,⟨⟨_,Zj _ rfl,rfl,rfl⟩,Ze _ hm⟩⟩
end
section
variable{C:MC}{k:Nat}{X:Cx}
def MV{FR:g_ 0}{σ:St}{H:Hp}{s:t_}{φ:C_ u_}{h:PH}{d:Nat}{b:u_}{kvs:C_ (PV×PV)}(c:Cxt C k X)(I:Inv X FR σ H s)(rh:RH C φ H h)(hb:φ[d]?=a_ b)(e:bW h d=a_ kvs):
  (b == y0p)=false/\kvs.length<=Zq/\∃oc es ep,s.heap.get? b=a_ oc/\oc.cls=.type "dict" /\ oc.data=.dict es ep/\∃ws,RVs C φ H (kvs.map (·.1)) ws/\bN ws (es.toList.map (·.key)):=by
 let⟨⟨ks,ys,r,ba,hz,hm,dd⟩,_⟩:=wL I c.K c.w rh hb e;have hlen:kvs.length=ys.length:=(Z0 r).trans (Z0 ba);refine⟨hm,by rw[hlen];exact hz,?_⟩;let⟨oc,es,ep,g1,g2,g3,g4,g5,g6⟩:=dd;refine⟨oc,es,ep,g1,g2.1,g3,ks.map (λq=>V.ref q.2.1),?_,?_⟩
 ·unfold RKd at r;clear ba hlen e
  induction r with
  |nil=>trivial
  |cons q t ih=>exact⟨q.2.2.1,ih⟩
 ·rw[g4,Z7];clear r hlen hz g4 g5 g6
  induction ba with
  |nil=>exact .nil
  | @cons p q ps qs h t ih=>exact .cons (show RelV (.ref p.2.1) (ZC q.2.1) by rw[h.2.1];rfl) ih
def HV{es:Array y1q}{acc:Array s_}(h:ItemsOf (λi v=>∃e,es[i]?=a_ e/\v=e.key) acc es.size):acc.toList=es.toList.map (·.key):=by
 apply y01;intro i;rw[Zr,y1P,y1P];by_cases hi:i<acc.size
 ·have e1:acc[i]?=a_ acc[i]:=by simp[hi]
  let⟨e,h1,h2⟩:=h.2 i _ e1;rw[e1,h1,h2];rfl
 ·have ax:¬ i<es.size:=by rw[<-h.1];exact hi
  rw[y0d ⋯,y0d ⋯];rfl
def HW(c:Cxt C k X):eD X (.type "list") (λxs H Q=>∃(φ:C_ u_)(h:PH)(d:Nat)(b:u_)(kvs:C_ (PV×PV)),xs=[.ref b]/\RH C φ H h/\φ[d]?=a_ b/\bW h d=a_ kvs/\∀l ws,H l=b_->RVs C φ H (kvs.map (·.1)) ws->Q (.ref l) (upd H l (.lst ws))):=by
 intro FR s σ H xs us Q I r h;let⟨φ,h,d,b,kvs,rfl,rh,hb,ey,q⟩:=h;let⟨u,rfl,ru⟩:=vals1 r;cases ru
 let⟨hm,hz,oc,es,ep,g1,gc,g2,ws,r1,r2⟩:=MV c I rh hb ey;have hn:es.size<=Zq:=by
  have e1:=r1.length;have e2:ws.length=es.size:=by have:=r2.length;simpa using this
  rw[Zg]at e1;rw[<-e2,<-e1];exact hz
 refine PySem.W.kdl_call (MU gc hm g2) (I.ok.hd c.calm) g1 hn λh' tk ar c' hk hS ag=>?_;have ea:=HV ag;refine⟨.ref (e_ s),_,I.laid (t':=tk) (o:=.lst ws) hk (Zi _) ⟨?_,ar.toList,c',by rw[ea];exact r2,by rw[Array.toArray_toList];exact hS⟩,rfl,q _ ws I.fresh r1⟩;rw[<-r1.length,Zg];exact hz
end
section
variable{C:MC}{k:Nat}{X:Cx}{ke ve:A_}{mk mv:Me}{pos:Pos}
def putD(x y:PV)(n:Nat)(h:PH):Rs PV:=if x.isKt=true then(match bW h n with
 |some kvs=>if kvs.length<Zq then .ok (.ref n) (h.set n (.dD (jF kvs x y))) else .bad
 |none=>.bad) else .bad
def SJ(mk mv:Me):Me:=λδ h=>(mk δ (h++[.dK []])).bind λx h2=>(mv δ h2).bind λy h3=>putD x y h.length h3
end
section
def Ew{h:PH}{kvs:C_ (PV×PV)}(e:bW h n=a_ kvs)(hk:(PV.tup xs).ky 6=true)(hl:kvs.length<16777216):uF (.ref n) (.tup xs) z h=a_ (h.set n (.dD (jF kvs (.tup xs) z))):=by
 show HK (.ref n) (.tup xs) z h=_
 exact SB e hk hl
@[simp]theorem TN{h:PH}:SJ mk mv δ h=(mk δ (h++[.dK []])).bind λx h2=>(mv δ h2).bind λy h3=>putD x y h.length h3:=(rfl)
end
def Ve:HO->Prop
 |.tup _=>False
 |.own _=>False
 |.tbl _=>False
 |_=>True
def yZ:MO->D_ (C_ PV)
 |.dK kvs=>a_ (kvs.map λkv=>.tup [kP kv.1,kv.2])
 |.dD kvs=>a_ (kvs.map λkv=>.tup [kv.1,kv.2])
 |_=>b_
def Vf:MO->D_ (C_ PV)
 |.dK kvs=>a_ (kvs.map λkv=>kP kv.1)
 |.dD kvs=>a_ (kvs.map (·.1))
 |_=>b_
def MW:D_ MO->Bool
 |some (.dK _)=>true
 |some (.dD _)=>true
 |_=>false
section
variable{C:MC}{k:Nat}{X:Cx}{FR:g_ 0}{σ:St}{H:Hp}{s:t_}{φ:C_ u_}
def SK{k:Key}{v:s_}(h:AM k v=true):RelV (kV k) v:=by
 rcases dN h with⟨i,t,rfl,rfl⟩|⟨x,t,rfl,rfl⟩
 ·exact⟨t,rfl⟩
 ·exact⟨t,rfl⟩
theorem zA{α β:Type}{F:α->β->Prop}:∀{l:C_ α}{m:C_ β},Paired F l m->∀{i:Nat}{a:α},l[i]?=a_ a->∃b,m[i]?=a_ b/\F a b
 |_,_,.nil,i,a,e=>by simp at e
 |_,_,.cons (a:=x) (b:=y) r t,0,a,e=>by
  have:x=a:=by simpa using e
  subst this;exact⟨y,rfl,r⟩
 |_,_,.cons r t,i+1,a,e=>by
  let⟨b,h1,h2⟩:=zA t (i:=i) (a:=a) (l_ e);exact⟨b,l_ h1,h2⟩
theorem uQ{α β:Type}{F:α->β->Prop}:∀{l:C_ α}{m:C_ β},Paired F l m->∀{i:Nat}{b:β},m[i]?=a_ b->∃a,l[i]?=a_ a/\F a b
 |_,_,.nil,i,a,e=>by simp at e
 |_,_,.cons (a:=x) (b:=y) r t,0,b,e=>by
  have:y=b:=by simpa using e
  subst this;exact⟨x,rfl,r⟩
 |_,_,.cons r t,i+1,b,e=>by
  let⟨a,h1,h2⟩:=uQ t (i:=i) (b:=b) (l_ e);exact⟨a,l_ h1,h2⟩
def Jf(a:Key):RV C φ H (kP a) (kV a):=by cases a <;> rfl
def MX{kvs:C_ (Key×PV)}{ks:C_ (Key×V)}(rk:RKv C φ H kvs ks):RVs C φ H (kvs.map λkv=>kP kv.1) ((ks.map λq=>(kV q.1,q.2)).map (·.1)):=by
 unfold RKv at rk
 induction rk with
 |nil=>trivial
 | @cons p q ps qs e t ih=>exact⟨by show RV C φ H (kP p.1) (kV q.1);rw[e.1];exact Jf q.1,ih⟩
def MY{kvs:C_ (PV×PV)}{ks:C_ (PV×u_×V)}(rk:RKd C φ H kvs ks):RVs C φ H (kvs.map (·.1)) ((ks.map λq=>(V.ref q.2.1,q.2.2)).map (·.1)):=by
 unfold RKd at rk
 induction rk with
 |nil=>trivial
 | @cons p q ps qs e t ih=>exact⟨e.2.2.1,ih⟩
structure WS(C:MC)(φ:C_ u_)(H:Hp)(s:t_)(b:u_)(o:MO)(ks:C_ (V×V))(u:HO)(oc:Obj)(es:Array y1q)(ep:Nat):Prop where
 at':H b=some u
 nf:Ve u
 nz:∀o z,u≠.frz o z
 nt:FA (some u)
 get:s.heap.get? b=some oc
 cls:oc.cls=.type "dict"
 data:oc.data=.dict es ep
 nsys:(b == y0p)=false
 fz:∀φ' H',φ<+:φ'->H' b=some (.frz oc u)->Kp H H'->RO C φ' H' b (.fz o)
 len:ks.length=es.size
 ent:∀(i:Nat)(hi:i<es.size),∃kv,ks[i]?=some kv/\RelV kv.1 es[i].key/\RelV kv.2 es[i].val
 keys:∀xs,Vf o=some xs->RVs C φ H xs (ks.map (·.1))
 items:∀xs,yZ o=some xs->xs.length=ks.length/\∀(i:Nat) p,xs[i]?=some p->∃p1 p2 kv,p=.tup [p1,p2]/\ks[i]?=some kv/\RV C φ H p1 kv.1/\RV C φ H p2 kv.2
def QZ{h:PH}{d:Nat}{b:u_}{o:MO}(c:Cxt C k X)(I:Inv X FR σ H s)(rh:RH C φ H h)(hb:φ[d]?=a_ b)(ho:h[d]?=a_ o)(hd:MW (a_ o)=true):∃ks u oc es ep,WS C φ H s b o ks u oc es ep:=by
 cases o with
 |dK kvs=>
  let⟨ks,hH,rk⟩:=rh.at' d b _ hb ho;let⟨z,hm,vs,rel,dd⟩:=Dm I.hok hH;let⟨oc,es,ep,g1,g2,g3,g4,g5,g6⟩:=dd;have l1:ks.length=vs.length:=Z0 rel;have l2:es.size=vs.length:=by have:=Br g5;have:=congrArg y1C this;simpa using this
  refine⟨ks.map λq=>(kV q.1,q.2),_,oc,es,ep,hH,trivial,(λ_ _ e=>by cases e),trivial,g1,g2.1,g3,hm,λφ' H' p e t=>⟨oc,ks,e,rk.mono p t⟩,by rw[Zg,l1,l2],λi hi=>?_,λxs hx=>?_,λxs hx=>?_⟩
  ·have hv:vs[i]?=a_ (vs[i]'⋯):=by simp[show i<vs.length by omega]
   have he:es.toList[i]?=a_ es[i]:=by simp[hi]
   let⟨q1,q2⟩:=g5.get? he hv;let⟨kv,i7,og⟩:=uQ rel hv;refine⟨(kV kv.1,kv.2),by rw[Zr,i7];rfl,?_,?_⟩
   ·show RelV (kV kv.1) es[i].key
    rw[og.1];exact SK q1
   ·show RelV kv.2 es[i].val
    rw[q2];exact og.2
  ·cases hx
   exact MX rk
  ·cases hx
   have lk:kvs.length=ks.length:=Z0 rk;refine⟨by rw[Zg,Zg,lk],λi p e=>?_⟩;rw[Zr]at e;let⟨kv,e1,rfl⟩:=Zw.mp e;let⟨q,e2,r2⟩:=zA rk e1;exact⟨_,_,(kV q.1,q.2),rfl,by rw[Zr,e2];rfl,by show RV C φ H (kP kv.1) (kV q.1);rw[r2.1];exact Jf q.1,r2.2⟩
 |dD kvs=>
  let⟨ks,hH,rk⟩:=rh.at' d b _ hb ho;have hO:eB X.prog X.w H s.heap b (dDO C.w b ks):=I.hok b _ hH;let⟨⟨hz,hm,xs,rx,oc,es,ep,g1,g2,g3,g4,g5⟩,_⟩:=hO;have l1:ks.length=xs.length:=Z0 rx;have l2:es.size=xs.length:=by have:=congrArg y1C g4;simpa using this
  refine⟨ks.map λq=>(V.ref q.2.1,q.2.2),_,oc,es,ep,hH,trivial,(λ_ _ e=>by cases e),trivial,g1,g2.1,g3,hm,λφ' H' p e t=>⟨oc,ks,e,rk.mono p t⟩,by rw[Zg,l1,l2],λi hi=>?_,λxs hx=>?_,λxs hx=>?_⟩
  ·have hv:xs[i]?=a_ (xs[i]'⋯):=by simp[show i<xs.length by omega]
   have he:es.toList[i]?=a_ es[i]:=by simp[hi]
   rw[g4,Zr,hv]at he;have lu:=ZI he;let⟨kv,i7,og⟩:=uQ rx hv;refine⟨(V.ref kv.2.1,kv.2.2),by rw[Zr,i7];rfl,?_,?_⟩
   ·show RelV (V.ref kv.2.1) es[i].key
    rw[<-lu,og.2.1];rfl
   ·show RelV kv.2.2 es[i].val
    rw[<-lu];exact og.2.2
  ·cases hx
   exact MY rk
  ·cases hx
   have lk:kvs.length=ks.length:=Z0 rk;refine⟨by rw[Zg,Zg,lk],λi p e=>?_⟩;rw[Zr]at e;let⟨kv,e1,rfl⟩:=Zw.mp e;let⟨q,e2,r2⟩:=zA rk e1;exact⟨_,_,(V.ref q.2.1,q.2.2),rfl,by rw[Zr,e2];rfl,r2.2.2.1,r2.2.2.2⟩
 |_=>cases hd
def Kr(h:yZ o=a_ xs):MW (a_ o)=true:=by cases o <;> first|rfl|cases h
def tN:PV->C_ PV->PH->Rs PV:=λx ps h=>match x,ps with
 |.ref n,[]=>if MW h[n]?=true then .ok (.ref h.length) (h++[.vw 0 n]) else .bad
 |_,_=>.bad
def MZ:MtG C k X "dict" qU "dict.items" tN:=λc=>⟨λFR s σ H x xs v us Q I rx rs h=>by
 let⟨φ,h,p,ps,rh,rp,nv,po⟩:=h;unfold tN at po;split at po
 ·rename_i n;split at po
  ·rename_i hd;let⟨a,rfl,ha⟩:=rp;have:xs=[]:=by cases xs <;> first|rfl|exact nv.elim
   subst this;cases rx
   cases rs
   cases ho:h[n]? with
   |none=>rw[ho]at hd;cases hd
   |some o=>
    rw[ho]at hd;let⟨ks,u,oc,es,ep,W⟩:=QZ c I rh ha ho hd;have hT:s.TypeIs (.ref a) "dict" := ⟨oc,W.get,W.cls⟩;refine call_meetsIn PySem.F.slot_dict_items hT PySem.F.entry_dict_items (PySem.F.args_dict_items_1 _) (FI a W.nsys) ⟨hT,?_⟩;have fr:H (e_ s)=b_:=I.fresh;refine⟨.ref (e_ s),_,I.laid (t':=s.toks) (o:=LL 0 (e_ s) a) (λb u e=>Ze _ e) (Zi _) ?_,rfl,?_⟩
    ·exact⟨⟨_,Zj _ rfl,rfl,rfl⟩,⟨_,Zj _ rfl⟩,λh1 h2 ⟨o,e,p⟩ k=>⟨o,k o e,p⟩⟩
    ·exact po (φ++[(e_ s)]) (.ref _) _ (y0k _ _) (Kp.new fr) (rh.new fr ⟨a,lH (y0k _ _) ha,bX⟩) ⟨_,rfl,by rw[<-rh.len];simp⟩
  ·exact po.elim
 ·exact po.elim,Bq c⟩
end
section
variable{h h1:PH}{δ:Ev}
def HX(e:h[n]?=a_ o)(hd:MW (a_ o)=true):tN (.ref n) [] h=.ok (.ref h.length) (h++[.vw 0 n]):=by simp only[tN,e,hd,if_true]
end
end L2
namespace L2
open PySem.SeqAt
section
variable{X:Cx}{FR:g_ 0}{σ:St}{H:Hp}{s:t_}
theorem BB(I:Inv X FR σ H s):∀{ds es:C_ D}{vs:C_ V},D.depths ds<=40->jB X.K H ds vs->jB X.K H es vs->ds=es
 |[],[],[],_,_,_=>rfl
 |d::ds,e::es,v::vs,h,⟨a,b⟩,⟨a',b'⟩=>by
  have hh:D.depths (d::ds)=max d.depth (D.depths ds):=by simp[D.depths]
  have h1:d.depth<=40:=⋯;have h2:D.depths ds<=40:=⋯;rw[tG I 40 d e v h1 a a',BB I h2 b b']
 |[],_::_,vs,_,h,h'=>by
  cases vs with
  |nil=>exact h'.elim
  |cons _ _=>exact h.elim
 |_::_,[],vs,_,h,h'=>by
  cases vs with
  |nil=>exact h.elim
  |cons _ _=>exact h'.elim
def WT(I:Inv X FR σ H s){A:w_}(hd:D.depths ds<=40)(hu:A.units+42<cLine)(hx:FB X.K H ds x)(hy:FB X.K H es y)(rx:RelV x v)(ry:RelV y u):EqAt A s v u (jC ds es):=by
 let⟨a,vs,rfl,q,r⟩:=hx;let⟨b,ir,rfl,q',r'⟩:=hy;cases rx;cases ry;refine jD (λprog w E Q hq=>?_) (λe=>?_) (λf t z=>by cases z)
 ·let⟨its,rv,p,_⟩:=I.list q;let⟨its',bf,p',_⟩:=I.list q';have l1:=r.length;have l2:=r'.length;have l3:=rv.length;have l4:=bf.length;by_cases hl:ds.length=es.length
  ·refine eq_listAt p.isList p'.isList (by simp;omega) ⋯ (uJ (I:=I) r r' rv bf hd ⋯) ?_;have e1:its.toArray.size=ds.length:=by simp;omega
   rw[e1,yM hl];exact hq
  ·refine eq_list_lengthsAt p.isList p'.isList (by simp;omega) ⋯ ?_;have e:jC ds es=false:=by
    cases h:jC ds es with
    |false=>rfl
    |true=>exact absurd (B4 h) hl
   rw[e]at hq;exact hq
 ·cases e
  have ev:=I.list_inj q q';subst ev;have e2:=BB I hd r r';subst e2;have:=oE (.tup ds);simpa[eqD] using this
end
end L2
namespace L2
open PySem.SeqAt PySem.W
def hdk:PV->D_ Nat
 |.tup (.int _::_)=>a_ 0
 |.tup (.str _::_)=>a_ 1
 |.tup (.tup _::_)=>a_ 2
 |_=>b_
def ltV(x y:PV):Bool:=match x.d,y.d with
 |some d,a_ e=>ltD d e == a_ true
 |_,_=>false
structure OkV(b:Bool)(ks:C_ PV):Prop where
 dat:∀x∈ks,∃xs ds,x=.tup xs/\PV.ds xs=some ds/\D.depths ds<=40
 hd:∃t,((t == 2)=!b)/\t<=2/\∀x∈ks,hdk x=some t
 can:∀x∈ks,∀y∈ks,∃d e c,x.d=some d/\y.d=some e/\ltD d e=some c
 tr:∀x∈ks,∀y∈ks,∀z∈ks,ltV y x=false->ltV z y=false->ltV z x=false
 as:∀x∈ks,∀y∈ks,ltV x y=true->ltV y x=false
 tot:∀x∈ks,∀y∈ks,ltV x y=false->ltV y x=false->x=y
end L2
namespace L2
theorem Inv.drn{X:Cx}{FR:g_ 0}{σ:St}{H:Hp}{s:t_}(I:Inv X FR σ H s)(d:Drawn):Inv X FR σ H { s with drawn:=d}:=⟨I.ok,I.os,I.bare,I.base,I.loc,I.cell,I.free,I.freeC,I.pin,I.hok,I.len⟩
end L2
namespace L2
open PySem.SeqAt
structure Mk0(K:Zf)(C:u_):Prop where
 makes:y12 K C=true
 init:ZF K (.ref C) "__init__" = some (some (.builtin "object.__init__"))
 kp:y0G K (.ref C)=true
def SL(cn:Str):Me:=λδ h=>.ok (.ref h.length) (h++[.ins cn []])
section
variable{C:MC}{k:Nat}{X:Cx}{x cn:Str}{ca:u_}{p pos:Pos}
def G6(tb:Str->D_ Bool):PV->PH->Rs PV:=λx h=>match x with
 |.ref n=>match h[n]? with
  |some (.ins cn _)=>match tb cn with
   |some b=>.ok (.bl b) h
   |none=>.bad
  |_=>.bad
 |_=>.bad
def Pw(K:Zf)(a ca:u_)(b:Bool):Prop:=ZF K (.ref a) "__class__" = a_ (a_ (.builtin "object.__class__"))/\PySem.W.specialIn K (.builtin "object.__class__") "__get__" = a_ (a_ (.builtin "getset_descriptor.__get__"))/\PySem.W.takesIn K (.builtin "object.__class__")=a_ true/\PySem.W.mroIn K a (.type "object")=a_ true/\y2j K (.ref a) (.ref ca)=a_ b
def SN{K:Zf}{a ca:u_}(h1:PySem.W.isClsIn K ca=true)(h2:PySem.W.typeIn K (.ref ca)=a_ (.type "type"))(h3:PySem.W.subIn K (.ref a) (.ref ca)=a_ true):y2j K (.ref a) (.ref ca)=a_ true:=by
 unfold y2j;split
 ·rfl
 ·unfold PySem.W.kitCls;have dm:(PySem.W.clsIn K ca).isSome=true:=h1;simp only[dm,h2];exact h3
abbrev IsT(C:MC)(ca:u_)(tb:Str->D_ Bool):Prop:=∀cn b,tb cn=a_ b->∃a,C.cl cn=a_ a/\Cls C.K a/\Pw C.K a ca b
def Px:IsT C ca (λ_=>b_):=λcn b h=>nomatch h
def N0{tb:Str->D_ Bool}(hc:C.cl cn=a_ a)(h:Cls C.K a)(i:Pw C.K a ca b)(r:IsT C ca tb):IsT C ca (λz=>if z=cn then a_ b else tb z):=λz b' e=>by
 dsimp only at e;split at e
 ·rename_i ez;cases e
  exact⟨a,by rw[ez];exact hc,h,i⟩
 ·exact r z b' e
def Vg{tb:Str->D_ Bool}{e:A_}{me:Me}{cx:Str}{p2:Pos}(ht:IsT C ca tb)(he:SE C k X e me)(hm:X.mg cx=c_ ca)(hb:("isinstance" : Str)∈C.bs)(hg:Gl X "isinstance" := by rfl)(t9:Gl X cx:=by rfl)(u6:(cx == ("__debug__" : Str))=false:=by decide)
  (pb:Zx [e,.Name cx p2] X.env=(false,eval e X.env)::Zx [.Name cx p2] X.env:=by rfl) (bz:Zx [.Name cx p2] X.env=(false,eval (.Name cx p2) X.env)::Zx [] X.env:=by rfl) (az:(backTo pos (Zx [.Name cx p2] X.env)).any (·.1)=false:=by rfl):
  SE C k X (.Call (.Name "isinstance" p) [e,.Name cx p2] [] pos) (mUn (G6 tb) me):=λc=>by
 have call:eD X (.builtin "isinstance") (λxs H Q=>∃y,xs=[y,.ref ca]/\r1 C (G6 tb) y H Q):=by
  intro FR s σ H xs us Q I r h;let⟨y,rfl,φ,h,q,rh,rq,po⟩:=h;let⟨u,v,rfl,ru,rv⟩:=vals2 r;cases rv
  unfold G6 at po;split at po
  ·rename_i n;split at po
   ·rename_i cn fs hi;split at po
    ·rename_i b hb';let⟨a,XN,ny,h1,h2,h3,h4,h5⟩:=ht cn b hb';let⟨y',ey,hφ⟩:=rq;subst ey;let⟨a',dx,wg,ae,hH,_⟩:=rh.at' n y' _ hφ hi;rw[XN]at ae;cases ae
     rw[<-c.K]at ny h1 h2 h3 h4 h5;exact D9 I ru (.ins hH ny h1 h2 h3 h4) h5 λtk=>⟨.bl b,H,I.tok tk,rfl,po.val rh rfl⟩
    ·exact po.elim
   ·exact po.elim
  ·exact po.elim
 refine(AU call hg (c.bn _ hb) PyProof.Rows.Boot.«isinstance» (tD (he c) (tD (Oz (v:=.ref ca) t9 hm rfl u6) AR bz) pb) nofun nofun pb az).imp λσ H Q h=>?_;let⟨φ,δ,h,rh,re,po⟩:=h;refine⟨φ,δ,h,rh,re,(post.bind po).imp ?_⟩;rintro v H1 ⟨φ1,x,h1,p1,t1,aa,ab,q1⟩;exact⟨v,rfl,φ1,h1,x,aa,ab,q1⟩
end
section
@[simp]theorem TQ{h:PH}:SL cn δ h=.ok (.ref h.length) (h++[.ins cn []]):=(rfl)
def Py{tb:Str->D_ Bool}{h:PH}(e:h[n]?=a_ (.ins cn fs))(ht:tb cn=a_ b):G6 tb (.ref n) h=.ok (.bl b) h:=by simp[G6,e,ht]
end
end L2
namespace L2
section
variable{C:MC}{k:Nat}{X:Cx}
def lL:C_ PV->PH->Rs PV:=λxs h=>match xs with
 |[.ref n]=>match bW h n with
  |some kvs=>.ok (.ref h.length) (h++[.lst (kvs.map (·.1))])
  |none=>J2 xs h
 |_=>J2 xs h
def BC:rP C k X (.type "list") lL:=λc=>eD.imp (eD.or (Sl c) (HW c)) λvs H Q h=>by
 let⟨φ,h,ps,rh,rv,po⟩:=h;unfold lL at po;split at po
 ·rename_i n;split at po
  ·rename_i kvs e;let⟨v,rfl,rx⟩:=rv.one;let⟨a,rfl,ha⟩:=rx;exact .inr ⟨φ,h,n,a,kvs,rfl,rh,ha,e,λl ws hl bu=>po.lnew rh bu hl⟩
  ·exact .inl ⟨φ,h,_,rh,rv,po⟩
 ·exact .inl ⟨φ,h,_,rh,rv,po⟩
def Ks{h:PH}{kvs:C_ (PV×PV)}(e:bW h n=a_ kvs):lL [.ref n] h=.ok (.ref h.length) (h++[.lst (kvs.map (·.1))]):=by simp[lL,e]
end
def G7(w:y_)(a:u_)(ks:C_ Str):HO:=.ext λh=>gJ w h a ks
def ddT(ss:C_ Str):C_ Str:=fmT (λi=>ss.getD i "") ss.length
def Jg(ss:C_ Str):(ddT ss).length<=ss.length:=Ed _ _
def Kt{vs:C_ s_}(h:StrsAre vs ss)(h0:0<vs.length):keyKind' vs.toArray=pure oneType':=by
 cases h with
 |nil=>simp at h0
 |cons n t r=>
  cases r with
  |nil=>
   rw[keyKind'_eq,List.mapM_toArray,mapM_first_strs (.cons n t .nil)];simp only[map_pure,pure_bind];rw[if_neg (by simp),if_neg (by simp),oneTypeOnly'_eq];simp;rw[show typeOf (y0Y n t)=pure (y1v "str") from rfl]
   simp
  |cons m u r=>exact keyKind_strs (.cons n t (.cons m u r))
def Ab{vs:C_ s_}{ss:C_ Str}(h:StrsAre vs ss):vs.length=ss.length/\∀i,i<vs.length->∃t,vs.getD i ZE=y0Y (ss.getD i "") t:=by
 induction h with
 |nil=>exact⟨rfl,λi h=>by simp at h⟩
 |cons n t r ih=>
  refine⟨by simp[ih.1],λi h=>?_⟩;cases i with
  |zero=>exact⟨t,rfl⟩
  |succ i=>simpa using ih.2 i (l_ h)
theorem wO{vs:C_ s_}{ss:C_ Str}(h:StrsAre vs ss):∀{q:C_ Nat},(∀i∈q,i<vs.length)->bN ((q.map λi=>ss.getD i "").map V.str) (q.map λi=>vs.getD i ZE)
 |[],_=>.nil
 |i::q,hq=>by let⟨t,e⟩:=(Ab h).2 i (hq i Zn);simp only[ZM,e];exact .cons ⟨t,rfl⟩ (wO h λj hj=>hq j (Zh _ hj))
def G8{E:f_ 0}{x y:Str}{Q:j_ Bool}(h:Q (decide (x.cps.toList<y.cps.toList)) s):m_ prog w A (keyLt' oneType' (.str x t) (.str y u)) Q E s:=by
 show m_ prog w A (oneLt' true (.str x t) (.str y u)) Q E s
 exact oneLt_str h
def Ku{zs:C_ Str}(p:zs.Perm ss)(h:zs.Pairwise (λa b=>¬ b.cps.toList<a.cps.toList)):zs=kC ss:=by
 have e1:(zs.map λx=>[(Sum.inr x:Key)])=yW (ss.map λx=>[(Sum.inr x:Key)]):=by
  refine HM (S:=[false]) (λy hy=>?_) (p.map _) ?_
  ·let⟨z,_,rfl⟩:=Zu.mp hy;rfl
  ·rw[y2K];refine h.imp λ{a b} h1=>?_;rw[Pm];exact decide_eq_false h1
 unfold kC;rw[<-e1,Jd]
section
variable{prog:z_}{w:y_}{A:w_}{E:f_ 0}{s:t_}{a:u_}
def Ex{ks:C_ Str}{R:C_ s_->t_->Prop}(hh:A.handled=b_)(hS:gJ w s.heap a ks)(hz:ks.length<=Zq)
  (h:∀h' d tk vs ms,(∀b o,s.heap.get? b=a_ o->h'.get? b=a_ o)->StrsAre vs ms->ms.Perm ks->R vs {s with heap:=h',drawn:=d,toks:=tk}):m_ prog w A (collect (.ref a)) R E s:=by
 let⟨o,es,ep,t,ho,hx,hd,ht,hf,jh,hp⟩:=hS
 have hlen:es.size=ks.length:=by have:=hp.length_eq;simpa using this
 unfold collect
 refine Zb (wpAny_runValue (y0E PyProof.Rows.entry_proto_collect' ?_))
 rw[y0g F.plain_proto_collect]
 refine(show wpAny _ _ (newObj _ _ >>= _) _ _ _ from Zb (ZJ (Zd ⟨y1e F.plain_list_iadd _,y0E PyProof.Rows.entry_list_iadd' ?_⟩)))
 rw[y0g F.plain_list_iadd]
 have gp:(s.heap.push {cls:=.type "list",data:=.seq #[]}).get? (e_ s)=a_ {cls:=.type "list",data:=.seq #[]}:=Zj s.heap rfl
 have d4:(s.heap.push {cls:=.type "list",data:=.seq #[]}).get? a=a_ o:=Ze _ ho
 refine(show wpAny _ _ (y0F (.ref (e_ s)) (.ref a) (.ref (e_ s))) _ _ _ from ?_)
 refine Hw (R:=λr s'=>match r with|.ok (.ret v)=>m_ prog w A (match v with|ZC a=>(do let o <-load a;match o.data with|Data.seq xs epoch=>pure xs.toList|x=>unsupported "internal:collect")|x=>unsupported "internal:collect") R E s'|.ok _=>False|.error e=>E e s') (s:={s with heap:=s.heap.push {cls:=.type "list",data:=.seq #[]} }) hh d4 hx hd ht hf ⋯ (e_ s) (y0a (Zl ho)) _ 0 gp λh' d tk acc c' kp b6 pe=>?_
 refine(show wpAny _ _ (load (e_ s) >>= _) _ _ _ from Zb (wpAny_load b6 (Zd ?_)))
 have all:∀(l:C_ s_),(∀v∈l,∃k tk,v=y0Y k tk)->∃ms,StrsAre l ms/\ms=l.map λv=>Ba (0,v):=by
  intro l
  induction l with
  |nil=>intro _;exact⟨[],.nil,rfl⟩
  |cons v l ih=>
   intro hv
   let⟨k,tk,rfl⟩:=hv v Zn
   let⟨ms,i,e⟩:=ih λv h=>hv v (Zh _ h)
   exact⟨k::ms,.cons k tk i,by rw[e];rfl⟩
 let⟨ms,i,e⟩:=all acc.toList λv hv=>by
  let⟨x,hx,rfl⟩:=Zu.mp (pe.mem_iff.mp hv)
  let⟨k,tk,rfl⟩:=jh x hx
  exact⟨k,tk,rfl⟩
 refine h h' d tk acc.toList ms (λb o e=>kp b o (Zt (Zl e)) (Ze _ e)) i ?_
 rw[e]
 refine(pe.map _).trans ?_
 rw[Z7]
 exact(show es.toList.map (λx=>Ba (0,x.2))=es.toList.map Ba from y0W λx _=>rfl)▸hp
end
section
variable{C:MC}{k:Nat}{X:Cx}
def Kv(hc:X.calm=true):eD X (.type "set") (λxs H Q=>∃l ns,xs=[.ref l]/\SqL X.K H l (ns.map V.str)/\ns.length<64/\∀a,H a=b_->Q (.ref a) (upd H a (G7 X.w a (ddT ns)))):=by
 intro FR s σ H xs us Q I r h;let⟨l,ns,rfl,hq,h64,q⟩:=h;let⟨u,rfl,ru⟩:=vals1 r;cases ru
 let⟨its,rv,pl,hz⟩:=I.list hq;have hlen:=rv.length;rw[Zg]at hlen;refine K5 (I.ok.hd hc) pl.isList (ns:=ns) (by simpa using B2 rv) (by simp[scanBound];omega) λh' tk hS kp=>?_
 have hn:(y1L its).size=ns.length:=by simpa using hlen.symm
 rw[hn]at hS;have hS:gJ X.w h' (e_ s) (ddT ns):=hS;have:∃o,h'.get? (e_ s)=a_ o:=let ⟨o,_,_,_,e,_⟩:=hS;⟨o,e⟩;exact⟨.ref (e_ s),_,I.laid (t':=tk) (o:=G7 X.w (e_ s) (ddT ns)) kp (Zi _) ⟨hS,this,λh1 h2 p k=>gJ.kept p k⟩,rfl,q _ I.fresh⟩
def HY(hc:X.calm=true):eD X (.builtin "sorted") (λxs H Q=>∃a ks,xs=[.ref a]/\H a=a_ (G7 X.w a ks)/\ks.length<64/\∀l,H l=b_->Q (.ref l) (upd H l (.lst ((kC ks).map V.str)))):=by
 intro FR s σ H xs us Q I r h;let⟨a,ks,rfl,hH,h64,q⟩:=h;let⟨u,rfl,ru⟩:=vals1 r;cases ru
 have hS:gJ X.w s.heap a ks:=(I.hok a _ hH).1;refine JV (κ:=oneType') (λits s1=>∃ms,Inv X FR σ H s1/\StrsAre its ms/\ms.Perm ks) (Ex (I.ok.hd hc) hS (by rw[y0b];omega) λh' d tk vs ms kp i pe=>⟨ms,(I.drn d).kept (t':=tk) kp,i,pe⟩) ?_;rintro its s1 ⟨ms,I1,i,pe⟩;let⟨l1,g⟩:=Ab i;have l2:=pe.length_eq;refine⟨⋯,λi j=>decide ((ms.getD i "").cps.toList<(ms.getD j "").cps.toList),λi j k hi hj hk h1 h2=>decide_eq_false (y1o.mpr (List.le_trans (y1o.mp (of_decide_eq_false h1)) (y1o.mp (of_decide_eq_false h2)))),λi j _ _ h=>decide_eq_false (List.lt_asymm (of_decide_eq_true h)),λA' s' kp h0 Q' E' hq=>?_,λs' kp i j hi hj Q' hq=>?_,λp h' e a1 a2 kp he=>?_⟩
 ·rw[Kt i h0];exact Zd hq
 ·let⟨t,e1⟩:=g i hi;let⟨u,e2⟩:=g j hj;rw[e1,e2];exact G8 hq
 ·have cj:∀i∈p,i<its.length:=λi hi=>by
   have:=a1.mem_iff.mp hi
   rwa[y2i]at this
  have hz:(p.map λi=>ms.getD i "")=kC ks:=by
   refine Ku ?_ ?_
   ·refine List.Perm.trans ?_ pe;refine(a1.map _).trans ?_;have:(ZD its.length).map (λi=>ms.getD i "")=ms:=by
     apply List.ext_getElem
     ·simp[l1]
     ·intro i h1 h2;simp at h1;simp[h2]
    rw[this]
   ·rw[y2K];exact a2.imp λh=>of_decide_eq_false h
  have rv:=wO i cj;rw[hz]at rv;refine⟨.ref (e_ s1),_,I1.laid (t':=s1.toks) (o:=.lst ((kC ks).map V.str)) kp (Zi _) ⟨?_,_,e,rv,he⟩,rfl,q _ I1.fresh⟩;rw[Zg,(Bv ks).length_eq,y0b];omega
def oO:PV->PH->Rs PV:=λx h=>match x with
 |.ref n=>match bO h n with
  |some ys=>match DD ys with
   |some ns=>if ns.length<64 then .ok (.ref h.length) (h++[.lst ((kC (ddT ns)).map PV.str)]) else .bad
   |none=>.bad
  |none=>.bad
 |_=>.bad
def HZ{e:A_}{me:Me}{p p2 pos d3:Pos}(he:SE C k X e me)(hb:("sorted" : Str)∈C.bs)(u2:("set" : Str)∈C.bs)(hg:Gl X "sorted" := by rfl)(t9:Gl X "set" := by rfl)
  (pb:Zx [e] X.env=(false,eval e X.env)::Zx [] X.env:=by rfl) (uk:(backTo d3 (Zx [] X.env)).any (·.1)=false:=by rfl)
  (bz:Zx [.Call (.Name "set" p2) [e] [] d3] X.env=(false,eval (.Call (.Name "set" p2) [e] [] d3) X.env)::Zx [] X.env:=by rfl) (t7:(backTo pos (Zx [] X.env)).any (·.1)=false:=by rfl):
  SE C k X (.Call (.Name "sorted" p) [.Call (.Name "set" p2) [e] [] d3] [] pos) (mUn oO me):=λc=>
 (AU (HY c.calm) hg (c.bn _ hb) PyProof.Rows.Boot.«sorted» (tD (Dg (Kv c.calm) t9 (c.bn _ u2) PyProof.Rows.Boot.«set» (tD (he c) AR pb) nofun nofun pb uk) AR bz) nofun nofun bz t7).imp λσ H Q h=>by
  let⟨φ,δ,h,rh,re,p⟩:=h;refine⟨φ,δ,h,rh,re,(post.bind p).imp ?_⟩;rintro v H1 ⟨φ1,x,h1,p1,t1,aa,ab,q1⟩;unfold oO at q1;split at q1
  ·rename_i n;let⟨a,rfl,ha⟩:=ab;split at q1
   ·rename_i ys ey;split at q1
    ·rename_i ns en;let⟨h64,q1⟩:=q1.ite;let⟨a',vs,ha',sq,d9⟩:=dB aa ey;rw[ha]at ha';cases ha'
     rw[G1 en]at d9;rw[Ep.mp d9]at sq;refine⟨a,ns,rfl,by rw[c.K];exact sq,h64,λb hb=>?_⟩;refine⟨b,ddT ns,rfl,bX,Nat.lt_of_le_of_lt (Jg ns) h64,λl hl=>?_⟩;have hK:Kp H1 (upd H1 b (G7 X.w b (ddT ns))):=Kp.new hb;have q2:post C φ1 (upd H1 b (G7 X.w b (ddT ns))) (.ok (.ref h1.length) (h1++[.lst ((kC (ddT ns)).map PV.str)])) Q:=λφ' v H' p t rh rv=>q1 φ' v H' p (hK.trans t) rh rv;exact q2.lnew (aa.same (AX.upd hb)) (Ep.mpr rfl) hl
    ·exact q1.elim
   ·exact q1.elim
  ·exact q1.elim
def G9{h:PH}{ss:C_ Str}(e:h[n]?=a_ (.lst (ss.map PV.str)))(hl:ss.length<64):oO (.ref n) h=.ok (.ref h.length) (h++[.lst ((kC (ddT ss)).map PV.str)]):=by
 have e1:bO h n=a_ (ss.map PV.str):=by simp[bO,e]
 simp only[oO,e1,G0];rw[if_pos hl]
end
end L2
namespace L2
open PySem.SeqAt PySem.W
open Classical in
noncomputable def DH(b:Bool)(m:Nat)(ks ys:C_ PV):D_ (C_ PV):=if ks.length<64/\ks.length=ys.length/\OkN m ks/\(∀a∈ks.zip ys,∀c∈ks.zip ys,a.1=c.1->a.2=c.2) then a_ ((PySem.W.katRev b (oM y0D (ks.zip ys))).map (·.2)) else b_
noncomputable def iK(f:Fn)(b:Bool)(kb:Nat)(ys:C_ PV):C_ PV->C_ PV->PH->Rs PV
 |[],ks,h=>match DH b kb ks ys with
  |some zs=>.ok (.ref h.length) (h++[.lst zs])
  |none=>.bad
 |x::xs,ks,h=>(f [x] h).bind λk h1=>iK f b kb ys xs (ks++[k]) h1
noncomputable def Jh(f:Fn)(b:Bool)(kb:Nat)(x:PV)(h:PH):Rs PV:=match ML x h with
 |some ys=>if ys.length<64 then iK f b kb ys ys [] h else .bad
 |none=>.bad
noncomputable def Pz(f:Fn)(b:Bool)(kb:Nat)(me:Me):Me:=λδ h=>(me δ h).bind λx h1=>Jh f b kb x h1
section
variable{C:MC}{k:Nat}{X:Cx}
def N1(C:MC)(X:Cx)(FR:g_ 0)(σ:St)(φ:C_ u_)(H:Hp)(f:Fn)(b:Bool)(kb:Nat)(ys:C_ PV)(Q:VK)(a z:u_)(kS:u_)(e1:Nat)(ks:C_ s_)(e:Nat)(s':t_):Prop:=z<kS/\∃H' φ' h' zs ps,Inv X (FR++[(kS,seqObj "list" ks.toArray e),(a,seqObj "list" #[] e1)]) σ H' s'/\φ<+:φ'/\Kp H H'/\RH C φ' H' h'/\bN zs ks/\RVs C φ' H' ps zs/\post C φ' H' (iK f b kb ys (ys.drop ks.length) ps h') Q
section
variable{x:Str}{st:B_}{q:u_}{fd:ZL}{pn:C_ Str}{j:Nat}{f:Fn}
def Kw{FR:g_ 0}{σ:St}{φ:C_ u_}{H:Hp}{b:Bool}{kb:Nat}{ys:C_ PV}{us:C_ V}{its:C_ s_}{Q:VK}{a:u_}(c:Cxt C k X)(D:Def C.K X.mg x st q fd pn)(G:bR X.prog X.w C.K X.mg X.base CX0 j q fd pn (spM C 1 f))(hj:j+2<=k)
  (ry:RVs C φ H ys us) (rv:bN us its) {A':w_} (eA:A'=X.A.in1.in1) (fr:∀kS,a<=kS->X.s₀.heap.objs.size<=kS/\kS≠X.env.locals/\(∀x c,X.env.cells.lookup x=a_ c->c≠kS)/\(∀p∈X.pn++FR,p.1≠kS)/\kS∉X.fs)
  (kS:u_) (e1:Nat) (ks:C_ s_) (e:Nat) (s':t_) (y:s_) (hy:its[ks.length]?=a_ y) (hJ:N1 C X FR σ φ H f b kb ys Q a a kS e1 ks e s'):
  wpAny (h_ X) A' (call (.ref q) [y]) (λv cg=>cg.heap.get? kS=a_ (seqObj "list" ks.toArray e)/\∀(h':x_) e',y0z kS cg.heap h'->h'.get? kS=a_ (seqObj "list" (ks++[v]).toArray e')->N1 C X FR σ φ H f b kb ys Q a a kS e1 (ks++[v]) e' { cg with heap:=h'}) (λ_ _=>False) s':=by
 subst eA;let⟨hz,H',φ',h',zs,ps,I,pp,tt,rh,rz,rp,po⟩:=hJ;have af:ks.length<its.length:=(Zc.mp hy).1;have zh:us.length=its.length:=rv.length;have yp:ys.length=us.length:=ry.length;have gy:ys[ks.length]?=a_ (ys[ks.length]'⋯):=by simp
 let⟨u,hu,ru⟩:=ry.at gy;let⟨y',f9,YJ⟩:=rv.get hu;rw[hy]at f9;cases f9
 have hd:ys.drop ks.length=ys[ks.length]'⋯::ys.drop (ks.length+1):=drop_cons gy;rw[hd]at po;have yf:=c.K;have G':bR X.prog X.w X.K X.mg X.base CX0 j q fd pn (spM C 1 f):=by rw[yf];exact G
 have D':Def X.K X.mg x st q fd pn:=by rw[yf];exact D
 have y8:spM C 1 f [u] H' (λv H2=>∃φ2 p h2,φ'<+:φ2/\Kp H' H2/\RH C φ2 H2 h2/\RV C φ2 H2 p v/\post C φ2 H2 (iK f b kb ys (ys.drop (ks.length+1)) (ps++[p]) h2) Q) E0:=⟨φ',h',[ys[ks.length]'⋯],rh,⟨ru.mono pp tt,trivial⟩,rfl,post.bind po⟩;have hl:([y]:C_ s_).length=pn.length:=G'.len _ _ _ _ y8;refine wpAny_call (y2Z (G'.run X.A.in1.in1 X.stack s' H' ⟨[y],[]⟩ [y] [u] _ E0 ((c.room.mono hj).in1.in1) I.env0.in1.in1 (by
  have:=D'.bd s' [y] I.kIn (l_ hl)
  simpa using this) (.cons YJ .nil) y8) λr s2 hq=>?_)
 cases r with
 |error e=>exact hq.elim
 |ok fl=>
  cases fl with
  |next=>exact y1a hq
  |brk=>exact y1a hq
  |cont=>exact y1a hq
  |ret v=>
   let⟨x2,H2,I2,YS,φ2,p2,h2,XC,yt,aj,YL,YV⟩:=I.after hq;have gk:=I2.pin (kS,seqObj "list" ks.toArray e) (Zo _ (Zo _ Zn));have ga:=I2.pin (a,seqObj "list" #[] e1) (Zo _ (Zo _ (Zh _ Zn)));refine⟨gk.1,λg e' sb lu=>?_⟩;have fk:=fr kS (y1J hz);have YQ:a≠kS:=Zt hz;have I3:Inv X (FR++[(a,seqObj "list" #[] e1)]) σ H2 s2:=I2.pins_of λp hp=>(ZQ.mp hp).elim (λz=>I2.pin p (Zo _ (Z5 _ z))) λz=>by rw[ZN.mp z];exact ga
   have I4:=I3.turned (t':=s2.toks) (it:=kS) (h':=g) (λb' o' hb hq=>(sb.2 b' hb).trans hq) gk.2.1 fk.2.1 (.inr fk.1) fk.2.2.1 (λp hp=>by
    rcases ZQ.mp hp with hp|hp
    ·exact fk.2.2.2.1 p (Z5 _ hp)
    ·rcases ZQ.mp hp with hp|hp
     ·exact fk.2.2.2.1 p (Zo _ hp)
     ·rw[ZN.mp hp];exact YQ)
   refine⟨hz,H2,φ2,h2,zs++[x2],ps++[p2],I4.pins_of λp hp=>?_,pp.trans XC,tt.trans yt,aj,rz.append (.cons YS .nil),(rp.mono XC yt).snoc YL,?_⟩
   ·rcases ZQ.mp hp with hp|hp
    ·exact I4.pin p (Zo _ (Z5 _ hp))
    ·rcases Zs.mp hp with rfl|hp
     ·exact⟨lu,gk.2.1,fk.2.1,fk.2.2.2.2,rT⟩
     ·rw[ZN.mp hp];exact I4.pin _ (Zo _ (Zo _ Zn))
   ·rw[y0h];exact YV
def Ga{au:C_ PV}{ys:C_ PV}(hl:au.length=ys.length)(ok:OkN kb au)(cs:∀a∈au.zip ys,∀c∈au.zip ys,a.1=c.1->a.2=c.2){p:C_ Nat}(hp:p.Perm (ZD ys.length))(ho:p.Pairwise (λi j=>(if b then ltN (au.getD i .non) (au.getD j .non) else ltN (au.getD j .non) (au.getD i .non))=false)):p.map (λi=>ys.getD i .non)=(PySem.W.katRev b (oM y0D (au.zip ys))).map (·.2):=by
 let zs:=au.zip ys;have YH:zs.length=ys.length:=by show(au.zip ys).length=_;simp[hl]
 have cj:∀i∈p,i<ys.length:=λi hi=>by simpa using hp.mem_iff.mp hi
 have eg:∀i,i<ys.length->zs.getD i (.non,.non)=(au.getD i .non,ys.getD i .non):=λi hi=>by
  have h1:i<au.length:=⋯;have h2:i<zs.length:=⋯;have h3:(au.zip ys)[i]?=a_ (au[i],ys[i]):=by rw[List.getElem?_zip_eq_some];exact⟨by simp[h1],by simp[hi]⟩
  show(au.zip ys).getD i _=_
  simp[h1,hi,h3]
 have uo:(p.map λi=>zs.getD i (.non,.non)).Perm zs:=JW (by rw[YH];exact hp);have hm:zs.map (·.1)=au:=by
  show(au.zip ys).map y0D=au
  exact List.map_fst_zip ⋯
 have hsz:∀y∈zs,y.1∈au:=λy hy=>by rw[<-hm];exact Zu.mpr ⟨y,hy,rfl⟩
 have inj:∀a∈zs,∀c∈zs,enc (y0D a)=enc (y0D c)->a=c:=λa ha c hc e=>by have e1:=ok.inj _ (hsz a ha) _ (hsz c hc) e;exact Prod.ext e1 (cs a ha c hc e1)
 have e2:p.map (λi=>ys.getD i .non)=(p.map λi=>zs.getD i (.non,.non)).map (·.2):=by rw[Z7];exact y0W λi hi=>by show _=(zs.getD i _).2;rw[eg i (cj i hi)]
 rw[e2];have key:∀(R:Nat->Nat->Bool),p.Pairwise (λi j=>R i j=false)->(∀i j,i<ys.length->j<ys.length->R i j=ltN (zs.getD j (.non,.non)).1 (zs.getD i (.non,.non)).1)->(p.map λi=>zs.getD i (.non,.non)).Pairwise (λx y=>ltN y.1 x.1=false):=λR h1 h2=>by rw[y2K];exact h1.imp_of_mem λ{i j} hi hj h=>by rw[<-h2 i j (cj i hi) (cj j hj)];exact h
 cases b with
 |false=>
  congr 1;refine DB y0D inj uo (key (λi j=>ltN (au.getD j .non) (au.getD i .non)) ho λi j hi hj=>by rw[eg i hi,eg j hj])
 |true=>
  congr 1;have hr:(p.map λi=>zs.getD i (.non,.non)).reverse=oM y0D zs:=by refine DB y0D inj ((List.reverse_perm _).trans uo) ?_;rw[List.pairwise_reverse,y2K];exact ho.imp_of_mem λ{i j} hi hj h=>by rw[eg i (cj i hi),eg j (cj j hj)];exact h
  show _=(oM y0D zs).reverse
  rw[<-hr,List.reverse_reverse]
end
end
section
variable{α:Type}
def PB{key emb:α->PV}{xs:C_ α}(h1:xs.length<64)(ok:OkN m (xs.map key))(hc:∀a∈xs,∀c∈xs,key a=key c->emb a=emb c):∃os:C_ α,os.Perm xs/\os.Pairwise (λa c=>ltN (key c) (key a)=false)/\DH false m (xs.map key) (xs.map emb)=a_ (os.map emb):=by
 have ez:(xs.map key).zip (xs.map emb)=xs.map λx=>(key x,emb x):=by
  induction xs with
  |nil=>rfl
  |cons x xs ih=>simp only[ZM,List.zip_cons_cons];rw[ih (by simp at h1;omega) ⟨ok.m3,λy hy=>ok.ky y (Zh _ hy),λy hy=>ok.fk y (Zh _ hy),λy hy z hz=>ok.lt y (Zh _ hy) z (Zh _ hz)⟩ (λa ha c ae=>hc a (Zh _ ha) c (Zh _ ae))]
 have xg:∀(x:α)(ys:C_ α),Bt y0D (key x,emb x) (ys.map λy=>(key y,emb y))=(Bt key x ys).map λy=>(key y,emb y):=λx ys=>by
  induction ys with
  |nil=>rfl
  |cons y ys ih=>
   show(if ltN (key y) (key x)=true then(key y,emb y)::Bt y0D (key x,emb x) (ys.map λy=>(key y,emb y)) else(key x,emb x)::(key y,emb y)::ys.map λy=>(key y,emb y))=(if ltN (key y) (key x)=true then y::Bt key x ys else x::y::ys).map λy=>(key y,emb y)
   split
   ·rw[ih];rfl
   ·rfl
 have srt:∀ys:C_ α,oM y0D (ys.map λy=>(key y,emb y))=(oM key ys).map λy=>(key y,emb y):=λys=>by
  induction ys with
  |nil=>rfl
  |cons y ys ih=>
   show Bt y0D (key y,emb y) (oM y0D (ys.map λy=>(key y,emb y)))=_
   rw[ih,xg];rfl
 refine⟨oM key xs,pG key xs,pH key xs,?_⟩;unfold DH;rw[if_pos ⟨l_ h1,by simp,ok,λa ha c ae e=>by rw[ez]at ha ae;let⟨x,hx,rfl⟩:=Zu.mp ha;let⟨y,hy,rfl⟩:=Zu.mp ae;exact hc x hx y hy e⟩,ez,srt]
 show a_ (((oM key xs).map λy=>(key y,emb y)).map Prod.snd)=_
 rw[Z7];rfl
theorem Ji{key emb:α->PV}{Q:PV->PH->Prop}:∀(r done:C_ α)(h:PH),(∀d∈r,∀h(Q:PV->PH->Prop),(∀h',Ext h h'->Q (key d) h')->(f [emb d] h).W Q)->
  DH false m ((done++r).map key) ys=a_ zs->(∀h',Ext h h'->Q (.ref h'.length) (h'++[.lst zs]))->(iK f false m ys (r.map emb) (done.map key) h).W Q
 |[],done,h,_,hs,k=>by rw[y1h]at hs;simp only[List.map_nil,iK,hs,iX];exact k h (Ext.refl h)
 |x::r,done,h,hf,hs,k=>by
  rw[ZM];unfold iK;rw[Ek];refine hf x Zn h _ λh1 x1=>?_;have e:done.map key++[key x]=(done++[x]).map key:=by simp
  rw[e];exact Ji r (done++[x]) h1 (λd hd=>hf d (Zh _ hd)) (by rw[y0J];exact hs) λh' x2=>k h' (x1.trans x2)
end
section
variable{δ:Ev}{h:PH}{m:Me}
@[simp]theorem SQ:Pz f b n m δ h=(m δ h).bind λx h1=>Jh f b n x h1:=(rfl)
end
end L2
namespace L2
open PySem.SeqAt
def eqL(f:PV->PV->D_ Bool):C_ PV->C_ PV->D_ Bool
 |x::xs,y::ys=>match f x y,eqL f xs ys with
  |some b,a_ c=>a_ (b&&c)
  |_,_=>b_
 |[],[]=>a_ true
 |_,_=>a_ false
theorem N2{f:PV->PV->D_ Bool}:∀{xs ys:C_ PV}{b:Bool},eqL f xs ys=a_ b->
  ∃g:Nat->Bool,(∀(j:Nat)(x y:PV),xs[j]?=a_ x->ys[j]?=a_ y->f x y=a_ (g j))/\b=((ZD (min xs.length ys.length)).all g&&xs.length == ys.length)
 |[],[],b,e=>⟨λ_=>true,λj x y h=>(by simp at h),by cases e;rfl⟩
 |[],y::ys,b,e=>⟨λ_=>true,λj x y h=>(by simp at h),by cases e;simp⟩
 |x::xs,[],b,e=>⟨λ_=>true,λj x y _ h=>(by simp at h),by cases e;simp⟩
 |x::xs,y::ys,b,e=>by
  unfold eqL at e;split at e
  ·rename_i b' c e1 e2;cases e
   let⟨g,h1,h2⟩:=N2 e2;refine⟨λj=>match j with|0=>b'|j+1=>g j,λj x y hx hy=>?_,?_⟩
   ·cases j with
    |zero=>simp at hx hy;subst hx hy;exact e1
    |succ j=>exact h1 j x y (l_ hx) (l_ hy)
   ·rw[h2];have e3:min (x::xs).length (y::ys).length=min xs.length ys.length+1:=by simp only[ZY];omega
    rw[e3,List.range_succ_eq_map,y1d,y1j,Bool.and_assoc];simp[Function.comp_def]
  ·cases e
theorem Ey{f:PV->PV->D_ Bool}{R:PV->V->Prop}(hf:∀x y v b,f x y=a_ b->R x v->R y v->b=true):∀{xs ys:C_ PV}{vs:C_ V}{b:Bool},(∀(j:Nat)(x:PV),xs[j]?=a_ x->∃v,vs[j]?=a_ v/\R x v)->(∀(j:Nat)(x:PV),ys[j]?=a_ x->∃v,vs[j]?=a_ v/\R x v)->xs.length=ys.length->eqL f xs ys=a_ b->b=true
 |[],[],_,b,_,_,_,e=>by cases e;rfl
 |[],_::_,_,_,_,_,h,_=>by simp at h
 |_::_,[],_,_,_,_,h,_=>by simp at h
 |x::xs,y::ys,vs,b,h1,h2,h,e=>by
  unfold eqL at e;split at e
  ·rename_i b' c e1 e2;cases e
   let⟨v,hv,rx⟩:=h1 0 x rfl;let⟨v',kz,ry⟩:=h2 0 y rfl;rw[hv]at kz;cases kz
   rw[hf x y v b' e1 rx ry,Ey hf (vs:=vs.tail) (λj z hz=>by simpa using h1 (j+1) z hz) (λj z hz=>by simpa using h2 (j+1) z hz) (l_ h) e2]
   rfl
  ·cases e
def eqF:Nat->PV->PV->PH->D_ Bool
 |0,x,y,h=>lY x y h
 |n+1,x,y,h=>match lY x y h with
  |some b=>a_ b
  |none=>match x,y with
   |.tup xs,.tup ys=>eqL (λa b=>eqF n a b h) xs ys
   |x,y=>match iY x h,iY y h with
    |some xs,a_ ys=>eqL (λa b=>eqF n a b h) xs ys
    |_,_=>b_
def I0:PV->PV->PH->Rs PV:=λx y h=>ofB (eqF 3 x y h) h
def Ez:PV->PV->PH->Rs PV:=λx y h=>ofB ((eqF 3 x y h).map not) h
section
variable{C:MC}{k:Nat}{X:Cx}{FR:g_ 0}{σ:St}{H:Hp}{s:t_}{φ:C_ u_}{h:PH}
theorem uR:∀{xs:C_ PV}{vs:C_ V},RVs C φ H xs vs->xs.length=vs.length/\∀(j:Nat)(x:PV),xs[j]?=a_ x->∃v,vs[j]?=a_ v/\RV C φ H x v
 |[],[],_=>⟨rfl,λj x h=>by simp at h⟩
 |x::xs,v::vs,r=>by
  let⟨l,q⟩:=uR r.2;refine⟨by simp[l],λj y hy=>?_⟩;cases j with
  |zero=>simp at hy;subst hy;exact⟨v,rfl,r.1⟩
  |succ j=>simpa using q j y (l_ hy)
 |[],_::_,r=>r.elim
 |_::_,[],r=>r.elim
def DI(I:Inv X FR σ H s)(hK:X.K=C.K)(rh:RH C φ H h)(e:lY x y h=a_ b)(rx:RV C φ H x w)(ry:RV C φ H y w):b=true:=by
 rcases pA rh rx ry e with⟨d,e',q1,q2,q3,rfl⟩|⟨d,e',⟨a,vs,hw,sa,ra⟩,⟨a',us,hw',l9,ra'⟩,q3,rfl⟩
 ·rw[<-hK]at q1 q2;rw[tG I 40 d e' w q3 q1 q2];exact oE _
 ·rw[<-hK]at sa l9 ra ra';subst hw;cases hw'
  have ev:=I.list_inj sa l9;subst ev;have e2:=BB I q3 ra ra';subst e2;have:=oE (.tup d);simpa[eqD] using this
def N3(I:Inv X FR σ H s)(hK:X.K=C.K)(rh:RH C φ H h):∀(n:Nat)(x y:PV)(w:V)(b:Bool),eqF n x y h=a_ b->RV C φ H x w->RV C φ H y w->b=true:=by
 intro n
 induction n with
 |zero=>intro x y w b e rx ry;exact DI I hK rh e rx ry
 |succ n ih=>
  intro x y w b e rx ry;unfold eqF at e;split at e
  ·rename_i b' e2;cases e
   exact DI I hK rh e2 rx ry
  ·split at e
   ·rename_i xs ys _;let⟨a,vs,rfl,q,r⟩:=rx;let⟨a',us,hw,q',r'⟩:=ry;cases hw
    rw[<-hK]at q q';have ev:=I.tuple_inj q q';subst ev;let⟨l1,a1⟩:=uR r;let⟨l2,a2⟩:=uR r';exact Ey (R:=RV C φ H) (λx y v b=>ih x y v b) a1 a2 ⋯ e
   ·split at e
    ·rename_i xs ys h1 h2;let⟨a,vs,rfl,sa,ra⟩:=lX rh rx h1;let⟨a',us,hw,sb,rb⟩:=lX rh ry h2;cases hw
     rw[<-hK]at sa sb;have ev:=I.list_inj sa sb;subst ev;let⟨l1,a1⟩:=uR ra;let⟨l2,a2⟩:=uR rb;exact Ey (R:=RV C φ H) (λx y v b=>ih x y v b) a1 a2 ⋯ e
    ·cases e
def Gb(hn:∀(A:w_)(x y:PV)(v u:V)(i j:s_)(b:Bool),A.units+42+n<cLine->eqF n x y h=a_ b->RV C φ H x v->RV C φ H y u->RelV v i->RelV u j->EqAt A s i j b){A:w_}{xs ys:C_ PV}{is js:C_ s_}(hu:A.units+42+n<cLine)(e:eqL (λa b=>eqF n a b h) xs ys=a_ b)(r:RVs C φ H xs vs)(r':RVs C φ H ys us)(rv:bN vs is)(bu:bN us js):
  ∃g:Nat->Bool,is.toArray.size=xs.length/\js.toArray.size=ys.length/\(∀(j:Nat)(h1:j<is.toArray.size)(h2:j<js.toArray.size),EqAt A s is.toArray[j] js.toArray[j] (g j))/\b=((ZD (min is.toArray.size js.toArray.size)).all g&&is.toArray.size == js.toArray.size):=by
 let⟨g,hg,hb⟩:=N2 e;let⟨l1,a1⟩:=uR r;let⟨l2,a2⟩:=uR r';have l3:=rv.length;have l4:=bu.length;have z1:is.toArray.size=xs.length:=by simp;omega
 have z2:js.toArray.size=ys.length:=by simp;omega
 refine⟨g,z1,z2,λj h1 h2=>?_,by rw[z1,z2];exact hb⟩;have k1:j<xs.length:=⋯;have k2:j<ys.length:=⋯;let⟨v,hv,q1⟩:=a1 j xs[j] (Z9 k1);let⟨u,kg,q2⟩:=a2 j ys[j] (Z9 k2);let⟨i,hi,q3⟩:=rv.get hv;let⟨i',ax,q4⟩:=bu.get kg;have e1:is.toArray[j]=i:=by have:=(Zc.mp hi).2;simpa using this
 have e2:js.toArray[j]=i':=by have:=(Zc.mp ax).2;simpa using this
 rw[e1,e2];exact hn A _ _ v u i i' (g j) hu (hg j _ _ (Z9 k1) (Z9 k2)) q1 q2 q3 q4
def Ia(I:Inv X FR σ H s)(hK:X.K=C.K)(rh:RH C φ H h)(n:Nat)(hn:∀(A:w_)(x y:PV)(v u:V)(i j:s_)(b:Bool),A.units+42+n<cLine->eqF n x y h=a_ b->RV C φ H x v->RV C φ H y u->RelV v i->RelV u j->EqAt A s i j b)
  (A:w_) (x y:PV) (v u:V) (i j:s_) (b:Bool) (hu:A.units+43+n<cLine) (e2:lY x y h=b_) (e:eqF (n+1) x y h=a_ b) (rx:RV C φ H x v) (ry:RV C φ H y u) (r1:RelV v i) (r2:RelV u j):
  RcAt A s i j b/\RcNeAt A s i j (!b)/\∃a a',i=.ref a/\j=.ref a'/\v=.ref a/\u=.ref a':=by
 unfold eqF at e;rw[e2]at e;simp only at e;split at e
 ·rename_i xs ys;let⟨a,vs,rfl,q,r⟩:=rx;let⟨a',us,rfl,q',r'⟩:=ry;cases r1;cases r2;rw[<-hK]at q q';let⟨its,rv,p,_⟩:=I.tuple q;let⟨its',bf,p',_⟩:=I.tuple q';let⟨g,z1,z2,el,hb⟩:=Gb hn (A:=A.in1) (by show A.units+1+42+n<cLine;omega) e r r' rv bf;rw[hb];exact⟨RcAt.tuples p p' ⋯ el,RcNeAt.tuples p p' ⋯ el,a,a',rfl,rfl,rfl,rfl⟩
 ·split at e
  ·rename_i xs ys h1 h2;let⟨a,vs,rfl,sa,ra⟩:=lX rh rx h1;let⟨a',us,rfl,sb,rb⟩:=lX rh ry h2;cases r1;cases r2;rw[<-hK]at sa sb;let⟨its,rv,p,_⟩:=I.list sa;let⟨its',bf,p',_⟩:=I.list sb;let⟨g,z1,z2,el,hb⟩:=Gb hn (A:=A.in1) (by show A.units+1+42+n<cLine;omega) e ra rb rv bf;refine⟨?_,?_,a,a',rfl,rfl,rfl,rfl⟩
   all_goals by_cases hl:its.toArray.size=its'.toArray.size
   all_goals first
    |rw[hb,<-hl,Nat.min_self,beq_self_eq_true,Bool.and_true]
    |rw[hb,beq_eq_false_iff_ne.mpr hl,Bool.and_false]
   ·intro prog w E Q hq;exact eq_listAt p.isList p'.isList hl ⋯ el hq
   ·intro prog w E Q hq;exact eq_list_lengthsAt p.isList p'.isList (l_ hl) ⋯ hq
   ·exact RcNeAt.lists p.isList p'.isList hl ⋯ el
   ·exact RcNeAt.lists_lengths p.isList p'.isList (l_ hl) ⋯
  ·cases e
def N4(I:Inv X FR σ H s)(hK:X.K=C.K)(rh:RH C φ H h):∀(n:Nat)(A:w_)(x y:PV)(v u:V)(i j:s_)(b:Bool),A.units+42+n<cLine->eqF n x y h=a_ b->RV C φ H x v->RV C φ H y u->RelV v i->RelV u j->EqAt A s i j b:=by
 have base:∀(A:w_)(x y:PV)(v u:V)(i j:s_)(b:Bool),A.units+42<cLine->lY x y h=a_ b->RV C φ H x v->RV C φ H y u->RelV v i->RelV u j->EqAt A s i j b:=by
  intro A x y v u i j b hu e rx ry r1 r3;rcases pA rh rx ry e with⟨d,e',q1,q2,q3,rfl⟩|⟨d,e',q1,q2,q3,rfl⟩
  ·exact P' I (n:=40) q3 ⋯ (by rw[hK];exact q1) (by rw[hK];exact q2) r1 r3
  ·exact WT I q3 hu (by rw[hK];exact q1) (by rw[hK];exact q2) r1 r3
 intro n
 induction n with
 |zero=>intro A x y v u i j b hu e;exact base A x y v u i j b ⋯ e
 |succ n ih=>
  intro A x y v u i j b hu e rx ry r1 r2;cases e2:lY x y h with
  |some b'=>
   unfold eqF at e;rw[e2]at e;cases e
   exact base A x y v u i j b ⋯ e2 rx ry r1 r2
  |none=>
   let⟨h1,_,a,a',rfl,rfl,rfl,rfl⟩:=Ia I hK rh n ih A x y v u i j b ⋯ e2 e rx ry r1 r2;refine jD h1 (λz=>?_) (λf t z=>by cases z);cases z
   exact N3 I hK rh (n+1) x y _ b e rx ry
def Gc(e:eqF 3 x y h=a_ b):lY x y h=a_ b\/lY x y h=b_:=by
 unfold eqF at e;split at e
 ·rename_i b' e2;cases e
  exact .inl e2
 ·exact .inr (by assumption)
def N5:OpS C k X (ZZ .Eq) I0:=λc=>by
 intro FR s σ H x y v u Q I rx ry hq;let⟨φ,h,p,q,rh,rp,rq,po⟩:=hq;let⟨b,e,po⟩:=po.ofB;have hu:=c.hu64;rcases Gc e with e2|e2
 ·refine uL c FR s σ H x y v u Q I rx ry ⟨φ,h,p,q,rh,rp,rq,?_⟩;unfold vEq;rw[e2];exact po
 ·exact(Ia I c.K rh 2 (N4 I c.K rh 2) X.A p q x y v u b ⋯ e2 e rp rq rx ry).1 X.prog X.w X.xe _ ⟨.bl _,H,I,rfl,po.val rh rfl⟩
def Ib:OpS C k X (ZZ .NotEq) Ez:=λc=>by
 intro FR s σ H x y v u Q I rx ry hq;let⟨φ,h,p,q,rh,rp,rq,po⟩:=hq;let⟨b0,e0,po⟩:=po.ofB;let⟨b,e,rfl⟩:=Zw.mp e0;have hu:=c.hu64;rcases Gc e with e2|e2
 ·refine Uy c FR s σ H x y v u Q I rx ry ⟨φ,h,p,q,rh,rp,rq,?_⟩;unfold vNe;rw[e2];exact po
 ·exact(Ia I c.K rh 2 (N4 I c.K rh 2) X.A p q x y v u b ⋯ e2 e rp rq rx ry).2.1 X.prog X.w X.xe _ ⟨.bl _,H,I,rfl,po.val rh rfl⟩
end
end L2
namespace L2
open PySem.SeqAt
open PySem.AutoSeq1 (wpAny_loadPart')
open PySem.MeetsSeq PySem.MeetsSeq2 PySem.MeetsSeq3
section
variable{C:MC}{k:Nat}{X:Cx}
def WU:PV->PV->PH->Rs PV:=λx y h=>match x,y with
 |.tup xs,.tup ys=>ofB (if(PV.tup xs).d.all (λd=>decide (d.depth<=40)) then(Sv (.tup ys) (.tup xs)).map (!·) else b_) h
 |x,y=>vLe x y h
variable{h:PH}
@[simp]theorem Vh:WU (.int i) (.int j) h=.ok (.bl (decide (i<=j))) h:=(rfl)
end
end L2
namespace L2
open PySem.SeqAt PySem.W
theorem BD{κ β:Type}[DecidableEq κ]{k:κ}{p:β}:∀{xs:C_ (κ×β)}{j:Nat},(xs.map (·.1)).Nodup->xs[j]?=a_ (k,p)->xs.eraseIdx j=xs.filter λx=>decide (x.1≠k)
 |[],j,_,h=>by simp at h
 |x::r,0,hn,h=>by
  simp only[List.getElem?_cons_zero,Option.some.injEq]at h;subst h;rw[ZM,y1i]at hn;rw[List.eraseIdx_cons_zero,List.filter_cons];simp only[ne_eq,not_true_eq_false,decide_false,ZU,if_false]
  symm
  rw[List.filter_eq_self];intro y hy;exact decide_eq_true λe=>hn.1 (Zu.mpr ⟨y,hy,e⟩)
 |x::r,j+1,hn,h=>by rw[y0K]at h;rw[ZM,y1i]at hn;have hx:¬ x.1=k:=λe=>hn.1 (e▸Zu.mpr ⟨(k,p),ZP h,rfl⟩);rw[y2b,List.filter_cons,BD hn.2 h];simp[hx]
theorem BE{α β:Type}(f:α->β):∀(l:C_ α)(i:Nat),(l.map f).eraseIdx i=(l.eraseIdx i).map f
 |[],i=>by simp
 |x::r,0=>rfl
 |x::r,i+1=>by rw[ZM,y2b,y2b,ZM,BE f r i]
section
variable{prog:z_}{w:y_}{A:w_}{E:f_ 0}{s:t_}{K:Type}[DecidableEq K]{knd:HeapKind prog w K}
def EA{d a:u_}{xs:C_ (K×u_×s_)}{k:K}{p:u_×s_}{Q:D_ y1q->t_->Prop}(hu:knd.room A)(ah:knd.is s.heap k a)(hm:s.heap.DictOfH knd d xs)(hp:atKey xs k=a_ p)(hz:xs.length<=Zq)
  (h:∀h',h'.DictOfH knd d (xs.filter λx=>decide (x.1≠k))->y0z d s.heap h'->Q (a_ (entryOfKey knd (k,p))) {s with heap:=h',toks:=s.toks+knd.draws k}):
  m_ prog w A (Builtin.Dict.takeOut d (.ref a)) Q E s:=by
 let⟨o,es,ep,ho,hc,hd,he,k0,hn⟩:=hm;unfold Builtin.Dict.takeOut
 try with_reducible refine Z3 ?_
 refine Zb (knd.pyHash hu ah ?_);refine Zb (wpAny_dictFind_heap (s:={ s with toks:=s.toks+knd.draws k}) hu ah ho hd he k0 hn ?_ ?_)
 ·intro fu;rw[atKey_none_of_get fu]at hp;cases hp
 ·intro j q hj;have e1:=atKey_of_get hn hj;rw[hp]at e1;cases e1
  refine Zb (y0x (s:={ s with toks:=s.toks+knd.draws k}) ho hd ?_);rw[entry_at he j,hj];refine Zb (wpAny_updateDictKeys (hz:=by have e:=size_of_entries he;omega) (hf:=by
   have:(es.eraseIdxIfInBounds j).size<=es.size:=by let⟨l⟩:=es;simp only[List.eraseIdxIfInBounds_toArray,Zp];exact List.length_eraseIdx_le _ _
   exact Nat.le_succ_of_le this) (s:={ s with toks:=s.toks+knd.draws k}) ho hd (Zd (h _ ⟨_,_,ep+1,ZX _ ho (Obj.isFreed_of_dict (y1r hd _)),
   hc.mapDictKeys _,y1r hd _,?_,?_,?_⟩ (ZK ..))))
  ·rw[Array.toList_eraseIdxIfInBounds,he,<-BD hn hj,BE]
  ·intro x hx;exact knd.keeps (k0 x (y2q.mp hx).1) ho hd (ZK ..)
  ·exact(List.Sublist.map _ List.filter_sublist).nodup hn
def BF(knd:HeapKind prog w K)(d a:u_):MeetsIn prog w (Builtin.«dict.pop» ⟨[.ref d,.ref a],[]⟩) (λA R s=>knd.room A.in1/\∃k xs p,knd.is s.heap k a/\s.heap.DictOfH knd d xs/\xs.length<=Zq/\atKey xs k=a_ p/\
   ∀h',h'.DictOfH knd d (xs.filter λx=>decide (x.1≠k))->y0z d s.heap h'->R (.ok (.ret p.2)) {s with heap:=h',toks:=s.toks+knd.draws k}):=
 .of_wp λA R s ⟨hu,k,xs,p,ah,hm,hz,hp,r⟩=>by
  unfold Builtin.«dict.pop»;refine Zb ?_;unfold y2M;refine Zb (y1k hm.typeIs (show wpAny _ _ (pure (d,ZC a,b_)) _ _ s from Zd ?_))
  have kp:(keyPart (ZC a)).isSome=false:=rfl;simp only[kp,ZU,if_false];let⟨o,es,ep,ho,hc,hd,he,k0,hn⟩:=id hm;have ne:es.isEmpty=false:=by
   have e1:=size_of_entries he;cases xs with
   |nil=>cases hp
   |cons x t=>
    rw[ZY]at e1;have:es≠#[]:=λe=>by rw[e]at e1;cases e1
    simpa using this
  refine Zb (y0x ho hd ?_);rw[ne];refine Zb (Zd ?_);simp only[ZU,if_false];refine Zb (EA hu ah hm hp hz λh' q1 q2=>?_);simp only[Option.isNone_some,ZU,if_false];exact Zb (wpAny_letGo (Zd ⟨_,rfl,r h' q1 q2⟩))
end
section
variable{C:MC}{k:Nat}{X:Cx}
def DJ:PV->C_ PV->PH->Rs PV:=λx ps h=>match x,ps with
 | .ref n,[y]=>if y.isKt=true then match bW h n with
   |some kvs=>match cF kvs y with
    |some p=>.ok p (h.set n (.dD (A7 kvs y)))
    |none=>.bad
   |none=>.bad
  else .bad
 |_,_=>.bad
theorem HD.drop{xs:C_ (PV×u_×s_)}(r:RKd C φ H kvs ks)(rx:yV ks xs)(y:PV):∃aq,RKd C φ H (A7 kvs y) aq/\yV aq (xs.filter λx=>decide (x.1≠y)):=by
 unfold RKd at r;unfold RKd
 induction r generalizing xs with
 |nil=>cases rx;exact⟨[],.nil,.nil⟩
 | @cons p q ps qs h t ih=>
  cases rx with
  | @cons _ z _ zs hz tz=>
   let⟨aq,i1,i2⟩:=ih tz;have eq1:p.1=q.1:=h.1;have eq2:q.1=z.1:=hz.1;unfold A7;rw[List.filter_cons,List.filter_cons];by_cases e:p.1=y
   ·have e':z.1=y:=by rw[<-eq2,<-eq1];exact e
    simp only[e,e',ne_eq,not_true_eq_false,decide_false,ZU,if_false];exact⟨aq,i1,i2⟩
   ·have e':¬ z.1=y:=λw=>e (by rw[eq1,eq2];exact w);simp only[e,e',ne_eq,not_false_eq_true,decide_true,if_true];exact⟨q::aq,.cons h i1,.cons hz i2⟩
def PC(c:Cxt C k X):MtR X "dict.pop" (rM C DJ):=λFR s σ H x xs v us Q I rx rs h=>by
 let⟨φ,h,p,ps,rh,rp,nv,po⟩:=h;unfold DJ at po;split at po
 ·rename_i n y;let⟨a,rfl,ha⟩:=rp;cases rx
  let⟨yv,rfl,ry⟩:=nv.one;let⟨yu,rfl,de⟩:=vals1 rs;let⟨hk,po⟩:=po.ite;split at po
  ·rename_i kvs ht;let⟨b,rfl⟩:=pF hk ry;cases de
   let⟨⟨ks,xs,r,ba,hz,hm,dd⟩,mu,nt⟩:=wL I c.K c.w rh ha ht;have hv:=HD.val (a:=a) r ba y;cases e2:cF kvs y with
   |none=>rw[e2]at po;exact po.elim
   |some p2=>
    rw[e2]at hv po;cases e3:atKey xs y with
    |none=>rw[e3]at hv;exact hv.elim
    |some z=>
     rw[e3]at hv;let⟨v',ab,br⟩:=hv;refine call_meetsIn PySem.F.slot_dict_pop dd.typeIs PySem.F.entry_dict_pop (PySem.F.args_dict_pop_2 _ _) (BF (wA X.prog X.w) a b) ⟨c.room6,y,xs,z,Bp I c.K hk ry,dd,hz,e3,λh' dw hs=>?_⟩;let⟨aq,r1,r2⟩:=HD.drop r ba y;let⟨o,es,ep,hq,h2,h3,h4,_,h5⟩:=dw;have fw:aq.length<=Zq:=by
      have e1:=Z0 r1;have e4:=Z0 r;have e5:=Z0 ba;have e6:(A7 kvs y).length<=kvs.length:=by unfold A7;exact y1R _ _
      omega
     refine⟨v',upd H a (dDO C.w a aq),tE I mu hs ⟨o,hq⟩ ⟨⟨fw,hm,_,r2,o,es,ep,hq,h2,h3,?_,h5⟩,⟨o,hq⟩,?_⟩,ab,?_⟩
     ·rw[h4,<-c.w];rfl
     ·rintro g1 g2 ⟨z1,z2,ws,z3,o',es',c5,z4,z5⟩ keep;exact⟨z1,z2,ws,z3,o',es',c5,keep _ z4,z5⟩
     ·exact po φ v' _ Zm (Kp.upd nt) (rh.write ha nt ⟨aq,bX,RKd.mono Zm (Kp.upd nt) r1⟩) (br.mono Zm (Kp.upd nt))
  ·exact po.elim
 ·exact po.elim
def SR:MtG C k X "dict" qU "dict.pop" DJ:=λc=>⟨PC c,Bq c⟩
def N6{h:PH}{y:PV}(ht:bW h n=a_ kvs)(hk:y.isKt=true)(e:cF kvs y=a_ p):DJ (.ref n) [y] h=.ok p (h.set n (.dD (A7 kvs y))):=by unfold DJ;simp only[hk,if_true,ht,e]
end
end L2
namespace L2
structure ZA(z TI TO i1 i2:u_)(f1 f2:C_ u_):Prop where
 TIz:TI≠z
 TOz:TO≠z
 i1z:i1≠z
 i2z:i2≠z
 TITO:TI≠TO
 TIi1:TI≠i1
 TIi2:TI≠i2
 TOi1:TO≠i1
 TOi2:TO≠i2
 i12:i1≠i2
 a1:∀b∈f1,b≠z/\b≠TO/\b≠i2
 a2:∀b∈f2,b≠z/\b≠TO/\b≠i1
section
variable{prog:z_}{w:y_}{A:w_}{E:f_ 0}{s:t_}{z TI TO i1 i2:u_}{f1 f2:C_ u_}{n1 n2:Nat}{P1 P2:Nat->s_->Prop}{S1 S2:Nat->x_->Prop}
def PD(D1:Draws prog w A i1 f1 n1 P1 S1)(D2:Draws prog w A i2 f2 n2 P2 S2)(Z:ZA z TI TO i1 i2 f1 f2){Q:f_ 0}(hz:IsZip s.heap z TI TO .none)(bg:IsPair s.heap TI (.ref i1) (.ref i2))(bj:IsPair s.heap TO a b)(s1:S1 k s.heap)(s2:S2 k s.heap)(k1:k<n1)(k2:k<n2)(hQ:∀x y h' tk,P1 k x->P2 k y->IsZip h' z TI TO (rawInt (e_ s))->IsPair h' TO x y->S1 (k+1) h'->S2 (k+1) h'->IsPair h' (e_ s) x y->h'.objs.size=(e_ s)+1->
   (∀c o,c≠z->c≠TO->c≠i1->c≠i2->s.heap.get? c=a_ o->h'.get? c=a_ o)->Q (.ref (e_ s)) {s with heap:=h',toks:=tk}):
  m_ prog w A (Builtin.«zip.__next__» ⟨[.ref z],[]⟩) (λfin s'=>∃v,fin=.done (.ret v)/\Q v s') E s:=by
 show wpAny _ _ (field (.ref z) 2 >>= _) _ _ _
 refine Zb (y0V hz rfl (x:=.bool false) rfl ?_)
 show wpAny _ _ (field (.ref z) 3 >>= _) _ _ _
 refine Zb (y0V hz rfl (x:=.ref TI) rfl ?_);refine Zb (y1X bg rfl ?_)
 show wpAny _ _ (y0X (.ref z) >>= _) _ _ _
 refine Zb ?_;unfold y0X;refine Zb (y0V hz rfl (x:=.none) rfl (Zd ?_));simp only[if_true];refine Zb (y07 ?_);refine Zb (y0V hz rfl (x:=.ref TO) rfl ?_);refine Zb (y1S hz (by simp) λh₁ i5 sj=>?_)
 replace i5:IsZip h₁ z TI TO .ellipsis:=i5
 have e1:=sj.extBut;have q0:S1 k h₁:=D1.frame _ _ _ s1 λb hb o e=>e1 b o (Z.a1 b hb).1 e;have uc:S2 k h₁:=D2.frame _ _ _ s2 λb hb o e=>e1 b o (Z.a2 b hb).1 e;refine Zb ?_;simp only[List.zipIdx_cons,List.zipIdx_nil,List.forIn_cons,List.forIn_nil];refine Zb (Zb (wpAny_onRaise ?_))
 show wpAny _ _ (y1Y (.ref i1) >>= _) _ _ _
 refine Zb (D1.item k _ _ _ k1 q0 λx h₂ t2 px z6 ji=>Zd ?_);have e2:=ji.extBut;have vq:S2 k h₂:=D2.frame _ _ _ uc λb hb o e=>e2 b o (Z.a2 b hb).2.2 e;have d7:IsPair h₂ TO a b:=e2 _ _ Z.TOi1 (e1 _ _ Z.TOz bj);refine Zb (y1X d7 rfl ?_);refine Zb (wpAny_updateSeq_pair d7 λh₃ g9 jj=>?_)
 replace g9:IsPair h₃ TO x b:=g9
 have e3:=jj.extBut;have XF:S1 (k+1) h₃:=D1.frame _ _ _ z6 λb hb o e=>e3 b o (Z.a1 b hb).2.1 e;have xl:S2 k h₃:=D2.frame _ _ _ vq λb hb o e=>e3 b o (Z.a2 b hb).2.1 e;refine Zb (wpAny_letGo (Zd ?_));refine Zb (Zb (wpAny_onRaise ?_))
 show wpAny _ _ (y1Y (.ref i2) >>= _) _ _ _
 refine Zb (D2.item k _ _ _ k2 xl λy h₄ t4 py Yq n0=>Zd ?_);have e4:=n0.extBut;have Ym:S1 (k+1) h₄:=D1.frame _ _ _ XF λb hb o e=>e4 b o (Z.a1 b hb).2.2 e;have mf:IsPair h₄ TO x b:=e4 _ _ Z.TOi2 g9;refine Zb (y1X mf rfl ?_);refine Zb (wpAny_updateSeq_pair mf λh₅ gu ql=>?_)
 replace gu:IsPair h₅ TO x y:=gu
 have e5:=ql.extBut;refine Zb (wpAny_letGo (Zd (Zd ?_)));refine Zb (y1X gu rfl ?_);refine Zb (wpAny_newTuple ?_);have hsz:h₅.objs.size=(e_ s):=by have q4:=n0.1;have q3:=jj.1;have q2:=ji.1;have q1:=sj.1;rw[ql.1];exact q4.trans (q3.trans (q2.trans q1))
 have yc:IsZip h₅ z TI TO .ellipsis:=e5 _ _ Z.TOz.symm (e4 _ _ Z.i2z.symm (e3 _ _ Z.TOz.symm (e2 _ _ Z.i1z.symm i5)));have Yd:∀c o,c≠z->c≠TO->c≠i1->c≠i2->s.heap.get? c=a_ o->h₅.get? c=a_ o:=λc o c1 c2 c3 c4 e=>e5 _ _ c2 (e4 _ _ c4 (e3 _ _ c2 (e2 _ _ c3 (e1 _ _ c1 e))));have s1e:S1 (k+1) h₅:=D1.frame _ _ _ Ym λb hb o e=>e5 b o (Z.a1 b hb).2.1 e;have XO:S2 (k+1) h₅:=D2.frame _ _ _ Yq λb hb o e=>e5 b o (Z.a2 b hb).2.1 e;have my:z<h₅.objs.size:=Zl yc
 show wpAny _ _ (y2S (.ref z) (.ref h₅.objs.size) >>= _) _ _ _
 refine Zb ?_;unfold y2S;have hz₆:IsZip (h₅.push {cls:=.type "tuple",data:=.seq #[x,y]}) z TI TO .ellipsis:=Ze _ yc;refine Zb (y1S hz₆ (by simp) λh₇ tj wb=>?_)
 replace tj:IsZip h₇ z TI TO (rawInt h₅.objs.size):=tj
 refine y1S tj (by simp) λh₈ sy ui=>?_
 replace sy:IsZip h₈ z TI TO (rawInt h₅.objs.size):=sy
 have up:∀c o,c≠z->h₅.get? c=a_ o->h₈.get? c=a_ o:=λc o c1 e=>ui.extBut _ _ c1 (wb.extBut _ _ c1 (Ze _ e));have ze:IsPair h₈ h₅.objs.size x y:=ui.extBut _ _ (y0a my) (wb.extBut _ _ (y0a my) (Zj _ rfl));have z7:h₈.objs.size=h₅.objs.size+1:=by rw[ui.1,wb.1,y0m]
 rw[hsz]at sy ze z7;refine Zd ⟨_,rfl,?_⟩
 show Q (.ref h₅.objs.size) _
 rw[hsz];exact hQ x y h₈ _ px py sy (up _ _ Z.TOz gu) (D1.frame _ _ _ s1e λb hb o e=>up b o (Z.a1 b hb).1 e) (D2.frame _ _ _ XO λb hb o e=>up b o (Z.a2 b hb).1 e) ze z7 λc o c1 c2 c3 c4 e=>up c o c1 (Yd c o c1 c2 c3 c4 e)
def SS(D1:Draws prog w A i1 f1 n1 P1 S1)(D2:Draws prog w A i2 f2 n2 P2 S2)(Z:ZA z TI TO i1 i2 f1 f2){Q:PySem.Fin->t_->Prop}(hz:IsZip s.heap z TI TO .none)(bg:IsPair s.heap TI (.ref i1) (.ref i2))(bj:IsPair s.heap TO a b)(s1:S1 k s.heap)(s2:S2 k s.heap)(hk:k=n1\/k<n1/\k=n2)(hE:∀h' e tk,(∀c o,c≠z->c≠TO->c≠i1->c≠i2->s.heap.get? c=a_ o->h'.get? c=a_ o)->(∃o,h'.get? e=a_ o/\o.cls=.type "StopIteration")->E (.ref e) {s with heap:=h',toks:=tk}):
  m_ prog w A (Builtin.«zip.__next__» ⟨[.ref z],[]⟩) Q E s:=by
 show wpAny _ _ (field (.ref z) 2 >>= _) _ _ _
 refine Zb (y0V hz rfl (x:=.bool false) rfl ?_)
 show wpAny _ _ (field (.ref z) 3 >>= _) _ _ _
 refine Zb (y0V hz rfl (x:=.ref TI) rfl ?_);refine Zb (y1X bg rfl ?_)
 show wpAny _ _ (y0X (.ref z) >>= _) _ _ _
 refine Zb ?_;unfold y0X;refine Zb (y0V hz rfl (x:=.none) rfl (Zd ?_));simp only[if_true];refine Zb (y07 ?_);refine Zb (y0V hz rfl (x:=.ref TO) rfl ?_);refine Zb (y1S hz (by simp) λh₁ i5 sj=>?_)
 replace i5:IsZip h₁ z TI TO .ellipsis:=i5
 have e1:=sj.extBut;have q0:S1 k h₁:=D1.frame _ _ _ s1 λb hb o e=>e1 b o (Z.a1 b hb).1 e;have uc:S2 k h₁:=D2.frame _ _ _ s2 λb hb o e=>e1 b o (Z.a2 b hb).1 e;refine Zb ?_;simp only[List.zipIdx_cons,List.zipIdx_nil,List.forIn_cons,List.forIn_nil];refine Zb (Zb (wpAny_onRaise ?_))
 show wpAny _ _ (y1Y (.ref i1) >>= _) _ _ _
 rcases hk with rfl|⟨k1,rfl⟩
 ·refine Zb (D1.done _ _ _ q0 λh₂ e ji he=>?_);let⟨oe,j8,pf⟩:=he;have zz:IsZip h₂ z TI TO .ellipsis:=ji _ _ Z.i1z.symm i5;have uh:e≠z:=λx=>by subst x;rw[zz]at j8;cases j8;simp at pf
  exact y1S zz (by simp) λh₃ _ jj=>hE h₃ e _ (λc o c1 _ c3 _ x=>jj.extBut _ _ c1 (ji _ _ c3 (e1 _ _ c1 x))) ⟨oe,jj.extBut _ _ uh j8,pf⟩
 ·refine Zb (D1.item k _ _ _ k1 q0 λx h₂ t2 px z6 ji=>Zd ?_);have e2:=ji.extBut;have vq:S2 k h₂:=D2.frame _ _ _ uc λb hb o e=>e2 b o (Z.a2 b hb).2.2 e;have d7:IsPair h₂ TO a b:=e2 _ _ Z.TOi1 (e1 _ _ Z.TOz bj);refine Zb (y1X d7 rfl ?_);refine Zb (wpAny_updateSeq_pair d7 λh₃ g9 jj=>?_);have e3:=jj.extBut;have xl:S2 k h₃:=D2.frame _ _ _ vq λb hb o e=>e3 b o (Z.a2 b hb).2.1 e;refine Zb (wpAny_letGo (Zd ?_));refine Zb (Zb (wpAny_onRaise ?_))
  show wpAny _ _ (y1Y (.ref i2) >>= _) _ _ _
  refine Zb (D2.done _ _ _ xl λh₄ e n0 he=>?_);let⟨oe,j8,pf⟩:=he;have Xx:IsZip h₄ z TI TO .ellipsis:=n0 _ _ Z.i2z.symm (e3 _ _ Z.TOz.symm (e2 _ _ Z.i1z.symm i5));have uh:e≠z:=λx=>by subst x;rw[Xx]at j8;cases j8;simp at pf
  exact y1S Xx (by simp) λh₅ _ ql=>hE h₅ e _ (λc o c1 c2 c3 c4 x=>ql.extBut _ _ c1 (n0 _ _ c4 (e3 _ _ c2 (e2 _ _ c3 (e1 _ _ c1 x))))) ⟨oe,ql.extBut _ _ uh j8,pf⟩
end
section
variable{prog:z_}{w:y_}{A:w_}{E:f_ 0}{s:t_}{z TI TO i1 i2:u_}{f1 f2:C_ u_}{n1 n2:Nat}{P1 P2:Nat->s_->Prop}{S1 S2:Nat->x_->Prop}
def N7(hh:A.handled=b_)(D1:∀A:w_,A.handled=b_->Draws prog w A i1 f1 n1 P1 S1)(D2:∀A:w_,A.handled=b_->Draws prog w A i2 f2 n2 P2 S2)(Z:ZA z TI TO i1 i2 f1 f2){Q:D_ s_->t_->Prop}(hz:IsZip s.heap z TI TO .none)(bg:IsPair s.heap TI (.ref i1) (.ref i2))(bj:IsPair s.heap TO a b)(s1:S1 k s.heap)(s2:S2 k s.heap)(k1:k<n1)(k2:k<n2)(hQ:∀x y h' tk,P1 k x->P2 k y->IsZip h' z TI TO (rawInt (e_ s))->IsPair h' TO x y->S1 (k+1) h'->S2 (k+1) h'->IsPair h' (e_ s) x y->h'.objs.size=(e_ s)+1->
   (∀c o,c≠z->c≠TO->c≠i1->c≠i2->s.heap.get? c=a_ o->h'.get? c=a_ o)->Q (c_ (e_ s)) {s with heap:=h',toks:=tk}):
  m_ prog w A (pyNext (.ref z)) Q E s:=by
 have hT:s.TypeIs (.ref z) "zip" := ⟨_,hz,rfl⟩;unfold pyNext;exact Zb (y1f (ZR (name:=y0i "__next__") hT y2G
  (Z1 y2G hT PySem.F.entry_zip_next
   (PD (D1 A.in1 hh) (D2 A.in1 hh) Z hz bg bj s1 s2 k1 k2 λx y h' tk a1 a2 a3 a4 a5 a6 a7 a8 a9=>Zd (hQ x y h' tk a1 a2 a3 a4 a5 a6 a7 a8 a9)) (PySem.F.args_zip_next_1 _))))
def Gd(hh:A.handled=b_)(D1:∀A:w_,A.handled=b_->Draws prog w A i1 f1 n1 P1 S1)(D2:∀A:w_,A.handled=b_->Draws prog w A i2 f2 n2 P2 S2)(Z:ZA z TI TO i1 i2 f1 f2){Q:D_ s_->t_->Prop}(hz:IsZip s.heap z TI TO .none)(bg:IsPair s.heap TI (.ref i1) (.ref i2))(bj:IsPair s.heap TO a b)(s1:S1 k s.heap)(s2:S2 k s.heap)(hk:k=n1\/k<n1/\k=n2)(hQ:∀h' tk,(∀c o,c≠z->c≠TO->c≠i1->c≠i2->s.heap.get? c=a_ o->h'.get? c=a_ o)->Q b_ {s with heap:=h',toks:=tk}):m_ prog w A (pyNext (.ref z)) Q E s:=by
 have hT:s.TypeIs (.ref z) "zip" := ⟨_,hz,rfl⟩;unfold pyNext;refine Zb (y1f (ZR (name:=y0i "__next__") hT y2G
  (Z1 y2G hT PySem.F.entry_zip_next (SS (D1 A.in1 hh) (D2 A.in1 hh) Z hz bg bj s1 s2 hk λh' e tk hk he=>?_) (PySem.F.args_zip_next_1 _))))
 let⟨o,ho,hc⟩:=he;refine Zb (y0T (T:="StopIteration") (b:=true) ⟨o,ho,hc⟩ isSubtype_stop ?_);exact Zd (hQ _ _ hk)
def N8(hh:A.handled=b_)(it l:u_)(items:Array s_)(i:Nat)(h:items[i]?=b_):Draws prog w A it [it,l] i (λ_ _=>False) (λj g=>j=i/\g.IsListIter it l i/\g.IsList l items) where
 live:=λ_ _ st=>let ⟨o,ho,_⟩:=st.2.1;⟨o,ho⟩
 frame:=λ_ _ _ st hk=>⟨st.1,st.2.1.at λo e=>hk it (by simp) o e,st.2.2.at λo e=>hk l (by simp) o e⟩
 item:=λj s Q E hj st hQ=>absurd hj (by rw[st.1];exact y0A _)
 done:=λs Q E st hE=>wpAny_nextOf_list_end hh st.2.1 st.2.2 h hE
def PF(hh:A.handled=b_)(it:u_)(x:Str)(t:Tok)(i:Nat)(h:x.cps[i]?=b_):Draws prog w A it [it] i (λ_ _=>False) (λj g=>j=i/\g.IsStrIter it "str_ascii_iterator" x t i) where
 live:=λ_ _ st=>let ⟨o,ho,_⟩:=st.2;⟨o,ho⟩
 frame:=λ_ _ _ st hk=>⟨st.1,let ⟨o,e,r⟩:=st.2;⟨o,hk it (by simp) o e,r⟩⟩
 item:=λj s Q E hj st hQ=>absurd hj (by rw[st.1];exact y0A _)
 done:=λs Q E st hE=>wpAny_nextOf_ascii_end hh st.2 h hE
end
abbrev PJ(h:x_)(l1:u_):x_:=h.push {cls:=.type "list_iterator",data:=.fields #[.ref l1,.int 0 0]}
abbrev PK(h:x_)(l1:u_)(x:Str)(t:Tok):x_:=(PJ h l1).push {cls:=.type "str_ascii_iterator",data:=.fields #[.str x t,.int 0 0]}
abbrev PL(h:x_)(l1:u_)(x:Str)(t:Tok):x_:=(PK h l1 x t).push {cls:=.type "tuple",data:=.seq #[.ref h.objs.size,.ref (PJ h l1).objs.size]}
abbrev PM(h:x_)(l1:u_)(x:Str)(t:Tok):x_:=(PL h l1 x t).push {cls:=.type "tuple",data:=.seq #[.none,.none]}
abbrev Ic(h:x_)(l1:u_)(x:Str)(t:Tok):x_:=(PM h l1 x t).push {cls:=.type "zip",data:=.fields #[.none,.bool false,.bool false,.ref (PK h l1 x t).objs.size,.ref (PL h l1 x t).objs.size]}
set_option maxHeartbeats 4000000 in
theorem Ge(l1:u_)(xs:Array s_)(x:Str)(t:Tok)(ha:x.cps.all (· < 128)=true):
  Meets (Builtin.«zip.__new__» ⟨[.type "zip",.ref l1,.str x t],[]⟩) (λ_ R s=>s.heap.IsList l1 xs/\R (.ok (.ret (.ref (PM s.heap l1 x t).objs.size))) {s with heap:=Ic s.heap l1 x t}):=
 .of_wp λprog w A R s h=>by
  let⟨hp,g,d,tk,os⟩:=s;let⟨rj,h⟩:=h;have fo:=sub_zip;have Y':Heap.IsList (Shared.heap ⟨hp,g,d,tk,os⟩) l1 xs:=rj
  wp_walk using y16 Y',wpAny_pyIter_ascii ha
  exact⟨_,rfl,h⟩
section
variable{prog:z_}{w:y_}{A:w_}{E:f_ 0}{s:t_}
def PN{x:Str}{Q:f_ 0}(rj:s.heap.IsList l1 xs)(ha:x.cps.all (· < 128)=true)(h:∀h',IsZip h' (s.heap.objs.size+4) (s.heap.objs.size+2) (s.heap.objs.size+3) .none->IsPair h' (s.heap.objs.size+2) (.ref (e_ s)) (.ref (s.heap.objs.size+1))->
   IsPair h' (s.heap.objs.size+3) .none .none->h'.IsListIter (e_ s) l1 0->h'.IsStrIter (s.heap.objs.size+1) "str_ascii_iterator" x t 0->h'.objs.size=(e_ s)+5->
   (∀c o,s.heap.get? c=a_ o->h'.get? c=a_ o)->Q (.ref (s.heap.objs.size+4)) {s with heap:=h'}):
  m_ prog w A (call (.type "zip") [.ref l1,.str x t]) Q E s:=by
 refine callType_new PySem.F.called_zip nofun (PySem.F.typeCall_zip_2 _ _) (PySem.F.newCall_zip_2 _ _) (λobj=>PySem.F.args_object_init_3 obj _ _) PySem.F.entry_zip_new
  (Ge l1 xs x t ha) ⟨rj,?_⟩
 have z1:(PJ s.heap l1).objs.size=(e_ s)+1:=y0m ..;have z2:(PK s.heap l1 x t).objs.size=(e_ s)+2:=by rw[y0m,z1]
 have z3:(PL s.heap l1 x t).objs.size=(e_ s)+3:=by rw[y0m,z2]
 have z4:(PM s.heap l1 x t).objs.size=(e_ s)+4:=by rw[y0m,z3]
 have z5:(Ic s.heap l1 x t).objs.size=(e_ s)+5:=by rw[y0m,z4]
 have g5:(Ic s.heap l1 x t).get? (PM s.heap l1 x t).objs.size=a_ _:=Zj _ rfl;have g4:(Ic s.heap l1 x t).get? (PL s.heap l1 x t).objs.size=a_ _:=Ze _ (Zj _ rfl);have g3:(Ic s.heap l1 x t).get? (PK s.heap l1 x t).objs.size=a_ _:=Ze _ (Ze _ (Zj _ rfl));have g2:(Ic s.heap l1 x t).get? (PJ s.heap l1).objs.size=a_ _:=Ze _ (Ze _ (Ze _ (Zj _ rfl)));have g1:(Ic s.heap l1 x t).get? (e_ s)=a_ _:=Ze _ (Ze _ (Ze _ (Ze _ (Zj _ rfl))))
 show _/\_
 rw[z2,z3,z4]at g5;rw[z1,z2]at g3;rw[z3]at g4;rw[z1]at g2;rw[z4];exact⟨⟨_,g5,rfl⟩,h _ g5 g3 g4 ⟨_,g1,rfl,rfl⟩ ⟨_,g2,rfl,rfl⟩ z5 λc o e=>Ze _ (Ze _ (Ze _ (Ze _ (Ze _ e))))⟩
end
def ItZ(K:Zf)(l:u_)(x:Str):It:=
 ⟨λi H=>(∃vs v,SqL K H l vs/\vs[i]?=a_ v)/\i<x.cps.size,
  λi H y H'=>∃t v c,H t=b_/\(∀vs,SqL K H l vs->vs[i]?=a_ v)/\x.cps[i]?=a_ c/\y=.ref t/\H'=upd H t (.tup [v,.str ⟨#[c]⟩]),
  λi H=>∃vs,SqL K H l vs/\(vs.length<=i\/x.cps.size<=i)⟩
def fX{h:x_}{o p:Obj}(ha:h.get? a=a_ o)(hb:h.get? b=a_ p)(ca:o.cls=.type m)(cb:p.cls=.type n)(hn:m≠n):a≠b:=λe=>by
 subst e;rw[ha]at hb;cases hb
 rw[ca]at cb;cases cb
 exact hn rfl
def DK{h:x_}{z TI TO i1 i2 l:u_}{a b:s_}{x:Str}{t:Tok}{i:Nat}{xs:Array s_}(qg:TI≠TO)(hz:IsZip h z TI TO .none)(bg:IsPair h TI (.ref i1) (.ref i2))(bj:IsPair h TO a b)(h1:h.IsListIter i1 l i)(h2:h.IsStrIter i2 "str_ascii_iterator" x t i)(hl:h.IsList l xs):
  ZA z TI TO i1 i2 [i1,l] [i2]/\l≠i1:=by
 let⟨ol,el,cl,_⟩:=hl;let⟨o1,e1,c1,d1⟩:=h1;let⟨o2,e2,c2,d2⟩:=h2;have zx:i1≠z:=fX e1 hz c1 rfl nofun;have Io:i2≠z:=fX e2 hz c2 rfl nofun;have z9:TO≠i1:=fX bj e1 rfl c1 nofun;have Xs:TO≠i2:=fX bj e2 rfl c2 nofun;have u3:i1≠i2:=fX e1 e2 c1 c2 nofun;have lz:l≠z:=fX el hz cl rfl nofun;have lO:l≠TO:=fX el bj cl rfl nofun;have l2:l≠i2:=fX el e2 cl c2 nofun;refine⟨⟨fX bg hz rfl rfl nofun,fX bj hz rfl rfl nofun,zx,Io,qg,fX bg e1 rfl c1 nofun,fX bg e2 rfl c2 nofun,z9,Xs,u3,λb hb=>?_,λb hb=>?_⟩,fX el e1 cl c1 nofun⟩
 ·simp only[Zs,y0w,or_false]at hb;rcases hb with rfl|rfl
  ·exact⟨zx,z9.symm,u3⟩
  ·exact⟨lz,lO,l2⟩
 ·simp only[Zs,y0w,or_false]at hb;subst hb;exact⟨Io,Xs.symm,u3.symm⟩
def N9{P:z_}{w:y_}{K:Zf}{elts:C_ A_}{x1:Nat}{pos:Pos}(l:u_)(x:Str)(t:Tok)(z TI TO i1 i2:u_)(qg:TI≠TO):
  Turn P w K (.Tuple elts x1 pos) (ItZ K l x) [z,TI,TO,i1,i2] z (λi h=>IsZip h z TI TO .none/\IsPair h TI (.ref i1) (.ref i2)/\(∃a b,IsPair h TO a b)/\h.IsListIter i1 l i/\h.IsStrIter i2 "str_ascii_iterator" x t i) where
 mem:=by simp
 obj:=λi h ⟨hz,bg,⟨a,b,bj⟩,⟨o1,e1,_,d1⟩,⟨o2,e2,_,d2⟩⟩ b hb=>by
  simp only[Zs,y0w,or_false]at hb;rcases hb with rfl|rfl|rfl|rfl|rfl
  ·exact⟨_,hz,λv q=>by cases q⟩
  ·exact⟨_,bg,λv q=>by cases q⟩
  ·exact⟨_,bj,λv q=>by cases q⟩
  ·exact⟨_,e1,λv q=>by rw[d1]at q;cases q⟩
  ·exact⟨_,e2,λv q=>by rw[d2]at q;cases q⟩
 keep:=λi h h' ⟨hz,bg,⟨a,b,bj⟩,h1,⟨o2,e2,r2⟩⟩ k=>⟨k z (by simp) _ hz,k TI (by simp) _ bg,⟨a,b,k TO (by simp) _ bj⟩,h1.at λo e=>k i1 (by simp) o e,⟨o2,k i2 (by simp) _ e2,r2⟩⟩
 item:=by
  intro X hP hw hK hc i FR s σ H E I hf ⟨hz,bg,⟨a,b,bj⟩,h1,h2⟩ ⟨⟨vs,v,hq,hv⟩,hx⟩;subst hP hw hK;let⟨its,rv,p,hsz⟩:=I.list hq;let⟨u,hu,ru⟩:=rv.get hv;have hl:=p.isList;let⟨ol,el,cl,_⟩:=id hl;let⟨o1,e1,c1,d1⟩:=id h1;let⟨o2,e2,c2,d2⟩:=id h2;have hi:i<its.length:=(Zc.mp hu).1;let⟨Z,l1⟩:=DK qg hz bg bj h1 h2 hl;refine N7 (I.ok.hd hc) (λA hA=>Draws.list hA i1 l l1 its.toArray) (λA hA=>Draws.strAscii hA i2 x t) Z hz bg bj ⟨h1,hl⟩ h2 (l_ hi) hx λxx yy h' tk px py a1 a2 a3 a4 a5 a6 kp=>⟨_,rfl,?_⟩;let⟨cc,tu,Y5,rfl⟩:=py;have YM:xx=u:=by
   have:its[i]?=a_ xx:=by simpa using px
   rw[hu]at this;cases this;rfl
  subst YM;refine wpAny_letOwnedTupleGo_zip (s:={s with heap:=h',toks:=tk}) a1 λd5 hI same=>?_;have fr:H (e_ s)=b_:=I.hok.fresh (Zi _);have nt:∀{b:u_}{o:Obj},s.heap.get? b=a_ o->(e_ s)≠b:=λe=>y0a (Zl e);have sb:∀(b:u_)(o:Obj),b≠z->h'.get? b=a_ o->d5.get? b=a_ o:=λb o hb e=>(same.2 b hb).trans e;have vo:=sb _ _ (nt hz) a5;have bq:∀(b:u_)(o:Obj),b∉[z,TO,i1,i2]->s.heap.get? b=a_ o->d5.get? b=a_ o:=λb o hb e=>sb b o (λq=>hb (by simp[q])) (kp b o (λq=>hb (by simp[q])) (λq=>hb (by simp[q])) (λq=>hb (by simp[q])) (λq=>hb (by simp[q])) e);have sub:∀b,b∈[z,TO,i1,i2]->b∈[z,TI,TO,i1,i2]:=λb hb=>by simp only[Zs,y0w,or_false]at hb⊢;rcases hb with q|q|q|q <;> simp[q]
  have dt:∀b u,H b=a_ u->b∉[z,TO,i1,i2]:=λb u e q=>by have:=(hf b (sub b q)).1;rw[this]at e;cases e
  have fq:∀b u,H b=a_ u->b≠(e_ s):=λb u e q=>by rw[q,fr]at e;cases e
  refine⟨.ref (e_ s),upd H (e_ s) (.tup [v,.str ⟨#[cc]⟩]),?_,rfl,⟨_,v,cc,fr,λys hy=>by rw[I.list_inj hy hq];exact hv,Y5,rfl,rfl⟩,⟨hI,sb _ _ Z.TIz (kp _ _ Z.TIz qg Z.TIi1 Z.TIi2 bg),⟨_,_,sb _ _ Z.TOz a2⟩,a3.1.at λo e=>sb _ _ Z.i1z e,?_⟩,λb hb=>?_⟩
  ·refine Inv.step (s:=s) (h':=d5) (H:=H) (g':=s.gens) (d':=s.drawn) (t':=tk) (ch:=[z,TO,i1,i2]) I (λb hb=>?_) (λb o _ _ hc e _=>bq b o hc e) (λb o _ _ hc e _=>⟨o.slots,bq b o hc e⟩) (λb o hc e n=>?_)
    (λb o hc e=>⟨o,bq b o hc e⟩) (λb xs e=>by rw[bE (fq _ _ e)];exact e) (λb o u e=>by rw[bE (fq _ _ e)];exact e) (λb ps e=>⟨#[],by rw[bE (fq _ _ e),e];simp⟩) (λm hm=>?_) (λb u e=>?_) I.bare
   ·let⟨f0,f1,f2,f3,f4,f5⟩:=hf b (sub b hb);exact⟨f3,f1,f4,f5⟩
   ·rw[bE (Zt (Zl e))];exact n
   ·let⟨o,es,ep,ho,r⟩:=hm;exact⟨o,es,ep,bq _ o (λq=>(hf _ (sub _ q)).2.1 rfl) ho,r⟩
   ·by_cases hb:b=(e_ s)
    ·subst hb;rw[bX]at e;cases e
     exact⟨by show 2<=Zq;rw[lI];decide,[xx,.str ⟨#[cc]⟩ tu],.cons ru (.cons ⟨_,rfl⟩ .nil),_,vo,rfl,⟨_,rfl⟩,rfl⟩
    ·rw[bE hb]at e;refine(I.hok b u e).stay (λc v hc q=>bq c v ?_ q) (λc q=>by rw[bE (fq _ _ q)];exact q) λc xs q=>by rw[bE (fq _ _ q)];exact q
     rcases hc with q|q
     ·rw[q];exact dt b u e
     ·exact dt c _ q
  ·let⟨o,e,r⟩:=a4;exact⟨o,sb _ _ Z.i2z e,r⟩
  ·have hb':=(hf b hb).1;have:b≠(e_ s):=by
    simp only[Zs,y0w,or_false]at hb;rcases hb with rfl|rfl|rfl|rfl|rfl
    ·exact(nt hz).symm
    ·exact(nt bg).symm
    ·exact(nt bj).symm
    ·exact(nt e1).symm
    ·exact(nt e2).symm
   rw[bE this];exact hb'
 done:=by
  intro X hP hw hK hc i FR s σ H E I hf ⟨hz,bg,⟨a,b,bj⟩,h1,h2⟩ ⟨vs,hq,hd⟩;subst hP hw hK;let⟨its,rv,p,hsz⟩:=I.list hq;have hlen:=rv.length;have hl:=p.isList;let⟨ol,el,cl,_⟩:=id hl;let⟨o1,e1,c1,d1⟩:=id h1;let⟨o2,e2,c2,d2⟩:=id h2;let⟨Z,l1⟩:=DK qg hz bg bj h1 h2 hl;have sub:∀b,b∈[z,TO,i1,i2]->b∈[z,TI,TO,i1,i2]:=λb hb=>by simp only[Zs,y0w,or_false]at hb⊢;rcases hb with q|q|q|q <;> simp[q]
  have dt:∀b u,H b=a_ u->b∉[z,TO,i1,i2]:=λb u e q=>by have:=(hf b (sub b q)).1;rw[this]at e;cases e
  have fin:∀(h':x_)(tk:Nat),(∀c o,c≠z->c≠TO->c≠i1->c≠i2->s.heap.get? c=a_ o->h'.get? c=a_ o)->Inv X FR σ H {s with heap:=h',toks:=tk}:=λh' tk kp=>by
   have bq:∀(b:u_)(o:Obj),b∉[z,TO,i1,i2]->s.heap.get? b=a_ o->h'.get? b=a_ o:=λb o hb e=>kp b o (λq=>hb (by simp[q])) (λq=>hb (by simp[q])) (λq=>hb (by simp[q])) (λq=>hb (by simp[q])) e;refine Inv.step (s:=s) (h':=h') (H:=H) (g':=s.gens) (d':=s.drawn) (t':=tk) (ch:=[z,TO,i1,i2]) I (λb hb=>?_) (λb o _ _ hc e _=>bq b o hc e) (λb o _ _ hc e _=>⟨o.slots,bq b o hc e⟩) (λb o hc e n=>n)
    (λb o hc e=>⟨o,bq b o hc e⟩) (λb xs e=>e) (λb o u e=>e) (λb ps e=>⟨#[],by rw[e];simp⟩) (λm hm=>?_) (λb u e=>?_) I.bare
   ·let⟨f0,f1,f2,f3,f4,f5⟩:=hf b (sub b hb);exact⟨f3,f1,f4,f5⟩
   ·let⟨o,es,ep,ho,r⟩:=hm;exact⟨o,es,ep,bq _ o (λq=>(hf _ (sub _ q)).2.1 rfl) ho,r⟩
   ·refine(I.hok b u e).stay (λc v hc q=>bq c v ?_ q) (λ_ q=>q) λ_ _ q=>q;rcases hc with q|q
    ·rw[q];exact dt b u e
    ·exact dt c _ q
  by_cases hi:i<its.length
  ·have hx:x.cps.size<=i:=by rcases hd with q|q;omega;exact q
   exact Gd (I.ok.hd hc) (λA hA=>Draws.list hA i1 l l1 its.toArray) (λA hA=>PF hA i2 x t i (y0d hx)) Z hz bg bj ⟨h1,hl⟩ ⟨rfl,h2⟩ (.inr ⟨l_ hi,rfl⟩) λh' tk kp=>⟨rfl,fin h' tk kp⟩
  ·exact Gd (I.ok.hd hc) (λA hA=>N8 hA i1 l its.toArray i (by simp;omega)) (λA hA=>Draws.strAscii hA i2 x t) Z hz bg bj ⟨rfl,h1,hl⟩ h2 (.inl rfl) λh' tk kp=>⟨rfl,fin h' tk kp⟩
 self:=λ_ _ _ _ _ ⟨hz,_⟩ h=>wpAny_pyIter_zip hz h
def boot_zip:y1t "zip" = a_ (.type "zip"):=by first|rfl|decide +kernel|kernel_rfl
section
variable{C:MC}{k:Nat}{X:Cx}
def WV(X:Cx)(ta:TA):TI:=λσ H R=>ta σ H λvs H1=>∃l xs x,vs=[.ref l,.str x]/\SqL X.K H1 l xs/\(x.cps.all λc=>decide (c<128))=true/\R (ItZ X.K l x) H1
def SU{a b:A_}{ta:TA}{p pos:Pos}{elts:C_ A_}{x1:Nat}{tp:Pos}(hg:Gl X "zip")(hm:X.mg "zip" = b_)(ha:PA X [a,b] ta)(hs:Zx [a,b] X.env=[(false,eval a X.env),(false,eval b X.env)]:=by rfl)(bz:Zx [b] X.env=[(false,eval b X.env)]:=by rfl):
  PI X (.Tuple elts x1 tp) (.Call (.Name "zip" p) [a,b] [] pos) (WV X ta):=by
 intro FR s σ H R I h;refine Call_ (rG I hg hm boot_zip (y04 (thn (ha pos FR s σ H _ I h) λus s1 hz=>?_) (by rw[hs,bz]) (by rw[bz];rfl)));let⟨vs,H1,I1,r1,q1⟩:=hz;let⟨l,xs,x,e,hq,asc,q⟩:=q1;subst e;cases r1 with
 |cons r rr=>
  cases rr with
  |cons r' rr=>
   cases rr
   cases r
   let⟨t,rfl⟩:=r';let⟨its,rv,pl,hz⟩:=I1.list hq;refine PN pl.isList asc λh' a1 a2 a3 a4 a5 a6 kp=>?_;refine wpAny_pyIter_zip a1 ?_;refine⟨(e_ s1)+4,[(e_ s1)+4,(e_ s1)+2,(e_ s1)+3,(e_ s1),(e_ s1)+1],_,_,H1,rfl,I1.kept (t':=s1.toks) kp,N9 l x t _ _ _ _ _ (Zt (y2g (s1.heap.objs.size+2))),⟨a1,a2,⟨_,_,a3⟩,a4,a5⟩,λb hb=>?_,q⟩;have hle:(e_ s1)<=b:=by
    simp only[Zs,y0w,or_false]at hb;rcases hb with e|e|e|e|e
    all_goals rw[e]
    all_goals first|exact Zi _|exact Nat.le_add_right _ _
   exact I1.fpOk hle (I1.hok.fresh hle)
def Ar(xs:C_ PV)(x:Str):C_ PV:=List.zipWith (λp c=>PV.tup [p,.str ⟨#[c]⟩]) xs x.cps.toList
def SV:C_ PV->PH->Rs Wk:=λps h=>match ps with
 | [.ref n,.str x]=>if (x.cps.all fun c=>decide (c < 128))=true then (match bO h n with
   |some xs=>.ok ⟨Ar xs x,uM n xs⟩ h
   |none=>.bad) else .bad
 |_=>.bad
def PP(ms:Ma):Mi:=λδ h=>(ms δ h).bind SV
def N'(xs:C_ PV)(x:Str):(Ar xs x).length=min xs.length x.cps.size:=by simp[Ar]
def Vi{x y:A_}{ms:Ma}{elts:C_ A_}{x1:Nat}{tp p pos:Pos}(ha:SA C k X [x,y] ms)(hb:("zip" : Str)∈C.bs:=by decide)(hg:Gl X "zip" := by rfl)(hs:Zx [x,y] X.env=[(false,eval x X.env),(false,eval y X.env)]:=by rfl)(bz:Zx [y] X.env=[(false,eval y X.env)]:=by rfl):
  SI C k X (.Tuple elts x1 tp) (.Call (.Name "zip" p) [x,y] [] pos) (PP ms):=λc=>
 (SU hg (c.bn _ hb) (ha c) hs bz).imp λσ H R h=>by
  let⟨φ,δ,h,rh,re,p⟩:=h;refine⟨φ,δ,h,rh,re,(postA.bindI p).imp ?_⟩;rintro vs H1 ⟨φ1,xs,h1,p1,t1,aa,ab,q1⟩;unfold SV at q1;split at q1
  ·rename_i n x;let⟨v,w,rfl,rx,ry⟩:=ab.two;let⟨a,rfl,ha'⟩:=rx;cases ry
   split at q1
   ·rename_i asc;cases e:bO h1 n with
    |none=>rw[e]at q1;exact q1.elim
    |some xs=>
     rw[e]at q1;let⟨a2,us,ai,sa,ra⟩:=dB aa e;rw[ha']at ai;cases ai;rw[<-c.K]at sa;refine⟨a,us,x,rfl,sa,asc,q1 φ1 H1 (ItZ X.K a x) Zm (Kp.refl H1) aa λφ2 H2 h2 p2 t2 aj hg i=>?_⟩;have hg:(match bO h2 n with|some ys=>PV.beqs ys xs|none=>false)=true:=hg
     cases e2:bO h2 n with
     |none=>rw[e2]at hg;cases hg
     |some ys=>
      rw[e2]at hg;have jz:=PV.beqs_eq hg;subst jz;let⟨a3,fj,i3,su,ru⟩:=dB aj e2;rw[lH p2 ha']at i3;cases i3;rw[<-c.K]at su;have hl:=ru.length
      show(i<(Ar ys x).length->_)/\((Ar ys x).length<=i->_)
      rw[N'];refine⟨λhi=>?_,λhi=>⟨fj,su,⋯⟩⟩;have gq:i<fj.length:=⋯;have r8:i<x.cps.size:=⋯;refine⟨⟨⟨fj,fj[i],su,by simp[gq]⟩,r8⟩,λy H' yl=>?_⟩;let⟨t,v,cc,ht,hv,ec,rfl,rfl⟩:=yl;let⟨pp,ep,rp⟩:=ru.get (hv fj su);refine⟨⟨.tup [pp,.str ⟨#[cc]⟩],?_,?_⟩,Kp.new ht,aj.aside ht⟩
      ·have YD:x.cps.toList[i]?=a_ cc:=by simpa using ec
       show(Ar ys x)[i]?=_
       unfold Ar;rw[List.getElem?_zipWith,ep,YD]
      ·exact⟨t,[v,.str ⟨#[cc]⟩],rfl,.inl (.inl bX),rp.mono Zm (Kp.new ht),rfl,trivial⟩
   ·exact q1.elim
  ·exact q1.elim
end
def Na(f:s_):Prop:=f=.none\/∃T:Nat,f=rawInt T
abbrev Ad(h:x_)(it d:u_)(i n ep:Nat)(f0:s_)(f1:Bool)(ok ov:s_):Prop:=h.get? it=a_ {cls:=.type "dict_itemiterator",data:=.fields #[f0,.bool f1,.ref d,.int i 0,.int n 0,.int ep 0,ok,ov]}
section
variable{prog:z_}{w:y_}{A:w_}{E:f_ 0}{s:t_}{v dc it:u_}{oc:Obj}{es:Array y1q}{ep:Nat}{ok ov f0:s_}{f1:Bool}
def Nb{Q:D_ Obj->t_->Prop}(h:Q (s.heap.get? a) s):m_ prog w A (loadIfAlive a) Q E s:=λΓ p _=>by unfold loadIfAlive;rw[Sem.wp_loadIfAlive];exact h
def BG(hI:Ad s.heap it dc i n ep f0 f1 ok ov):s.TypeIs (.ref it) "dict_itemiterator" := ⟨_,hI,rfl⟩
def Ie{Q:D_ s_->t_->Prop}(hI:Ad s.heap it dc i es.size ep f0 f1 ok ov)(h1:s.heap.get? dc=a_ oc)(h2:oc.data=.dict es ep)(af:i<es.size)(hf:Na f0)(q:∀h' f0' f1' ie xn,Na f0'->Ad h' it dc (i+1) es.size ep f0' f1' ie xn->h'.get? (e_ s)=a_ {cls:=.type "tuple",data:=.seq #[es[i].key,es[i].val]}->
   (∀(b:u_)(o:Obj),b≠it->s.heap.get? b=a_ o->h'.get? b=a_ o)->Q (c_ (e_ s)) {s with heap:=h'}):m_ prog w A (pyNext (.ref it)) Q E s:=by
 have hT:=BG hI;unfold pyNext;refine Zb (y1f (ZR (name:=y0i "__next__") hT y0S (Z1 y0S hT F.entry_dict_itemiterator_next ?_ (F.args_dict_itemiterator_next_1 _))));refine Zb (Zd (Zb (Zb ?_)))
 first|refine Zb (y1l hT (Zd ?_))|refine Zb (y1Z hT (Zd ?_))
 refine Zb (y1V hI rfl ?_);rw[show y02 "dict_itemiterator" = true by decide];simp only[if_true]
 show wpAny _ _ (if(ZC dc == ZE)=true then _ else _) _ _ s
 rw[if_neg (show ¬ ((ZC dc == ZE)=true) from Zv)]
 refine Zb (Zd (Zb (y0x h1 h2 ?_)));rw[if_neg (show ¬ _ by simp)];refine Zb (Zd (Zb (y2y h1 h2 ?_)));rw[if_neg (show ¬ _ by simp)];refine Zd ?_;simp only[show ¬ ((i:Int)<0) by omega,if_false,Int.toNat_natCast,ZG af];refine Zb ?_
 first|refine Zb (y1l hT (Zd ?_))|refine Zb (y1Z hT (Zd ?_))
 refine Zb (wpAny_isOneOf_itemiter hT (show wpAny _ _ (setField (.ref it) 3 (rawInt ((i:Int)+1)) >>= _) _ _ s from Zb (y2R hI rfl (by simp) ?_)))
 have l8:Ad (s.heap.update it (y1O (·.setIfInBounds 3 (rawInt ((i:Int)+1))))) it dc (i+1) es.size ep f0 f1 ok ov:=by
  show(s.heap.update it _).get? it=_
  rw[ZX _ hI (y2C (y2o rfl _))];simp[y1O,rawInt]
 have kp:∀(b:u_)(o:Obj),b≠it->s.heap.get? b=a_ o->(s.heap.update it (y1O (·.setIfInBounds 3 (rawInt ((i:Int)+1))))).get? b=a_ o:=λb o hb e=>by rw[(ZK ..).2 b hb];exact e
 have sz:(s.heap.update it (y1O (·.setIfInBounds 3 (rawInt ((i:Int)+1))))).objs.size=(e_ s):=(ZK ..).1;generalize s.heap.update it (y1O (·.setIfInBounds 3 (rawInt ((i:Int)+1))))=hA at l8 kp sz;have qr:({s with heap:=hA}:t_).TypeIs (.ref it) "dict_itemiterator" := BG l8;refine Zb (Z3 (Zb (wpAny_isOneOf_itemiter qr (Zb (wpAny_isOneOf_itemiter qr ?_)))))
 show wpAny _ _ (Builtin.Dict_items.pairFromOwner (.ref it) 6 es[i].key es[i].val) _ _ _
 unfold Builtin.Dict_items.pairFromOwner;simp only[newTuple];refine Zb (ZJ ?_ (by size_fits));have jc:Ad (hA.push {cls:=.type "tuple",data:=.seq #[es[i].key,es[i].val]}) it dc (i+1) es.size ep f0 f1 ok ov:=Ze _ l8;have gt:(hA.push {cls:=.type "tuple",data:=.seq #[es[i].key,es[i].val]}).get? hA.objs.size=a_ {cls:=.type "tuple",data:=.seq #[es[i].key,es[i].val]}:=Zj _ rfl;have wx:∀(b:u_)(o:Obj),b≠it->s.heap.get? b=a_ o->(hA.push {cls:=.type "tuple",data:=.seq #[es[i].key,es[i].val]}).get? b=a_ o:=λb o hb e=>Ze _ (kp b o hb e);rw[sz]at gt;have ne:(e_ s)≠it:=y0a (Zl hI)
 show wpAny _ _ _ _ _ {s with heap:=hA.push {cls:=.type "tuple",data:=.seq #[es[i].key,es[i].val]} }
 generalize hA.push {cls:=.type "tuple",data:=.seq #[es[i].key,es[i].val]}=hB at jc gt wx;have eA:(ZC ({s with heap:=hA}:t_).heap.objs.size)=.ref (e_ s):=by rw[<-sz]
 simp only[eA];have stp:∀{h1:x_}{fs:Array s_}{j:Nat}{x:s_}{α:Type}{f:Unit->Sem α}{R:α->t_->Prop}{E':f_ 0},h1.get? it=a_ {cls:=.type "dict_itemiterator",data:=.fields fs}->j<fs.size->
   (∀h2:x_,h2.get? it=a_ {cls:=.type "dict_itemiterator",data:=.fields (fs.setIfInBounds j x)}->(∀(b:u_),b≠it->h2.get? b=h1.get? b)->m_ prog w A.in1 (f ()) R E' {s with heap:=h2})->
   m_ prog w A.in1 (setField (.ref it) j x >>= f) R E' {s with heap:=h1}:=λ{h1 fs j x α f R E'} g hj k=>by
  refine Zb (y2R (s:={s with heap:=h1}) g rfl hj ?_);refine k _ ?_ λb hb=>(ZK ..).2 b hb;rw[ZX _ g (y2C (y2o rfl _))];simp[y1O]
 have free:∀E':f_ 0,m_ prog w A.in1 (y2Y (.ref it)) (λ_ s'=>∃h9 g1,s'={s with heap:=h9}/\Ad h9 it dc (i+1) es.size ep f0 g1 ok ov/\∀b,b≠it->h9.get? b=hB.get? b) E' {s with heap:=hB}:=λE'=>by
  unfold y2Y;refine Zb (y0V (s:={s with heap:=hB}) jc rfl (x:=f0) rfl ?_);rcases hf with rfl|⟨T,rfl⟩
  ·exact Zd ⟨hB,f1,rfl,jc,λ_ _=>rfl⟩
  ·show wpAny _ _ (loadIfAlive ((T:Int).toNat) >>= _) _ _ _
   refine Zb (Nb ?_);cases hB.get? ((T:Int).toNat) with
   |none=>exact Zd ⟨hB,f1,rfl,jc,λ_ _=>rfl⟩
   |some o=>
    simp only[Option.isNone_some,ZU,if_false];refine Zb (y0V (s:={s with heap:=hB}) jc rfl (x:=.bool f1) rfl ?_);cases f1 with
    |false=>rw[if_pos nofun];refine stp jc (by simp) λh3 g3 s3=>?_;exact Zd ⟨h3,true,rfl,by show h3.get? it=_;rw[g3];simp,s3⟩
    |true=>rw[if_neg nofun];exact Zd ⟨hB,true,rfl,jc,λ_ _=>rfl⟩
 refine Zb (y0I (free _) (λb s' hb=>?_) λ_ _ e=>e);let⟨h9,g1,rfl,qx,s9⟩:=hb;cases b with
 |true=>
  simp only[if_true];refine Zb (y0V (s:={s with heap:=h9}) qx rfl (x:=ok) rfl (Zb (y0V (s:={s with heap:=h9}) qx rfl (x:=ov) rfl ?_)));refine stp qx (by simp) λh3 g3 s3=>?_;refine stp g3 (by simp) λh4 g4 s4=>?_;refine stp g4 (by simp) λh5 g5 s5=>?_;refine stp g5 (by simp) λh6 g6 s6=>?_;refine Zb (wpAny_letGo (Zd (Zd ⟨_,rfl,Zd (q h6 (rawInt (e_ s)) false es[i].key es[i].val (.inr ⟨_,rfl⟩) (by rw[<-sz];show h6.get? it=_;rw[g6];simp) ?_ λb o hb e=>?_)⟩)))
  ·rw[s6 _ ne,s5 _ ne,s4 _ ne,s3 _ ne,s9 _ ne];exact gt
  ·rw[s6 _ hb,s5 _ hb,s4 _ hb,s3 _ hb,s9 _ hb];exact wx b o hb e
 |false=>
  simp only[ZU,if_false];refine Zd (Zd ⟨_,rfl,Zd (q h9 f0 g1 ok ov hf qx ?_ λb o hb e=>?_)⟩)
  ·rw[s9 _ ne];exact gt
  ·rw[s9 _ hb];exact wx b o hb e
def Ig{Q:D_ s_->t_->Prop}(hh:A.handled=b_)(hI:Ad s.heap it dc i es.size ep f0 f1 ok ov)(h1:s.heap.get? dc=a_ oc)(h2:oc.data=.dict es ep)(kr:es.size<=i)(q:∀h',Heap.ExtBut it s.heap h'->Q b_ {s with heap:=h'}):m_ prog w A (pyNext (.ref it)) Q E s:=by
 have hT:=BG hI;unfold pyNext;refine Zb (y1f (ZR (name:=y0i "__next__") hT y0S (Z1 y0S hT F.entry_dict_itemiterator_next ?_ (F.args_dict_itemiterator_next_1 _))));refine Zb (Zd (Zb (Zb ?_)))
 first|refine Zb (y1l hT (Zd ?_))|refine Zb (y1Z hT (Zd ?_))
 refine Zb (y1V hI rfl ?_);rw[show y02 "dict_itemiterator" = true by decide];simp only[if_true]
 show wpAny _ _ (if(ZC dc == ZE)=true then _ else _) _ _ s
 rw[if_neg (show ¬ ((ZC dc == ZE)=true) from Zv)]
 refine Zb (Zd (Zb (y0x h1 h2 ?_)));rw[if_neg (show ¬ _ by simp)];refine Zb (Zd (Zb (y2y h1 h2 ?_)));rw[if_neg (show ¬ _ by simp)];refine Zd ?_;simp only[show ¬ ((i:Int)<0) by omega,if_false,Int.toNat_natCast,y0d kr];refine Zb ?_
 first|refine Zb (y1l hT (Zd ?_))|refine Zb (y1Z hT (Zd ?_))
 refine(show wpAny _ _ (setField (.ref it) 2 .none >>= _) _ _ s from Zb (y2R hI rfl (by simp) ?_))
 refine(show wpAny _ _ (newExc (.type "StopIteration") [] >>= _) _ _ _ from Zb ?_);simp only[newExc,newTuple]
 refine Zb (ZJ (Zb (m:=y1W _ _) (y1E (a:=ZE) (by first|rfl|(simp only[y1W];rfl)) (ZJ ?_ (by size_fits)))) (by size_fits))
 simp only[raiseNew];refine Zb (wpAny_handled ?_);rw[show A.in1.handled=b_ from hh]
 refine Zb (Zd (wpAny_throw ?_));refine Zb (y0T (T:="StopIteration") (b:=true) ⟨_,Zj _ rfl,rfl⟩ isSubtype_stop ?_);exact Zd (q _ (((ZK ..).extBut.push _).push _))
end
structure Prs(es:Array y1q)(lo:u_)(h:x_)(as:C_ u_):Prop where
 above:∀a∈as,lo<a
 rise:as.Pairwise (· < ·)
 pairs:∀(j:Nat) a,as[j]?=some a->∃e,es[j]?=some e/\h.get? a=some {cls:=.type "tuple",data:=.seq #[e.key,e.val]}
section
variable{prog:z_}{w:y_}{A:w_}{s:t_}{es:Array y1q}{ep:Nat}{oc:Obj}{R:j_ Result}
def Nc(hh:A.handled=b_)(ng:S<I)(sx:d≠S)(hId:d≠I)(h2:oc.data=.dict es ep)(hn:es.size<=Zq)(res:s_){h₁:x_}(hR:∀h' tk acc c as,(∀b o,b≠S->b≠I->h₁.get? b=a_ o->h'.get? b=a_ o)->h'.get? S=a_ {cls:=.type "list",dict:=b_,data:=.seq acc c,slots:=#[]}->as.length=es.size->Prs es I h' as->
   acc.toList=as.map ZC->R (.ok (.ret res)) {s with heap:=h',toks:=tk}):
  ∀(k i:Nat)(h:x_)(tk c:Nat)(acc:Array s_)(as:C_ u_)(f0:s_)(f1:Bool)(ok ov:s_),es.size-i=k->i<=es.size->Na f0->Ad h I d i es.size ep f0 f1 ok ov->h.get? d=a_ oc->(∀b o,b≠S->b≠I->h₁.get? b=a_ o->h.get? b=a_ o)->
   h.get? S=a_ {cls:=.type "list",dict:=b_,data:=.seq acc c,slots:=#[]}->acc.toList=as.map ZC->as.length=i->Prs es I h as->
   codeAny (model prog w) A (.builtin "list.extend.loop" ⟨[.ref S,.ref I,res],[]⟩) R {s with heap:=h,toks:=tk}:=by
 have cz:S≠I:=Zt ng;intro k
 induction k with
 |zero=>
  intro i h tk c acc as f0 f1 ok ov hk hi ff bc hD hkeep hS ag hal hG;refine y0E PySem.F.entry_extend_loop ?_;rw[y0g y1g _]
  show wpAny _ A.in1 (pyNext (.ref I) >>= _) _ _ _
  refine Zb (Ig (s:={s with heap:=h,toks:=tk}) (A:=A.in1) hh bc hD h2 ⋯ λh' he=>?_);refine Zd (hR h' tk acc c as (λb o h1 h2 e=>he b o h2 (hkeep b o h1 h2 e)) (he S _ cz hS) ⋯ ⟨hG.above,hG.rise,λj a hj=>?_⟩ ag);let⟨e,e1,e2⟩:=hG.pairs j a hj;exact⟨e,e1,he a _ (y0a (hG.above a (ZP hj))) e2⟩
 |succ k ih=>
  intro i h tk c acc as f0 f1 ok ov hk hi ff bc hD hkeep hS ag hal hG;have af:i<es.size:=⋯;have hsz:acc.size=i:=by rw[<-y18,ag,Zg,hal]
  have hIs:I<h.objs.size:=Zl bc;have YR:S<h.objs.size:=Zl hS;refine y0E PySem.F.entry_extend_loop ?_;rw[y0g y1g _]
  show wpAny _ A.in1 (pyNext (.ref I) >>= _) _ _ _
  refine Zb (Ie (s:={s with heap:=h,toks:=tk}) (A:=A.in1) bc hD h2 af ff λh' g0 g1 ie xn ff' c7 ht oh=>?_);dsimp only at ht oh⊢;have b6:=oh S _ cz hS;have up:∀b o,b≠S->h'.get? b=a_ o->(h'.update S (ZT (·.push (ZC h.objs.size)))).get? b=a_ o:=λb o hb e=>(y0c _ _ (ZV hb)).trans e
  show wpAny _ A.in1 (updateSeq S (·.push (ZC h.objs.size)) >>= _) _ _ _
  refine Zb ?_;refine wpAny_updateSeq b6 rfl (Zd ⟨y1e y1g _,ih (i+1) _ tk _ (acc.push (ZC h.objs.size)) (as++[h.objs.size]) g0 g1 ie xn ⋯ af ff' (up I _ (ZV cz) c7) (up d _ sx (oh d _ hId hD))
   (λb o h1 h2 e=>up b o h1 (oh b o h2 (hkeep b o h1 h2 e))) (ZX _ b6 rfl) (by rw[Array.toList_push,ag,Z4];rfl) (by rw[y0h,hal];rfl) ⟨?_,?_,?_⟩⟩) (by rw[hsz];omega) (by show(acc.push (ZC h.objs.size)).size<=Zq+1;rw[Array.size_push];omega)
  ·intro a ha;rcases ZQ.mp ha with ha|ha
   ·exact hG.above a ha
   ·rw[ZN.mp ha];exact hIs
  ·refine List.pairwise_append.mpr ⟨hG.rise,y2c _ _,λa ha b hb=>?_⟩;rw[ZN.mp hb];let⟨j,hj⟩:=y2w.mp ha;let⟨e,_,e2⟩:=hG.pairs j a hj;exact Zl e2
  ·intro j b hj;rcases Nat.lt_trichotomy j as.length with h1|h1|h1
   ·rw[y0n h1]at hj;let⟨e,e1,e2⟩:=hG.pairs j b hj;have hb:=hG.above b (ZP hj);exact⟨e,e1,up b _ (y0a (Nat.lt_trans ng hb)) (oh b _ (y0a hb) e2)⟩
   ·subst h1;have hb:h.objs.size=b:=by simpa using hj
    subst hb;exact⟨es[i],by rw[hal];simp[af],up _ _ (y0a YR) ht⟩
   ·have pj:(as++[h.objs.size])[j]?=b_:=y1Q (by rw[y0h,List.length_singleton];omega);rw[pj]at hj;cases hj
end
end L2
namespace L2
open PySem.W
theorem Prs.low{es:Array y1q}{lo xt:u_}{h:x_}{as:C_ u_}(g:Prs es lo h as)(hl:xt<=lo):Prs es xt h as:=⟨λa ha=>Nat.lt_of_le_of_lt hl (g.above a ha),g.rise,g.pairs⟩
section
variable{prog:z_}{w:y_}{A:w_}{E:f_ 0}{s:t_}{es:Array y1q}{ep:Nat}{oc:Obj}{r d:u_}
def Ih{R:j_ Result}(hh:A.handled=b_)(hv:s.heap.IsItemsView r d)(hD:s.heap.get? d=a_ oc)(h2:oc.data=.dict es ep)(S:u_)(Yw:S≠r)(sx:d≠S)(res:s_)(c₀:Nat)(hS:s.heap.get? S=a_ {cls:=.type "list",data:=.seq #[] c₀})
  (hR:∀h' tk acc c as,(∀b o,b≠S->s.heap.get? b=a_ o->h'.get? b=a_ o)->h'.get? S=a_ {cls:=.type "list",dict:=b_,data:=.seq acc c,slots:=#[]}->as.length=es.size->Prs es (e_ s) h' as->
   acc.toList=as.map ZC->R (.ok (.ret res)) {s with heap:=h',toks:=tk}) (hn:es.size<=Zq):
  m_ prog w A.in1 (y0F (.ref S) (.ref r) res)
   (λfin s'=>match fin with|.done f=>R (.ok f) s'|.again c'=>c'.quiet=true/\codeAny (model prog w) A c' R s') (λe s'=>R (.error e) s') s:=by
 have ng:S<(e_ s):=Zl hS;have hdI:d<(e_ s):=Zl hD;have key:∀(h:x_)(c₁ tk:Nat),(∀b o,b≠S->(s.heap.push {cls:=.type "dict_itemiterator",data:=.fields #[.none,.bool false,.ref d,.int 0 0,.int es.size 0,.int ep 0,.none,.none]}).get? b=a_ o->h.get? b=a_ o)->
   h.get? S=a_ {cls:=.type "list",data:=.seq #[] c₁}->codeAny (model prog w) A (.builtin "list.extend.loop" ⟨[.ref S,.ref (e_ s),res],[]⟩) R {s with heap:=h,toks:=tk}:=by
  intro h c₁ tk hk gp;have hI:=hk (e_ s) _ (y0a ng) (Zj _ rfl);exact Nc (es:=es) (ep:=ep) (oc:=oc) (s:=s) (h₁:=s.heap) hh ng sx (Zt hdI) h2 hn res (λh' gi acc c as c8 b6 hl hG ag=>hR h' gi acc c as (λb o hb e=>c8 b o hb (Zt (Zl e)) e) b6 hl hG ag)
   es.size 0 h tk c₁ #[] [] .none false .none .none (y2E _) (ZO _) (.inl rfl) hI (hk d _ sx (Ze _ hD)) (λb o hb _ e=>hk b o hb (Ze _ e)) gp rfl rfl
   ⟨(λ_ ha=>nomatch ha),y1y,(λj a hj=>by simp at hj)⟩
 unfold y0F;refine Zb (y1K (T:="dict_items") hv.typeIs ?_);have h1:y1n (.ref S) (.ref r)=false:=by simp[y1n,Yw]
 have h3:(y1v "dict_items" == y1v "list")=false:=by decide
 have h4:(y1v "dict_items" == y1v "tuple")=false:=by decide
 simp only[h1,h3,h4,Bool.or_false,ZU,if_false];refine Zb (Hs hv hD h2 ?_);have gp:=Ze {cls:=.type "dict_itemiterator",data:=.fields #[.none,.bool false,.ref d,.int 0 0,.int es.size 0,.int ep 0,.none,.none]} hS;refine Zb (Z3 (kdx_hint (let ⟨o,ho,hc,_⟩:=hv;⟨o,Ze _ ho,hc⟩) ?_));refine wpAny_ite_split (λ_=>?_) (λ_=>Zd ⟨y1e y1g _,key _ c₀ _ (λb o _ e=>e) gp⟩);refine Zb (y07 ?_);refine Zb ?_
 show wpAny _ _ (updateSeq S (·.push .none) >>= λ_=>updateSeq S (·.pop)) _ _ _
 refine Zb (wpAny_updateSeq gp rfl ?_);have o8:=ZX (ZT (·.push ZE)) gp rfl;refine wpAny_updateSeq (hz:=by seq_fits) o8 rfl ?_;have ur:=ZX (ZT (·.pop)) o8 rfl;refine Zd ⟨y1e y1g _,key _ _ _ (λb o hb e=>?_) ur⟩;exact(y0c _ _ (ZV hb)).trans ((y0c _ _ (ZV hb)).trans e)
end
section
variable{prog:z_}{w:y_}{A:w_}{E:f_ 0}{s:t_}{es:Array y1q}{ep:Nat}{oc:Obj}{r d:u_}
def Gf{R:C_ s_->t_->Prop}(hh:A.handled=b_)(hv:s.heap.IsItemsView r d)(hD:s.heap.get? d=a_ oc)(h2:oc.data=.dict es ep)(hn:es.size<=Zq)
  (h:∀(h':x_)(tk:Nat)(as:C_ u_),(∀b o,s.heap.get? b=a_ o->h'.get? b=a_ o)->as.length=es.size->Prs es (e_ s) h' as->R (as.map ZC) {s with heap:=h',toks:=tk}):
  m_ prog w A (collect (.ref r)) R E s:=by
 have hr:r<(e_ s):=let ⟨_,ho,_⟩:=hv;Zl ho;have hd:d<(e_ s):=Zl hD;unfold collect;refine Zb (wpAny_runValue (y0E entry_proto_collect' ?_));rw[y0g PySem.F.plain_proto_collect _]
 show wpAny _ A.in1 (newList [] >>= λl=>again (.builtin "list.__iadd__" ⟨[l,.ref r],[]⟩)) _ _ s
 refine Zb (ZJ ?_);refine Zd ⟨y1e PySem.F.plain_list_iadd _,y0E entry_list_iadd' ?_⟩;rw[y0g PySem.F.plain_list_iadd _];have gp:(s.heap.push {cls:=.type "list",data:=.seq ([]:C_ s_).toArray}).get? (e_ s)=a_ {cls:=.type "list",data:=.seq #[]}:=Zj _ rfl
 show wpAny _ A.in1 (y0F (.ref (e_ s)) (.ref r) (.ref (e_ s))) _ _ _
 have key:=Ih (A:=A) (s:={s with heap:=s.heap.push {cls:=.type "list",data:=.seq ([]:C_ s_).toArray} }) (prog:=prog) (w:=w) (es:=es) (ep:=ep) (oc:=oc) (r:=r) (d:=d)
  (R:=λ(q:Result)(s':t_)=>∃(h':x_)(tk:Nat)(ar:Array s_)(c':Nat)(as:C_ u_),q=.ok (.ret (.ref (e_ s)))/\s'={s with heap:=h',toks:=tk}/\
   (∀b o,s.heap.get? b=a_ o->h'.get? b=a_ o)/\h'.get? (e_ s)=a_ {cls:=.type "list",dict:=b_,data:=.seq ar c',slots:=#[]}/\as.length=es.size/\Prs es (e_ s) h' as/\ar.toList=as.map ZC)
  hh (let ⟨o,ho,x⟩:=hv;⟨o,Ze _ ho,x⟩) (Ze _ hD) h2 (e_ s) (y0a hr) (Zt hd) (.ref (e_ s)) 0 gp
  (λh' tk ar c' as hk b6 hl hG ag=>⟨h',tk,ar,c',as,rfl,rfl,λb o e=>hk b o (Zt (Zl e)) (Ze _ e),b6,hl,hG.low (by show (e_ s)<=(s.heap.push _).objs.size;rw[y0m];exact Nat.le_succ _),ag⟩) hn
 have fin:∀(h':x_)(tk:Nat)(ar:Array s_)(c':Nat)(as:C_ u_),(∀b o,s.heap.get? b=a_ o->h'.get? b=a_ o)->h'.get? (e_ s)=a_ {cls:=.type "list",dict:=b_,data:=.seq ar c',slots:=#[]}->as.length=es.size->Prs es (e_ s) h' as->ar.toList=as.map ZC->R ar.toList {s with heap:=h',toks:=tk}:=λh' tk ar c' as hk _ hl hG ag=>by rw[ag];exact h h' tk as hk hl hG
 refine y0I key (λfn s' x=>?_) λe s' x=>?_
 ·cases fn with
  |done f=>
   let⟨h',tk,ar,c',as,e,rfl,hk,b6,hl,hG,ag⟩:=x;cases e
   show wpAny _ A (load (e_ s) >>= _) _ _ _
   refine Zb (wpAny_load b6 (Zd ?_));exact fin h' tk ar c' as hk b6 hl hG ag
  |again c₁=>
   refine⟨x.1,y2Z x.2 λq s₂ y=>?_⟩;let⟨h',tk,ar,c',as,rfl,rfl,hk,b6,hl,hG,ag⟩:=y
   show wpAny _ A (load (e_ s) >>= _) _ _ _
   refine Zb (wpAny_load b6 (Zd ?_));exact fin h' tk ar c' as hk b6 hl hG ag
 ·let⟨_,_,_,_,_,e',_⟩:=x;cases e'
end
section
variable{C:MC}{k:Nat}{X:Cx}{φ:C_ u_}{H:Hp}
theorem Nd:∀{ps:C_ PV}{vs:C_ V},ps.length=vs.length->(∀(i:Nat) p v,ps[i]?=a_ p->vs[i]?=a_ v->RV C φ H p v)->RVs C φ H ps vs
 |[],[],_,_=>trivial
 |p::ps,v::vs,hl,h=>⟨h 0 p v rfl rfl,Nd (l_ hl) λi a b ha hb=>h (i+1) a b (l_ ha) (l_ hb)⟩
 |[],_::_,hl,_=>by cases hl
 |_::_,[],hl,_=>by cases hl
end
section
variable{C:MC}{k:Nat}{X:Cx}
def EB(h:PH)(n:Nat):D_ (C_ PV):=match h[n]? with
 |some (.vw 0 d)=>match h[d]? with
  |some o=>yZ o
  |none=>b_
 |_=>b_
end
end L2
namespace L2
open PySem.SeqAt PySem.W
def pJ(x:PV)(h:PH):D_ (C_ PV):=match x with
 |.ref n=>match bO h n with
  |some ys=>a_ ys
  |none=>EB h n
 |.fl ys=>a_ ys
 |_=>b_
noncomputable def jY(f:Fn)(b:Bool)(kb:Nat)(x:PV)(h:PH):Rs PV:=match pJ x h with
 |some ys=>if ys.length<64 then iK f b kb ys ys [] h else .bad
 |none=>.bad
noncomputable def pK(f:Fn)(b:Bool)(kb:Nat)(me:Me):Me:=λδ h=>(me δ h).bind λx h1=>jY f b kb x h1
section
variable{C:MC}{k:Nat}{X:Cx}
def Kx{FR:g_ 0}{s:t_}{σ:St}{φ:C_ u_}{H:Hp}{h:PH}{a b:u_}{d:Nat}{o:MO}{ys:C_ PV}(c:Cxt C k X)(I:Inv X FR σ H s)(rh:RH C φ H h)(hb:φ[d]?=a_ b)(hH:H a=a_ (LL 0 a b))(ho:h[d]?=a_ o)(ey:yZ o=a_ ys)(hz:ys.length<64):
  wpAny (h_ X) X.A.in1 (collect (.ref a)) (λits s1=>∃H1 us,AX H H1/\Inv X FR σ H1 s1/\bN us its/\RVs C φ H1 ys us) X.xe s:=by
 let⟨ks,u,oc,es,ep,W⟩:=QZ c I rh hb ho (Kr ey);have hv:s.heap.IsItemsView a b:=(I.hok a _ hH).1;let⟨ly,ent⟩:=W.items ys ey;have lk:=W.len;have hn:es.size<=Zq:=by rw[y0b];omega
 refine Gf (I.ok.hd c.calm) hv W.get W.data hn λh' tk as kp hl hG=>?_;have u9:(as.zip (ks.map λkv=>[kv.1,kv.2])).map (·.1)=as:=by
  show(as.zip _).map y0D=as
  rw[List.map_fst_zip];rw[Zg];omega
 have az:∀q∈as.zip (ks.map λkv=>[kv.1,kv.2]),(e_ s)<=q.1:=λq hq=>by
  have:q.1∈as:=by rw[<-u9];exact Zu.mpr ⟨q,hq,rfl⟩
  exact y1J (hG.above _ this)
 have nd:((as.zip (ks.map λkv=>[kv.1,kv.2])).map (·.1)).Nodup:=by rw[u9];exact hG.rise.imp λh=>Zt h
 have each:∀(j:Nat)(t:u_),as[j]?=a_ t->∃(kv:V×V)(e:y1q),ks[j]?=a_ kv/\(as.zip (ks.map λkv=>[kv.1,kv.2]))[j]?=a_ (t,[kv.1,kv.2])/\RelV kv.1 e.key/\RelV kv.2 e.val/\h'.get? t=a_ {cls:=.type "tuple",data:=.seq #[e.key,e.val]}:=λj t ht=>by
  let⟨e,e1,e2⟩:=hG.pairs j t ht;have hj:=(Zc.mp ht).1;let⟨kv,i7,r1,r2⟩:=W.ent j ⋯;have ee:es[j]'⋯=e:=by have:=ZG (xs:=es) (i:=j) ⋯;rw[this]at e1;cases e1;rfl
  refine⟨kv,e,i7,?_,by rw[<-ee];exact r1,by rw[<-ee];exact r2,e2⟩;rw[List.getElem?_zip_eq_some];exact⟨ht,by simp[i7]⟩
 have vr:∀l:C_ u_,bN (l.map V.ref) (l.map ZC):=λl=>by
  induction l with
  |nil=>exact .nil
  |cons a l ih=>exact .cons rfl ih
 refine⟨_,as.map V.ref,Du I az,I.laidT (t':=tk) (ps:=as.zip (ks.map λkv=>[kv.1,kv.2])) kp az (λp hp=>?_),vr as,?_⟩
 ·let⟨j,hj⟩:=y2w.mp hp;have ha:as[j]?=a_ p.1:=by have:=congrArg (λl=>l[j]?) u9;simp[hj]at this;exact this.symm
  let⟨kv,e,_,e2,r1,r2,e3⟩:=each j p.1 ha;rw[hj]at e2;have eq2:p.2=[kv.1,kv.2]:=by have:=ZI e2;rw[this]
  refine⟨by rw[eq2,y0b];show 2<=16777216;decide,[e.key,e.val],by rw[eq2];exact .cons r1 (.cons r2 .nil),⟨_,e3,rfl,⟨0,rfl⟩,rfl⟩⟩
 ·refine Nd (by rw[Zg];omega) λi p v hp Xz=>?_;rw[Zr]at Xz;let⟨t,ht,rfl⟩:=Zw.mp Xz;let⟨kv,e,i7,e2,_⟩:=each i t ht;let⟨p1,p2,kv',rfl,oj,q1,q2⟩:=ent i p hp;rw[i7]at oj;cases oj
  have T:=Kp.same (Du I az);exact⟨t,[kv.1,kv.2],rfl,.inl (.inl (FH nd e2)),q1.mono Zm T,q2.mono Zm T,trivial⟩
section
variable{x:Str}{st:B_}{q:u_}{fd:ZL}{pn:C_ Str}{j:Nat}{f:Fn}
def Gg{b:Bool}{kb:Nat}{kw:C_ (Str×s_)}(c:Cxt C k X)(D:Def C.K X.mg x st q fd pn)(G:bR X.prog X.w C.K X.mg X.base CX0 j q fd pn (spM C 1 f))(hj:j+2<=k)
  (qz:∀v,argsOk "sorted" ⟨[v],kw⟩) (ai:∀v,argsOk "list.sort" ⟨[.ref v],kw⟩) (ht:∀v,Builtin.«list.sort» ⟨[.ref v],kw⟩=ksk_tree v (.ref q) b)
  {FR:g_ 0} {s:t_} {σ:St} {H:Hp} {Q:VK} {v:V} {u:s_} (I:Inv X FR σ H s) (ru:RelV v u) (h:r1 C (jY f b kb) v H Q):
  wpAny (h_ X) X.A (call (.builtin "sorted") [u] kw) (EP X FR σ Q) X.xe s:=by
 let⟨φ,h,p,rh,rp,po⟩:=h;unfold jY at po;cases ei:pJ p h with
 |none=>rw[ei]at po;exact po.elim
 |some ys=>
 rw[ei]at po;let⟨h64,po⟩:=po.ite;refine call_function_entry_kw kind_sorted plain_sorted entry_sorted (qz u) ?_;unfold Builtin.«sorted»;refine Zb (m:=checkCount "sorted" 1 1 _) (Zd ?_);have col:wpAny (h_ X) X.A.in1 (collect u) (λits s1=>∃H1 us,AX H H1/\Inv X FR σ H1 s1/\bN us its/\RVs C φ H1 ys us) X.xe s:=by
  have i4:∀{a:u_}{vs:C_ V},v=.ref a->SqL C.K H a vs->RVs C φ H ys vs->wpAny (h_ X) X.A.in1 (collect u) (λits s1=>∃H1 us,AX H H1/\Inv X FR σ H1 s1/\bN us its/\RVs C φ H1 ys us) X.xe s:=λ{a vs} ev sa ra=>by
   subst ev;cases ru
   have l9:SqL X.K H a vs:=by rw[c.K];exact sa
   let⟨its,rv,pl,hz⟩:=I.list l9;refine collect_list pl.isList ?_ (by have:=rv.length;have:=ra.length;rw[y0b];omega);exact⟨H,vs,λ_ _ z=>z,I.kept (t':=s.toks) λb o e=>by
    have af:b<(e_ s):=Zl e
    first
     |(rw[Heap.get?_update_ne _ _ _ _ (Zt af),y2I _ _ _ (Zt af)];exact e)
     |exact Ze _ e,rv,ra⟩
  unfold pJ at ei;split at ei
  ·rename_i n;let⟨a,ev,ha⟩:=rp;split at ei
   ·rename_i ys' e;cases ei
    let⟨a2,vs,ai,sa,ra⟩:=dB rh e;rw[ha]at ai;cases ai;exact i4 ev sa ra
   ·unfold EB at ei;split at ei
    ·rename_i d hv;split at ei
     ·rename_i o ho;subst ev;cases ru
      let⟨bb,hb,hH⟩:=rh.at' n a _ ha hv;exact Kx c I rh hb hH ho ei h64
     ·cases ei
    ·cases ei
  ·cases ei
   let⟨a,vs,ev,sa,ra⟩:=rp;exact i4 ev sa.sq ra
  ·cases ei
 refine Zb (y0I col (λits s1 hh=>?_) λ_ _ z=>z);let⟨H1,us,sm,I1,rv,ry⟩:=hh;have po:=po.weak Zm (Kp.same sm);have rh:=rh.same sm;clear sm I;have zh:us.length=its.length:=rv.length;have yp:ys.length=us.length:=ry.length;refine Zb (wpAny_newList ?_ (by rw[y0b];omega));have ia:(s1.heap.push (seqObj "list" its.toArray 0)).get? (e_ s1)=a_ (seqObj "list" its.toArray 0):=Zj _ rfl;have keep:∀b o,s1.heap.get? b=a_ o->b≠(e_ s1)/\(s1.heap.push (seqObj "list" its.toArray 0)).get? b=a_ o:=λb o q=>⟨Zt (Zl q),Ze _ q⟩;have fr:∀kS,(e_ s1)<=kS->X.s₀.heap.objs.size<=kS/\kS≠X.env.locals/\(∀x c,X.env.cells.lookup x=a_ c->c≠kS)/\(∀p∈X.pn++FR,p.1≠kS)/\kS∉X.fs:=λkS hk=>MN I1 hk
 show wpAny _ _ _ _ _ {s1 with heap:=s1.heap.push (seqObj "list" its.toArray 0)}
 refine Zb (Z3 (wpAny_call_entry_kw slot_list_sort ⟨_,ia,rfl⟩ entry_list_sort ?body (ai _)))
 case body=>
  show wpAny (h_ X) X.A.in1.in1 (Builtin.«list.sort» ⟨[.ref (e_ s1)],kw⟩) _ _ _
  rw[ht (e_ s1)];refine HA (s:={s1 with heap:=s1.heap.push (seqObj "list" its.toArray 0)}) (a:=(e_ s1)) (κ:=tuples' (decide (kb≠2))) (vs:=its) ia ⋯ (N1 C X FR σ φ H1 f b kb ys Q (e_ s1) (e_ s1)) ?h0 ?j0 ?turn ?fin
  case h0=>
   intro kS e1 h' kp hk g1 g2;have c8:(e_ s1)<kS:=by have:(s1.heap.push (seqObj "list" its.toArray 0)).objs.size<=kS:=hk;rw[y0m]at this;exact this
   have I2:Inv X FR σ H1 {s1 with heap:=h'}:=I1.kept (t':=s1.toks) λb o q=>kp b o (keep b o q).1 (keep b o q).2;have fk:=fr kS (y1J c8);have fa:=fr (e_ s1) (Zi _);refine⟨c8,H1,φ,h,[],[],I2.pins_of λp hp=>?_,Zm,Kp.refl H1,rh,.nil,trivial,po⟩;rcases ZQ.mp hp with hp|hp
   ·exact I2.pin p (Zo _ hp)
   ·rcases Zs.mp hp with rfl|hp
    ·exact⟨g2,I1.hok.fresh (y1J c8),fk.2.1,fk.2.2.2.2,rT⟩
    ·rw[ZN.mp hp];exact⟨g1,I1.hok.fresh (Zi _),fa.2.1,fa.2.2.2.2,rT⟩
  case j0=>rintro kS e1 ks e s' ⟨hz,H',φ',h',zs,ps,I',_⟩;exact⟨y0a hz,(I'.pin (s1.heap.objs.size,seqObj "list" #[] e1) (Zo _ (Zo _ (Zh _ Zn)))).1,(I'.pin (kS,seqObj "list" ks.toArray e) (Zo _ (Zo _ Zn))).1⟩
  case turn=>intro kS e1 ks e s' y hy hJ;exact Kw c D G hj ry rv rfl fr kS e1 ks e s' y hy hJ
  case fin=>
   rintro kS e1 ks e s' hl ⟨hz,H',φ',h',zs,ps,I',pp,tt,dh,rz,rp',po'⟩;have hd:ys.drop ks.length=[]:=List.drop_eq_nil_of_le ⋯;rw[hd]at po';unfold iK at po';cases es:DH b kb ps ys with
   |none=>rw[es]at po';exact po'.elim
   |some out=>
   rw[es]at po';unfold DH at es;split at es
   ·rename_i hc;let⟨hc1,dq,ok,hc4⟩:=hc;cases es
    have uo:ps.length=zs.length:=rp'.length;have hzk:zs.length=ks.length:=rz.length;have hu:=c.hu64;have hr:HRs s'.heap ps ks:=Eo I' c.K 20 ok.ky rp' rz;have memD:∀i,i<its.length->ps.getD i .non∈ps:=λi hi=>by
     have h1:i<ps.length:=⋯;have:ps.getD i .non=ps[i]:=by simp[h1]
     rw[this];exact y1I h1
    refine⟨λi j=>ltN (ps.getD i .non) (ps.getD j .non),λi j k hi hj hk h1 h2=>ME h1 h2,λi j hi hj h=>MF h,λh2 Q' E' hq=>?_,λi j hi hj Q' hq=>?_,λp g e2 a1 a2 kp he gk=>?_⟩
    ·exact Pq ok.m3 hr ok.fk ⋯ hq
    ·have mi:=memD i hi;have mj:=memD j hj;let⟨bb,hb⟩:=y13.mp (ok.lt _ mi _ mj);have hq:Q' (ltN (ps.getD i .non) (ps.getD j .non)) s':=hq;rw[MD hb]at hq;let⟨qs,eq,_⟩:=MJ ok.m3 (ok.fk _ mj);exact MI (n:=19) (by show X.A.units+1+1+19<cLine;omega) (ok.ky _ mi) (ok.ky _ mj) (MJ ok.m3 (ok.fk _ mi)) ⟨qs,eq⟩ (hr.getD ⋯) (hr.getD ⋯) hb hq
    ·have cj:∀i∈p,i<its.length:=λi hi=>by simpa using a1.mem_iff.mp hi
     have fa:=fr (e_ s1) (Zi _);have fk:=fr kS (y1J hz);have gka:=I'.pin (kS,seqObj "list" ks.toArray e) (Zo _ (Zo _ Zn));have zf:=I'.pin (s1.heap.objs.size,seqObj "list" #[] e1) (Zo _ (Zo _ (Zh _ Zn)));have I5:Inv X FR σ H' s':=I'.unpinned;have I6:=I5.adopt (a:=(e_ s1)) (d:=kS) (o:=.lst (p.map λi=>us.getD i .non)) (h':=g) zf.2.1 gka.2.1 fa fk (λx o h1 h2 q=>kp x o h1 h2 q) (by refine⟨?_,p.map (λi=>its.getD i ZE),e2,Dv rv (λi hi=>by have:=cj i hi;omega),he⟩;rw[Zg,a1.length_eq,y2J,y0b];omega)
     refine⟨_,rfl,Zd ⟨_,rfl,.ref (e_ s1),_,I6,rfl,?_⟩⟩;refine po'.lnew dh ?_ zf.2.1;rw[<-Ga (b:=b) dq ok hc4 (p:=p) (by rw[yp,zh];exact a1) a2];exact(ry.mono pp tt).pick (λi hi=>by have:=cj i hi;omega)
   ·cases es
end
section
variable{kf:Str}{st:B_}{q:u_}{fd:ZL}{pn:C_ Str}{j jb:Nat}{f:Fn}{e:A_}{me:Me}{p pos kp dz rp ib:Pos}
def Ky(h:rd C (pK f b kb me) σ H Q):QK (rd C me) RF σ H λvs H1=>∃x,vs=[x]/\r1 C (jY f b kb) x H1 Q:=by let⟨φ,δ,h,rh,re,po⟩:=h;refine⟨φ,δ,h,rh,re,(post.bind po).imp ?_⟩;rintro v H1 ⟨φ1,x,h1,p1,t1,aa,ab,q1⟩;exact⟨v,rfl,φ1,h1,x,aa,ab,q1⟩
def BH{kb:Nat}(D:Def C.K X.mg kf st q fd pn)(G:bR X.prog X.w C.K X.mg X.base CX0 j q fd pn (spM C 1 f))(he:SE C k X e me)(hb:("sorted" : Str)∈C.bs)(hj:j+2<=k:=by decide)(hg:Gl X "sorted" := by rfl)(Y4:Gl X kf:=by rfl)(hdk:(kf == ("__debug__" : Str))=false:=by decide)
  (bc:Zx [e] X.env=(false,eval e X.env)::Zx [] X.env:=by rfl) (XE:backTo pos (Zx [e] X.env)=(false,eval e X.env)::backTo pos (Zx [] X.env):=by rfl) (az:(backTo pos (Zx [e] X.env)).any (·.1)=false:=by rfl):
  SE C k X (.Call (.Name "sorted" p) [e] [⟨a_ "key",.Name kf kp,dz⟩] pos) (pK f false kb me):=λc FR s σ H Q I h=>by
 refine y2m (rG I hg (c.bn _ hb) PyProof.Rows.Boot.«sorted» ?_ nofun nofun);refine callWith_kw (thn (tD (he c) AR bc pos FR s σ H _ I (Ky h)) λus s1 hh=>?_) XE az;let⟨vs,H1,I1,rv,x,rfl,r⟩:=hh;let⟨u,rfl,ru⟩:=vals1 rv;refine kws_cons (Ax I1 Y4 D.mg (kws_nil ?_) hdk)
 show wpAny _ _ (call (.builtin "sorted") [u] [(y0i "key",.ref q)]) _ _ _
 exact Gg c D G hj (λv=>ksk_s1 _ _) (λv=>ksk_l1 _ _) (λv=>ksk_t1 _ _) I1 ru r
end
end
section
variable{α:Type}
def Gh{key emb:α->PV}{xs:C_ α}{Q:PV->PH->Prop}(e:pJ x h=a_ (xs.map emb))(h1:xs.length<64)(ok:OkN m (xs.map key))(hc:∀a∈xs,∀c∈xs,key a=key c->emb a=emb c)(hf:∀d∈xs,∀h(Q:PV->PH->Prop),(∀h',Ext h h'->Q (key d) h')->(f [emb d] h).W Q)(k:∀(os:C_ α) h',Ext h h'->os.Perm xs->os.Pairwise (λa c=>ltN (key c) (key a)=false)->Q (.ref h'.length) (h'++[.lst (os.map emb)])):(jY f false m x h).W Q:=by
 let⟨os,p,pw,es⟩:=PB h1 ok hc;unfold jY;rw[e];dsimp only;rw[if_pos (l_ h1)];exact Ji xs [] h hf es λh' hx=>k os h' hx p pw
end
section
variable{δ:Ev}{h:PH}{m:Me}
@[simp]theorem BI:pK f b n m δ h=(m δ h).bind λx h1=>jY f b n x h1:=(rfl)
def BJ(e:h[n]?=a_ (.lst xs)):pJ (.ref n) h=a_ xs:=by simp[pJ,bO,e]
def Gi(e:h[n]?=a_ (.vw 0 d))(e2:h[d]?=a_ o):pJ (.ref n) h=yZ o:=by simp[pJ,bO,EB,e,e2]
end
end L2
namespace L2
def Kz:y1t "enumerate" = a_ (.type "enumerate"):=by first|rfl|decide +kernel|kernel_rfl
def ItE(K:Zf)(l:u_):It:=
 ⟨λi H=>∃vs v,SqL K H l vs/\vs[i]?=a_ v,
  λi H y H'=>∃t v,H t=b_/\(∀vs,SqL K H l vs->vs[i]?=a_ v)/\y=.ref t/\H'=upd H t (.tup [.int (i:Nat),v]),
  λi H=>∃vs,SqL K H l vs/\vs.length<=i⟩
def KA{P:z_}{w:y_}{K:Zf}{elts:C_ A_}{x1:Nat}{pos:Pos}(l e it:u_)(Xn:e≠it):
  Turn P w K (.Tuple elts x1 pos) (ItE K l) [e,it] e (λi h=>(∃old,IsEnum h e it (i:Nat) old)/\h.IsListIter it l i) where
 mem:=by simp
 obj:=λi h ⟨⟨old,he⟩,⟨o1,e1,_,d1⟩⟩ b hb=>by
  simp only[Zs,y0w,or_false]at hb;rcases hb with rfl|rfl
  ·exact⟨_,he,λv q=>by cases q⟩
  ·exact⟨_,e1,λv q=>by rw[d1]at q;cases q⟩
 keep:=λi h h' ⟨⟨old,he⟩,h1⟩ k=>⟨⟨old,k e (by simp) _ he⟩,h1.at λo q=>k it (by simp) o q⟩
 item:=by
  intro X hP hw hK hc i FR s σ H E I hf ⟨⟨old,he⟩,h1⟩ ⟨vs,v,hq,hv⟩;subst hP hw hK;let⟨its,rv,p,hsz⟩:=I.list hq;let⟨u,hu,ru⟩:=rv.get hv;have hl:=p.isList;let⟨o1,e1,c1,d1⟩:=id h1;refine wpAny_pyNext_enum_item he h1 hl (x:=u) (l_ hu) Xn λh' a1 a2 a5 a6 kp=>⟨_,rfl,?_⟩;refine wpAny_letOwnedTupleGo_enum (s:={s with heap:=h',toks:=s.toks+1}) a1 λd5 hI same=>?_;have fr:H (e_ s)=b_:=I.hok.fresh (Zi _);have nt:∀{b:u_}{o:Obj},s.heap.get? b=a_ o->(e_ s)≠b:=λe=>y0a (Zl e);have sb:∀(b:u_)(o:Obj),b≠e->h'.get? b=a_ o->d5.get? b=a_ o:=λb o hb q=>(same.2 b hb).trans q;have vo:=sb _ _ (nt he) a5;have bq:∀(b:u_)(o:Obj),b∉[e,it]->s.heap.get? b=a_ o->d5.get? b=a_ o:=λb o hb q=>sb b o (λz=>hb (by simp[z])) (kp b o (λz=>hb (by simp[z])) (λz=>hb (by simp[z])) q);have dt:∀b u,H b=a_ u->b∉[e,it]:=λb u q z=>by have:=(hf b z).1;rw[this]at q;cases q
  have fq:∀b u,H b=a_ u->b≠(e_ s):=λb u q z=>by rw[z,fr]at q;cases q
  refine⟨.ref (e_ s),upd H (e_ s) (.tup [.int (i:Nat),v]),?_,rfl,⟨_,v,fr,λys hy=>by rw[I.list_inj hy hq];exact hv,rfl,rfl⟩,⟨⟨_,l_ hI⟩,a2.at λo q=>sb _ _ (ZV Xn) q⟩,λb hb=>?_⟩
  ·refine Inv.step (s:=s) (h':=d5) (H:=H) (g':=s.gens) (d':=s.drawn) (t':=s.toks+1) (ch:=[e,it]) I (λb hb=>?_) (λb o _ _ hc q _=>bq b o hc q) (λb o _ _ hc q _=>⟨o.slots,bq b o hc q⟩) (λb o hc q n=>?_)
    (λb o hc q=>⟨o,bq b o hc q⟩) (λb xs q=>by rw[bE (fq _ _ q)];exact q) (λb o u q=>by rw[bE (fq _ _ q)];exact q) (λb ps q=>⟨#[],by rw[bE (fq _ _ q),q];simp⟩) (λm hm=>?_) (λb u q=>?_) I.bare
   ·let⟨f0,f1,f2,f3,f4,f5⟩:=hf b hb;exact⟨f3,f1,f4,f5⟩
   ·rw[bE (Zt (Zl q))];exact n
   ·let⟨o,es,ep,ho,r⟩:=hm;exact⟨o,es,ep,bq _ o (λq=>(hf _ q).2.1 rfl) ho,r⟩
   ·by_cases hb:b=(e_ s)
    ·subst hb;rw[bX]at q;cases q
     exact⟨by show 2<=Zq;rw[lI];decide,[.int (i:Nat) s.toks,_],.cons ⟨_,rfl⟩ (.cons ru .nil),_,vo,rfl,⟨_,rfl⟩,rfl⟩
    ·rw[bE hb]at q;refine(I.hok b u q).stay (λc v hc z=>bq c v ?_ z) (λc z=>by rw[bE (fq _ _ z)];exact z) λc xs z=>by rw[bE (fq _ _ z)];exact z
     rcases hc with z|z
     ·rw[z];exact dt b u q
     ·exact dt c _ z
  ·have hb':=(hf b hb).1;have:b≠(e_ s):=by
    simp only[Zs,y0w,or_false]at hb;rcases hb with rfl|rfl
    ·exact(nt he).symm
    ·exact(nt e1).symm
   rw[bE this];exact hb'
 done:=by
  intro X hP hw hK hc i FR s σ H E I hf ⟨⟨old,he⟩,h1⟩ ⟨vs,hq,hd⟩;subst hP hw hK;let⟨its,rv,p,hsz⟩:=I.list hq;have hlen:=rv.length;have hl:=p.isList;refine wpAny_pyNext_enum_end (I.ok.hd hc) he h1 hl (by simp;omega) λh' kp=>⟨rfl,?_⟩;have bq:∀(b:u_)(o:Obj),b∉[it]->s.heap.get? b=a_ o->h'.get? b=a_ o:=λb o hb q=>kp b o (λz=>hb (by simp[z])) q;have sub:∀b,b∈[it]->b∈[e,it]:=λb hb=>Zh _ hb;have dt:∀b u,H b=a_ u->b∉[it]:=λb u q z=>by have:=(hf b (sub b z)).1;rw[this]at q;cases q
  refine Inv.step (s:=s) (h':=h') (H:=H) (g':=s.gens) (d':=s.drawn) (t':=s.toks) (ch:=[it]) I (λb hb=>?_) (λb o _ _ hc q _=>bq b o hc q) (λb o _ _ hc q _=>⟨o.slots,bq b o hc q⟩) (λb o hc q n=>n)
   (λb o hc q=>⟨o,bq b o hc q⟩) (λb xs q=>q) (λb o u q=>q) (λb ps q=>⟨#[],by rw[q];simp⟩) (λm hm=>?_) (λb u q=>?_) I.bare
  ·let⟨f0,f1,f2,f3,f4,f5⟩:=hf b (sub b hb);exact⟨f3,f1,f4,f5⟩
  ·let⟨o,es,ep,ho,r⟩:=hm;exact⟨o,es,ep,bq _ o (λq=>(hf _ (sub _ q)).2.1 rfl) ho,r⟩
  ·refine(I.hok b u q).stay (λc v hc z=>bq c v ?_ z) (λ_ z=>z) λ_ _ z=>z;rcases hc with z|z
   ·rw[z];exact dt b u q
   ·exact dt c _ z
 self:=λ_ _ _ _ _ ⟨⟨_,he⟩,_⟩ h=>wpAny_pyIter_enum he h
section
variable{C:MC}{k:Nat}{X:Cx}
def iEn(X:Cx)(ta:TA):TI:=λσ H R=>ta σ H λvs H1=>∃l xs,vs=[.ref l]/\SqL X.K H1 l xs/\R (ItE X.K l) H1
def PQ{a:A_}{ta:TA}{p pos:Pos}{elts:C_ A_}{x1:Nat}{tp:Pos}(hg:Gl X "enumerate")(hm:X.mg "enumerate" = b_)(ha:PA X [a] ta)(hs:Zx [a] X.env=[(false,eval a X.env)]:=by rfl):
  PI X (.Tuple elts x1 tp) (.Call (.Name "enumerate" p) [a] [] pos) (iEn X ta):=by
 intro FR s σ H R I h;refine Call_ (rG I hg hm Kz (y04 (thn (ha pos FR s σ H _ I h) λus s1 hz=>?_) hs rfl));let⟨vs,H1,I1,r1,q1⟩:=hz;let⟨l,xs,e,hq,q⟩:=q1;subst e;cases r1 with
 |cons r rr=>
  cases rr
  cases r
  let⟨its,rv,pl,hz⟩:=I1.list hq;refine call_enumerate_list pl.isList λh' a1 a2 a3 kp=>?_;refine wpAny_pyIter_enum a1 ?_;refine⟨(e_ s1)+1,[(e_ s1)+1,(e_ s1)],_,_,H1,rfl,I1.kept (t':=s1.toks) kp,KA l _ _ (y0a (y2g (e_ s1))),⟨⟨_,a1⟩,a2⟩,λb hb=>?_,q⟩;have hle:(e_ s1)<=b:=by
   simp only[Zs,y0w,or_false]at hb;rcases hb with e|e
   all_goals rw[e]
   all_goals first|exact Zi _|exact Nat.le_add_right _ _
  exact I1.fpOk hle (I1.hok.fresh hle)
def enP(xs:C_ PV):C_ PV:=xs.mapIdx λi p=>PV.tup [.int (i:Nat),p]
def enI:C_ PV->PH->Rs Wk:=λps h=>match ps with
 | [.ref n]=>(match bO h n with
   |some xs=>.ok ⟨enP xs,uM n xs⟩ h
   |none=>.bad)
 |_=>.bad
def mEn(ms:Ma):Mi:=λδ h=>(ms δ h).bind enI
def SX{x:A_}{ms:Ma}{elts:C_ A_}{x1:Nat}{tp p pos:Pos}(ha:SA C k X [x] ms)(hb:("enumerate" : Str)∈C.bs:=by decide)(hg:Gl X "enumerate" := by rfl)(hs:Zx [x] X.env=[(false,eval x X.env)]:=by rfl):
  SI C k X (.Tuple elts x1 tp) (.Call (.Name "enumerate" p) [x] [] pos) (mEn ms):=λc=>
 (PQ hg (c.bn _ hb) (ha c) hs).imp λσ H R h=>by
  let⟨φ,δ,h,rh,re,p⟩:=h;refine⟨φ,δ,h,rh,re,(postA.bindI p).imp ?_⟩;rintro vs H1 ⟨φ1,xs,h1,p1,t1,aa,ab,q1⟩;unfold enI at q1;split at q1
  ·rename_i n;let⟨v,rfl,rx⟩:=ab.one;let⟨a,rfl,ha'⟩:=rx;cases e:bO h1 n with
   |none=>rw[e]at q1;exact q1.elim
   |some xs=>
    rw[e]at q1;let⟨a2,us,ai,sa,ra⟩:=dB aa e;rw[ha']at ai;cases ai;rw[<-c.K]at sa;refine⟨a,us,rfl,sa,q1 φ1 H1 (ItE X.K a) Zm (Kp.refl H1) aa λφ2 H2 h2 p2 t2 aj hg i=>?_⟩;have hg:(match bO h2 n with|some ys=>PV.beqs ys xs|none=>false)=true:=hg
    cases e2:bO h2 n with
    |none=>rw[e2]at hg;cases hg
    |some ys=>
     rw[e2]at hg;have jz:=PV.beqs_eq hg;subst jz;let⟨a3,fj,i3,su,ru⟩:=dB aj e2;rw[lH p2 ha']at i3;cases i3;rw[<-c.K]at su;have hl:=ru.length
     show(i<(enP ys).length->_)/\((enP ys).length<=i->_)
     rw[show(enP ys).length=ys.length by simp[enP]];refine⟨λhi=>?_,λhi=>⟨fj,su,⋯⟩⟩;have gq:i<fj.length:=⋯
     refine⟨⟨fj,fj[i],su,by simp[gq]⟩,λy H' yl=>?_⟩;let⟨t,v,ht,hv,rfl,rfl⟩:=yl;let⟨pp,ep,rp⟩:=ru.get (hv fj su);refine⟨⟨.tup [.int (i:Nat),pp],?_,?_⟩,Kp.new ht,aj.aside ht⟩
     ·show(enP ys)[i]?=_
      unfold enP;rw[List.getElem?_mapIdx,ep];rfl
     ·exact⟨t,[.int (i:Nat),v],rfl,.inl (.inl bX),rfl,rp.mono Zm (Kp.new ht),trivial⟩
  ·exact q1.elim
end
def BK:C_ PV->PH->Rs PV:=λxs h=>match xs with
 |[.ref n]=>match h[n]? with
  |some (.lst ps)=>match rU ps with
   |some rs=>.ok (.ref h.length) (h++[.dD (Eu [] rs)])
   |none=>.bad
  |_=>.bad
 |_=>.bad
section
variable{C:MC}{k:Nat}{X:Cx}{φ:C_ u_}{H:Hp}{FR:g_ 0}{σ:St}{s:t_}
def PR:rP C k X (.type "dict") BK:=λc FR s σ H xs us Q I r h=>by
 let⟨φ,h,ps,rh,rv,po⟩:=h;unfold BK at po;split at po
 ·rename_i n;split at po
  ·rename_i ls hk;split at po
   ·rename_i rs e;let⟨v,rfl,rx⟩:=rv.one;let⟨a,rfl,ha⟩:=rx;let⟨u,rfl,ru⟩:=vals1 r;cases ru
    let⟨vs,hH,d9⟩:=rh.at' n a _ ha hk;let⟨hz,its,m,jw,hl,hx⟩:=I.lstM hH;let⟨qs,rfl,a1,a2⟩:=BA I c.K e d9 jw;have hq:qs.length<=Zq:=by rw[Zg]at hl;omega
    have rm:(wA X.prog X.w).room X.A.in1.in1:=by
     have:=c.hu64
     show X.A.units+1+1+6<cLine
     omega
    refine Aq (knd:=wA X.prog X.w) (I.ok.hd c.calm) rm hx rfl rfl rfl a1 hq λh' tk dd kk=>?_;let⟨aq,r1,r2⟩:=a2 (.nil:RKd C φ H [] []) (.nil:yV [] []);have fr:H (e_ s)=b_:=I.fresh;let⟨o,es,ep,yx,h2,h3,h4,zj,h5⟩:=dd;have fw:aq.length<=Zq:=by have e1:=Z0 r2;have e2:=DG qs ([]:C_ (PV×u_×s_));simp at e2;omega
    refine⟨.ref (e_ s),_,I.laid (a:=(e_ s)) (o:=dDO C.w (e_ s) aq) (t':=tk) kk (Zi _) ⟨⟨fw,beq_eq_false_iff_ne.mpr (ZV (Zt I.big)),_,r2,o,es,ep,yx,h2,h3,?_,h5⟩,⟨o,yx⟩,?_⟩,rfl,?_⟩
    ·rw[h4,<-c.w];rfl
    ·rintro g1 g2 ⟨z1,z2,ws,z3,o',es',c5,z4,z5⟩ keep;exact⟨z1,z2,ws,z3,o',es',c5,keep _ z4,z5⟩
    ·exact po (φ++[(e_ s)]) (.ref _) _ (y0k _ _) (Kp.new fr) (rh.new fr ⟨_,bX,RKd.mono (y0k _ _) (Kp.new fr) r1⟩) ⟨_,rfl,by rw[<-rh.len];simp⟩
   ·exact po.elim
  ·exact po.elim
 ·exact po.elim
end
def lpN(m:Nat):Nat->Nat×Nat->Nat×Nat
 |0,x=>x
 |n+1,x=>lpN m n (SetTable.leap m x.1 x.2)
structure Xf(t:y1s)(n:Nat):Prop where
 lim:t.mask=7/\n<=4\/t.mask=31/\n<=18\/t.mask=127/\n<=76
 dum:t.dummies=#[]
 sz:t.place.size=n
structure Go(t:y1s)(p:SetTable.Probe)(L:Nat):Prop where
 more:p.more<=9
 dum:p.dummy=none
 emp:t.slot (lpN t.mask L (p.i,p.perturb)).1=.empty
 zero:L=0->p.j=p.i
def getD_none{α:Type}{o:Array (D_ α)}{j:Nat}{x:α}(h:(o.getD j (a_ x)).isNone=true):o[j]?=a_ b_:=by
 by_cases q:j<o.size
 ·have e:o.getD j (a_ x)=o[j]:=by simp[y27,q]
  rw[e]at h;rw[ZG q,Option.isNone_iff_eq_none.mp h]
 ·have e:o.getD j (a_ x)=a_ x:=by simp[y27,q]
  rw[e]at h;cases h
structure Own(m:Nat)(o:Array (D_ Nat))(k:Nat):Prop where
 sz:o.size=m+1
 pm:(o.toList.filterMap id).Perm (ZD k)
section
variable{prog:z_}{w:y_}{A:w_}{E:f_ 0}{s:t_}{a:u_}
def sub_tuple_tuple:isSubtype (.type "tuple") (.type "tuple")=pure true:=isSubtype_tuple_tuple
end
end L2
namespace K45
open PySem L2
local macro_rules|`(q_ $x)=>`(mC (.int $x))
noncomputable section
def Gj:Ms:=
 (bD (cY 2 (aG cN (mV 2) (aG vAt (mV 1) (aG fO (mV 3) (q_ 26)))))
  (cY 3 (aG cN (aG oZ (mV 3) (q_ 26)) (aG FQ (q_ 7) (mV 4)))))
def Ii:Ms:=
 (bD (cY 1 (mC (.str "abcdefghijklmnopqrstuvwxyz")))
 (bD (cY 2 (mC (.str "")))
 (bD (cY 3 (aG oZ (mV 0) (q_ 8)))
 (bD (kJ (FU (aA (aG cN (q_ 1) (aG fO (mV 0) (q_ 8))) aD)) (gN 4) Gj)
 (dR (mV 2))))))
def EC:Fn:=mFn 5 Ii
def jG:Ms:=(uE "kept" (mV 0) Bi)
def bZ:Fn:=mFn 1 jG
def jH:Ms:=(uE "standing" (mV 0) (eY aD))
def cA:Fn:=mFn 1 jH
def kO:Ms:=
 (bD (uE "signs" (mV 0) (nF "Signs" 0 bZ aD))
 (uE "marks" (mV 0) (nF "Marks" 0 cA aD)))
def cT:Fn:=mFn 1 kO
def uS:Ms:=
 (bD (Ap (mV 0) (gTp 2 (gCn (gN 2) (gCn (gN 3) gNl))))
 (bD (Ap (mV 1) (gTp 2 (gCn (gN 4) (gCn (gN 5) gNl))))
 (dR (aG cN (mV 2) (bH (aA (bH (aA (mV 3) (aA (mV 4) (aA (mV 5) (aA (q_ 0) aD))))) aD))))))
def mE:Fn:=mFn 6 uS
def uG:Ms:=(gK (mMt isL (onL fD) (mV 11) (aA (aG cN (aG vAt (mV 11) (aG K9 (mV 12) (q_ 1))) (bH (aA (bH (aA (q_ 1) (aA (mV 9) (aA (mV 10) (aA (mV 12) aD))))) aD))) aD)))
def rV:Ms:=
 (bD (Ap (mV 0) (gTp 3 (gCn (gN 1) (gCn (gN 2) (gCn (gN 3) gNl)))))
 (bD (Ap (mV 3) (gTp 5 (gCn (gN 4) (gCn (gN 5) (gCn (gN 6) (gCn (gN 7) (gCn (gN 8) gNl)))))))
 (bD (Ap (mV 1) (gTp 2 (gCn (gN 9) (gCn (gN 10) gNl))))
 (bD (cY 11 (eY (aA (eW 2 mE (aA (bH (aA (mV 6) (aA (mV 7) aD))) (aA (mV 1) aD))) aD)))
 (bD (kJ (J3 (aA (q_ 1) (aA (mCB pB (aA (mV 8) aD)) aD))) (gN 12) uG)
 (dR (mV 11)))))))
def kE:Fn:=mFn 13 rV
def qW:Ms:=(DE (mV 4) (mUn (dS "kept") (mV 0)) (mV 3))
def nM:Ms:=
 (bD (cY 2 (aG vAt (aG vAt (mV 1) (q_ 2)) (q_ 4)))
 (kJ (PP (aA (eW 1 kE (aA (mV 1) aD)) (aA (mV 2) aD))) (gTp 2 (gCn (gN 3) (gCn (gN 4) gNl))) qW))
def dO:Fn:=mFn 5 nM
def zB:Ms:=(dR (aG cN (mV 0) (bH (aA (bH (aA (q_ 0) aD)) aD))))
def gW:Fn:=mFn 1 zB
def uT:Ms:=(dR (eW 1 gW (aA (aG vAt (mV 0) (q_ 0)) aD)))
def fS:Fn:=mFn 1 uT
def nN:Ms:=
 (fV (dQ (aG Kj (mV 3) (mUn (dS "kept") (mV 0))))
   (gK (mMt isL (onL fD) (mV 2) (aA (bH (aA (mV 3) (aA (mMt qU DJ (mUn (dS "kept") (mV 0)) (aA (mV 3) aD)) aD))) aD)))
   iA)
def rW:Ms:=
 (bD (cY 2 (eY aD))
 (bD (kJ (dE (mV 1)) (gN 3) nN)
 (dR (pK fS false 2 (mV 2)))))
def fB:Fn:=mFn 4 rW
def pL:Ms:=
 (bD (Ap (mV 1) (gTp 3 (gCn (gN 2) (gCn (gN 3) (gCn (gN 4) gNl)))))
 (fV (dQ (aG lJ (mV 2) (eZ [b_] (dE (mUn (dS "standing") (mV 0))) (gN 0) nD (aG vAt (mV 0) (q_ 0)))))
  (gK (mMt isL (onL fD) (mUn (dS "standing") (mV 0)) (aA (bH (aA (mV 2) (aA (aG vAt (mV 4) (q_ 2)) (aA (aG vAt (mV 4) (q_ 3)) (aA (aG vAt (mV 4) (q_ 4)) (aA (bH aD) aD)))))) aD)))
  iA))
def eM:Fn:=mFn 5 pL
def BL:Ms:=
 (fV (dQ (aG vEq (mV 2) (aG vAt (mV 1) (q_ 0))))
   (dR (aG vLe (aG vAt (mV 1) (q_ 1)) (mV 3)))
   iA)
def BM:Ms:=
 (bD (kJ (dE (mV 0)) (gTp 2 (gCn (gN 2) (gCn (gN 3) gNl))) BL)
 (dR (mC (.bl false))))
def rX:Fn:=mFn 4 BM
def EE:Ms:=
 (bD (Ap (mV 0) (gTp 5 (gCn (gN 2) (gCn (gN 3) (gCn (gN 4) (gCn (gN 5) (gCn (gN 6) gNl)))))))
 (bD (Ap (mV 1) (gTp 3 (gCn (gN 7) (gCn (gN 8) (gCn (gN 9) gNl)))))
 (bD (fV (Ef (dQ (aG vNe (mV 5) (aG vAt (mV 9) (q_ 4)))) (wC (dQ (eW 2 rX (aA (mV 8) (aA (mV 2) aD))))))
  (dR (mV 0))
  iA)
 (dR (bH (aA (mV 2) (aA (mV 3) (aA (mV 4) (aA (mV 5) (aA (aG cN (mV 6) (bH (aA (bH (aA (aG vAt (mV 9) (q_ 2)) (aA (aG vAt (mV 9) (q_ 3)) aD))) aD))) aD))))))))))
def tO:Fn:=mFn 10 EE
def nO:Ms:=(uE "standing" (mV 0) (eZ [b_,a_ 1] (dE (mUn (dS "standing") (mV 0))) (gN 0) nD (eW 2 tO (aA (mV 0) (aA (mV 1) aD)))))
def dP:Fn:=mFn 2 nO
def mG:Str->D_ Fn:=λ(z:Str)=>if z=("Signs" : Str) then a_ dO else(λ_=>b_) z
def mH:Str->D_ Fn:=λ(z:Str)=>if z=("Signs" : Str) then a_ fB else(λ_=>b_) z
def mI:Str->D_ Fn:=λ(z:Str)=>if z=("Marks" : Str) then a_ eM else(λ_=>b_) z
def mJ:Str->D_ Fn:=λ(z:Str)=>if z=("Marks" : Str) then a_ dP else(λ_=>b_) z
def rY:Ms:=
 (bD (cY 2 (aG vAt (aG vAt (mV 1) (q_ 2)) (q_ 0)))
 (fV (dQ (aG vEq (mV 2) (mC (.str "write"))))
  (gK (bA "write" 1 mG (mUn (dS "signs") (mV 0)) (aA (mV 1) aD)))
  (fV (dQ (aG vEq (mV 2) (mC (.str "cut"))))
   (gK (bA "cut" 1 mH (mUn (dS "signs") (mV 0)) (aA (aG vAt (aG vAt (mV 1) (q_ 2)) (q_ 2)) aD)))
   (fV (dQ (aG vEq (mV 2) (mC (.str "mark"))))
    (gK (bA "mark" 1 mI (mUn (dS "marks") (mV 0)) (aA (mV 1) aD)))
    (fV (dQ (aG vEq (mV 2) (mC (.str "clear"))))
     (gK (bA "clear" 1 mJ (mUn (dS "marks") (mV 0)) (aA (mV 1) aD)))
     iA)))))
def cU:Fn:=mFn 3 rY
def pM:Ms:=(uE "standing" (mV 0) (eZ [b_] (dE (mV 1)) (gN 0) nD (aG cN (mSl (mV 0) Eg (mP (q_ 4))) (bH (aA (mCB nL (aA (aG vAt (mV 0) (q_ 4)) aD)) aD)))))
def cO:Fn:=mFn 2 pM
def pN:Ms:=(uE "kept" (mV 0) (mCB BK (aA (mV 1) aD)))
def cG:Fn:=mFn 2 pN
def mK:Str->D_ Fn:=λ(z:Str)=>if z=("Marks" : Str) then a_ cO else(λ(z:Str)=>if z=("Signs" : Str) then a_ cG else(λ_=>b_) z) z
def mL:Str->D_ Fn:=λ(z:Str)=>if z=("Marks" : Str) then a_ cO else(λ(z:Str)=>if z=("Signs" : Str) then a_ cG else(λ_=>b_) z) z
def rZ:Ms:=
 (bD (Ap (mV 1) (gTp 2 (gCn (gN 2) (gCn (gN 3) gNl))))
 (bD (gK (bA "fill" 1 mK (mUn (dS "signs") (mV 0)) (aA (mV 2) aD)))
 (gK (bA "fill" 1 mL (mUn (dS "marks") (mV 0)) (aA (mV 3) aD)))))
def eN:Fn:=mFn 4 rZ
def EF:Ms:=
 (bD (cY 2 (aG fO (aG FQ (aG cN (aG cN (mV 0) (aG FQ (q_ 7919) (mV 1))) (q_ 1)) (q_ 48271)) (q_ 2147483647)))
 (dR (aG fO (aG FQ (mV 2) (aG cN (aG oZ (mV 2) (q_ 1009)) (q_ 69621))) (q_ 2147483647))))
def tP:Fn:=mFn 3 EF
def uU:Str->D_ Fn:=λ(z:Str)=>if z=("Signs" : Str) then a_ dO else(λ_=>b_) z
def uV:Str->D_ Fn:=λ(z:Str)=>if z=("Signs" : Str) then a_ fB else(λ_=>b_) z
def uW:Str->D_ Fn:=λ(z:Str)=>if z=("Marks" : Str) then a_ eM else(λ_=>b_) z
def uX:Str->D_ Fn:=λ(z:Str)=>if z=("Marks" : Str) then a_ dP else(λ_=>b_) z
def EG:Ms:=
 (bD (cY 3 (aG vAt (aG vAt (mV 2) (q_ 2)) (q_ 0)))
 (bD (fV (dQ (aG vEq (mV 3) (mC (.str "write"))))
  (gK (bA "write" 1 uU (mV 0) (aA (mV 2) aD)))
  iA)
 (bD (fV (dQ (aG vEq (mV 3) (mC (.str "cut"))))
  (gK (bA "cut" 1 uV (mV 0) (aA (aG vAt (aG vAt (mV 2) (q_ 2)) (q_ 2)) aD)))
  iA)
 (bD (fV (dQ (aG vEq (mV 3) (mC (.str "mark"))))
  (gK (bA "mark" 1 uW (mV 1) (aA (mV 2) aD)))
  iA)
 (fV (dQ (aG vEq (mV 3) (mC (.str "clear"))))
  (gK (bA "clear" 1 uX (mV 1) (aA (mV 2) aD)))
  iA)))))
def AD:Fn:=mFn 4 EG
def Nf:Ms:=
 (bD (cY 2 (eW 2 tP (aA (mV 0) (aA (q_ 1) aD))))
 (bD (cY 3 (aG fO (mV 0) (q_ 8)))
 (bD (fV (Ef (dQ (aG vLt (mV 3) (q_ 3))) (dQ (aG vEq (mV 1) (eY aD))))
  (bD (cY 4 (aG vAt (aG cN (eY (aA (bH aD) aD)) (mV 1)) (aG fO (aG oZ (mV 2) (q_ 2)) (aG cN (mCB pB (aA (mV 1) aD)) (q_ 1)))))
  (bD (cY 5 (aG K9 (aG FQ (aG fO (mV 2) (q_ 2)) (q_ 2)) (q_ 1)))
  (bD (fV (dQ (aG vEq (mV 4) (bH aD)))
   (cY 5 (q_ 1))
   iA)
  (dR (bH (aA (mC (.str "write")) (aA (bH (aA (mC (.str "t")) (aA (q_ 1) aD))) (aA (mV 4) (aA (mV 5) (aA (mSl (mC (.str "ab Z~9,!")) (mP (aG fO (aG oZ (mV 2) (q_ 5)) (q_ 6))) (mP (aG cN (aG cN (aG fO (aG oZ (mV 2) (q_ 5)) (q_ 6)) (q_ 1)) (aG fO (aG oZ (mV 2) (q_ 30)) (q_ 2))))) aD))))))))))
  iA)
 (bD (cY 6 (aG vAt (mV 1) (aG fO (aG oZ (mV 2) (q_ 7)) (mCB pB (aA (mV 1) aD)))))
 (bD (cY 7 (aG vAt (mV 1) (aG fO (aG oZ (mV 2) (q_ 101)) (mCB pB (aA (mV 1) aD)))))
 (bD (fV (dQ (aG vEq (mV 3) (q_ 3)))
  (dR (bH (aA (mC (.str "cut")) (aA (bH (aA (mC (.str "t")) (aA (q_ 1) aD))) (aA (mCB nL (aA (mSl (eY (aA (mV 6) (aA (mV 7) aD))) Eg (mP (aG cN (q_ 1) (aG fO (mV 2) (q_ 2))))) aD)) aD)))))
  iA)
 (bD (fV (dQ (aG vLt (mV 3) (q_ 6)))
  (dR (bH (aA (mC (.str "mark")) (aA (bH (aA (mC (.str "t")) (aA (q_ 1) aD))) (aA (mV 6) (aA (mV 7) (aA (aG vAt (eY (aA (mC (.str "a")) (aA (mC (.str "ab")) (aA (mC (.str "b")) aD)))) (aG fO (mV 2) (q_ 3))) aD)))))))
  iA)
 (bD (fV (dQ (aG vEq (mV 3) (q_ 6)))
  (dR (bH (aA (mC (.str "clear")) (aA (bH (aA (mC (.str "t")) (aA (q_ 1) aD))) (aA (mV 6) (aA (mV 7) (aA (aG vAt (eY (aA (mC (.str "a")) (aA (mC (.str "ab")) (aA (mC (.str "b")) aD)))) (aG fO (mV 2) (q_ 3))) aD)))))))
  iA)
 (dR (aG vAt (eY (aA (bH (aA (mC (.str "add")) (aA (bH (aA (mC (.str "t")) (aA (q_ 1) aD))) (aA (q_ 5) aD)))) (aA (bH (aA (mC (.str "put")) (aA (bH (aA (mC (.str "t")) (aA (q_ 1) aD))) (aA (aG fO (mV 0) (aG Sg (q_ 10) (q_ 39))) aD)))) (aA (bH (aA (mC (.str "settle")) aD)) (aA (bH (aA (mC (.str "choose")) (aA (bH (aA (mC (.str "t")) (aA (q_ 1) aD))) (aA (q_ 1) aD)))) aD))))) (aG fO (mV 2) (q_ 4))))))))))))
def Jj:Fn:=mFn 8 Nf
def pO:Ms:=(dR (eZ [b_] (dE (mUn (dS "standing") (mV 0))) (gN 0) nD (aG cN (mSl (mV 0) Eg (mP (q_ 4))) (bH (aA (mCB lL (aA (aG vAt (mV 0) (q_ 4)) aD)) aD)))))
def aY:Fn:=mFn 1 pO
def pP:Ms:=(dR (pK fS false 2 (Ej qU tN (mUn (dS "kept") (mV 0)))))
def aX:Fn:=mFn 1 pP
def wQ:Ms:=(gK (mMt qU tI (mV 1) (aA (mV 2) (aA (mCB G2 (aA (mV 1) aD)) aD))))
def uY:Ms:=
 (bD (cY 1 Bi)
 (bD (kJ (dE (pK gW false 2 (mV 0))) (gN 2) wQ)
 (dR (mV 1))))
def pQ:Fn:=mFn 3 uY
def uZ:Ms:=(dR (aG cN (eY (aA (bH (aA (aG vAt (mV 0) (q_ 1)) (aA (aG vAt (mV 0) (q_ 2)) aD))) aD)) (mCB lL (aA (aG vAt (mV 0) (q_ 4)) aD))))
def eP:Fn:=mFn 1 uZ
def sA:Ms:=
 (bD (DE (mC (.bl true)) (mV 1) (mV 3))
   (DE (mC (.bl true)) (mV 1) (mV 4)))
def mM:Ms:=(kJ (dE (eW 1 eP (aA (mV 2) aD))) (gTp 2 (gCn (gN 3) (gCn (gN 4) gNl))) sA)
def pR:Ms:=
 (bD (cY 1 Bi)
 (bD (kJ (dE (mUn (dS "standing") (mV 0))) (gN 2) mM)
 (dR (mCB lL (aA (mV 1) aD)))))
def fG:Fn:=mFn 5 pR
def EH:Ms:=
 (bD (cY 2 (eZ [b_,b_,a_ 1] (dE (mV 0)) (gTp 2 (gCn (gN 0) (gCn (gN 1) gNl))) nD (Kc vLe vLe (mV 0) (mV 2) (mV 1))))
 (dR (Bh (aG vAt (mV 2) (q_ 0)) (IY (mCB Mu (aA (mSl (mV 2) (mP (q_ 1)) Eg) aD))))))
def wR:Fn:=mFn 3 EH
def dH:Str->D_ Fn:=λ(z:Str)=>if z=("Marks" : Str) then a_ fG else(λ_=>b_) z
def iZ:Ms:=(gK (mMt isL (onL fD) (mV 3) (aA (bH (aA (aG vAt (mV 4) (q_ 3)) (aA (eZ [b_,b_,a_ 2] (dE (eW 1 eP (aA (mV 4) aD))) (gTp 2 (gCn (gN 0) (gCn (gN 1) gNl))) nD (bH (aA (aG vAt (mV 2) (mV 0)) (aA (aG vAt (mV 2) (mV 1)) aD)))) aD))) aD)))
def jA:Ms:=
 (bD (cY 7 (aG vAt (mV 2) (mV 6)))
  (gK (mMt isL (onL fD) (mV 5) (aA (mUn oO (eZ [b_,b_,a_ 7] (dE (mV 3)) (gTp 2 (gCn (gN 0) (gCn (gN 1) gNl))) (dQ (eW 2 wR (aA (mV 1) (aA (mV 2) aD)))) (mV 0))) aD))))
def gL:Ms:=
 (bD (cY 2 (eW 1 pQ (aA (aG cN (mV 1) (bA "ends" 0 dH (mV 0) aD)) aD)))
 (bD (cY 3 (eY aD))
 (bD (kJ (dE (mUn (dS "standing") (mV 0))) (gN 4) iZ)
 (bD (cY 5 (eY aD))
 (bD (kJ (dE (mV 1)) (gN 6) jA)
 (dR (mV 5)))))))
def bB:Fn:=mFn 8 gL
def fY:Str->D_ Fn:=λ(z:Str)=>if z=("Marks" : Str) then a_ aY else(λ(z:Str)=>if z=("Signs" : Str) then a_ aX else(λ_=>b_) z) z
def nP:Ms:=(dR (eZ [b_,b_] (dE (bA "rows" 0 fY (mUn (dS "signs") (mV 0)) aD)) (gTp 2 (gCn (gN 0) (gCn (gN 1) gNl))) nD (mV 0)))
def eQ:Fn:=mFn 1 nP
def mN:Str->D_ Fn:=λ(z:Str)=>if z=("Marks" : Str) then a_ bB else(λ_=>b_) z
def iL:Str->D_ Fn:=λ(z:Str)=>if z=("Text" : Str) then a_ eQ else(λ_=>b_) z
def iM:Str->D_ Fn:=λ(z:Str)=>if z=("Marks" : Str) then a_ aY else(λ(z:Str)=>if z=("Signs" : Str) then a_ aX else(λ_=>b_) z) z
def sC:Ms:=
 (bD (cY 1 (bA "words_along" 1 mN (mUn (dS "marks") (mV 0)) (aA (bA "places" 0 iL (mV 0) aD) aD)))
 (dR (eZ [b_,b_,a_ 1] (mEn (aA (bA "rows" 0 iM (mUn (dS "signs") (mV 0)) aD) aD)) (gTp 2 (gCn (gN 0) (gCn (gN 1) gNl))) nD (bH (aA (aG vAt (mV 1) (q_ 0)) (aA (aG vAt (mV 1) (q_ 1)) (aA (aG vAt (mV 2) (mV 0)) aD)))))))
def eO:Fn:=mFn 2 sC
def iN:Str->D_ Fn:=λ(z:Str)=>if z=("Marks" : Str) then a_ aY else(λ(z:Str)=>if z=("Signs" : Str) then a_ aX else(λ_=>b_) z) z
def iO:Str->D_ Fn:=λ(z:Str)=>if z=("Marks" : Str) then a_ aY else(λ(z:Str)=>if z=("Signs" : Str) then a_ aX else(λ_=>b_) z) z
def mO:Ms:=(dR (bH (aA (bA "rows" 0 iO (mUn (dS "signs") (mV 0)) aD) (aA (bA "rows" 0 iN (mUn (dS "marks") (mV 0)) aD) aD))))
def cP:Fn:=mFn 1 mO
def eR:Str->D_ Fn:=λ(z:Str)=>if z=("Marks" : Str) then a_ bB else(λ_=>b_) z
def jI:Ms:=(dR (aG vAt (bA "words_along" 1 eR (mV 0) (aA (eY (aA (mV 1) aD)) aD)) (q_ 0)))
def dU:Fn:=mFn 2 jI
def vA:Str->D_ Fn:=λ(z:Str)=>if z=("Marks" : Str) then a_ aY else(λ(z:Str)=>if z=("Signs" : Str) then a_ aX else(λ_=>b_) z) z
def pS:Str->D_ Fn:=λ(z:Str)=>if z=("Marks" : Str) then a_ dU else(λ_=>b_) z
def BN:Str->D_ Fn:=λ(z:Str)=>if z=("Text" : Str) then a_ eO else(λ_=>b_) z
def BO:Str->D_ Fn:=λ(z:Str)=>if z=("Text" : Str) then a_ cP else(λ_=>b_) z
def vB:Str->D_ Fn:=λ(z:Str)=>if z=("Marks" : Str) then a_ aY else(λ(z:Str)=>if z=("Signs" : Str) then a_ aX else(λ_=>b_) z) z
def DL:Ms:=(gK (mMt isL (onL fD) (aG vAt (mV 7) (q_ 2)) (aA (mC (.str "z")) aD)))
def DM:Ms:=(gK (mMt isL (onL fD) (aG vAt (mV 7) (q_ 4)) (aA (bH (aA (mV 3) (aA (mV 3) aD))) aD)))
def EI:Ms:=
 (bD (cY 3 (bA "rows" 0 vA (mV 1) aD))
 (bD (cY 4 (eZ [b_,b_,a_ 2] (dE (mV 3)) (gTp 2 (gCn (gN 0) (gCn (gN 1) gNl))) nD (bH (aA (mV 0) (aA (mV 1) (aA (bA "words_at" 1 pS (mV 2) (aA (mV 0) aD)) aD))))))
 (bD (cY 5 (bA "told" 0 BN (mV 0) aD))
 (bD (cY 6 (bA "content" 0 BO (mV 0) aD))
 (bD (fV (Ef (wC (dQ (mCB Bk (aA (mV 5) (aA (mC (.ty "list")) aD))))) (Ef (dQ (aG Ez (mV 5) (mV 4))) (wC (dQ (mCB Bk (aA (mV 6) (aA (mC (.ty "tuple")) aD)))))))
  (dR (mC (.bl false)))
  iA)
 (bD (fV (dQ (aG Ez (mV 6) (bH (aA (mV 3) (aA (bA "rows" 0 vB (mV 2) aD) aD)))))
  (dR (mC (.bl false)))
  iA)
 (bD (kJ (dE (mV 5)) (gN 7) DL)
 (bD (gK (Ej isL (onL pE) (mV 5)))
 (bD (kJ (dE (aG vAt (mV 6) (q_ 1))) (gN 7) DM)
 (bD (gK (Ej isL (onL pE) (aG vAt (mV 6) (q_ 0))))
 (dR (mC (.bl true)))))))))))))
def nG:Fn:=mFn 8 EI
def sD:Str->D_ Fn:=λ(z:Str)=>if z=("Marks" : Str) then a_ aY else(λ(z:Str)=>if z=("Signs" : Str) then a_ aX else(λ_=>b_) z) z
def sE:Str->D_ Fn:=λ(z:Str)=>if z=("Marks" : Str) then a_ aY else(λ(z:Str)=>if z=("Signs" : Str) then a_ aX else(λ_=>b_) z) z
def sF:Str->D_ Fn:=λ(z:Str)=>if z=("Marks" : Str) then a_ cO else(λ(z:Str)=>if z=("Signs" : Str) then a_ cG else(λ(z:Str)=>if z=("Text" : Str) then a_ eN else(λ_=>b_) z) z) z
def sG:Str->D_ Fn:=λ(z:Str)=>if z=("Marks" : Str) then a_ aY else(λ(z:Str)=>if z=("Signs" : Str) then a_ aX else(λ_=>b_) z) z
def sH:Str->D_ Fn:=λ(z:Str)=>if z=("Marks" : Str) then a_ aY else(λ(z:Str)=>if z=("Signs" : Str) then a_ aX else(λ_=>b_) z) z
def BP:Ms:=
 (bD (cY 4 (bA "rows" 0 sD (mV 2) aD))
 (bD (cY 5 (bH (aA (mV 4) (aA (bA "rows" 0 sE (mV 3) aD) aD))))
 (bD (gK (bA "fill" 1 sF (mV 1) (aA (mV 5) aD)))
 (bD (fV (dQ (aG Ez (mV 5) (bH (aA (bA "rows" 0 sH (mV 2) aD) (aA (bA "rows" 0 sG (mV 3) aD) aD)))))
  (dR (mC (.bl false)))
  iA)
 (bD (gK (Ej isL (onL pE) (mV 4)))
 (bD (gK (Ej isL (onL pE) (aG vAt (mV 5) (q_ 1))))
 (dR (Bh (eW 3 nG (aA (mV 0) (aA (mV 2) (aA (mV 3) aD)))) (eW 3 nG (aA (mV 1) (aA (mV 2) (aA (mV 3) aD))))))))))))
def wU:Fn:=mFn 6 BP
def BQ:Str->D_ Fn:=λ(z:Str)=>if z=("Text" : Str) then a_ cU else(λ_=>b_) z
def BR:Str->D_ Fn:=λ(z:Str)=>if z=("Text" : Str) then a_ cU else(λ_=>b_) z
def BS:Str->D_ Fn:=λ(z:Str)=>if z=("Text" : Str) then a_ cU else(λ_=>b_) z
def wV:Str->D_ Fn:=λ(z:Str)=>if z=("Marks" : Str) then a_ aY else(λ(z:Str)=>if z=("Signs" : Str) then a_ aX else(λ_=>b_) z) z
def BU:Str->D_ Fn:=λ(z:Str)=>if z=("Text" : Str) then a_ cU else(λ_=>b_) z
def BV:Str->D_ Fn:=λ(z:Str)=>if z=("Marks" : Str) then a_ cO else(λ(z:Str)=>if z=("Signs" : Str) then a_ cG else(λ(z:Str)=>if z=("Text" : Str) then a_ eN else(λ_=>b_) z) z) z
def BW:Str->D_ Fn:=λ(z:Str)=>if z=("Text" : Str) then a_ cP else(λ_=>b_) z
def BX:Str->D_ Fn:=λ(z:Str)=>if z=("Text" : Str) then a_ eO else(λ_=>b_) z
def wW:Str->D_ Bool:=λ(z:Str)=>if z=("Text" : Str) then a_ true else(λ_=>b_) z
def EJ:Ms:=
 (bD (cY 9 (bH (aA (bH (aA (mV 2) (aA (aG cN (mV 8) (q_ 3)) aD))) (aA (bH (aA (bH (aA (mV 2) (aA (aG cN (mV 8) (q_ 2)) aD))) aD)) (aA (eW 2 Jj (aA (aG vAt (mV 0) (mV 8)) (aA (mV 7) aD))) aD)))))
  (bD (gK (bA "hear" 1 BS (mV 3) (aA (mV 9) aD)))
  (bD (gK (eW 3 AD (aA (mV 5) (aA (mV 6) (aA (mV 9) aD)))))
  (bD (cY 7 (aG cN (mV 7) (eZ [b_,b_,a_ 7] (dE (bA "rows" 0 wV (mV 5) aD)) (gTp 2 (gCn (gN 0) (gCn (gN 1) gNl))) (dQ (aG lJ (mV 0) (mV 2))) (mV 0))))
  (bD (fV (IX (dQ (aG vEq (mV 8) (aG fO (mV 1) (q_ 16)))) (wC (dQ (eW 4 wU (aA (mV 3) (aA (mV 4) (aA (mV 5) (aA (mV 6) aD))))))))
   (dR (mC (.bl false)))
   iA)
  (bD (fV (dQ (aG vGt (mV 8) (aG fO (mV 1) (q_ 16))))
   (bD (gK (bA "hear" 1 BU (mV 4) (aA (mV 9) aD)))
   (fV (wC (dQ (eW 3 nG (aA (mV 4) (aA (mV 5) (aA (mV 6) aD))))))
    (dR (mC (.bl false)))
    iA))
   iA)
  (fV (wC (dQ (eW 3 nG (aA (mV 3) (aA (mV 5) (aA (mV 6) aD))))))
   (dR (mC (.bl false)))
   iA)))))))
def Ng:Ms:=
 (bD (cY 1 (q_ 0))
 (bD (fV (dQ (aG vGt (mCB pB (aA (mV 0) aD)) (q_ 0)))
  (cY 1 (aG vAt (mV 0) (q_ 0)))
  iA)
 (bD (cY 2 (eW 1 EC (aA (eW 2 tP (aA (mV 1) (aA (q_ 2) aD))) aD)))
 (bD (cY 3 (nF "Text" 0 cT aD))
 (bD (cY 4 (nF "Text" 0 cT aD))
 (bD (gK (bA "hear" 1 BQ (mV 4) (aA (bH (aA (bH (aA (mV 2) (aA (q_ 1) aD))) (aA (bH aD) (aA (bH (aA (mC (.str "write")) (aA (bH (aA (mC (.str "t")) (aA (q_ 1) aD))) (aA (bH aD) (aA (q_ 1) (aA (mC (.str "gone")) aD)))))) aD)))) aD)))
 (bD (gK (bA "hear" 1 BR (mV 4) (aA (bH (aA (bH (aA (mV 2) (aA (q_ 2) aD))) (aA (bH (aA (bH (aA (mV 2) (aA (q_ 1) aD))) aD)) (aA (bH (aA (mC (.str "mark")) (aA (bH (aA (mC (.str "t")) (aA (q_ 1) aD))) (aA (bH (aA (bH (aA (q_ 1) (aA (mV 2) (aA (q_ 1) (aA (q_ 0) aD))))) aD)) (aA (bH (aA (bH (aA (q_ 1) (aA (mV 2) (aA (q_ 1) (aA (q_ 0) aD))))) aD)) (aA (mC (.str "gone")) aD)))))) aD)))) aD)))
 (bD (cY 5 (nF "Signs" 0 bZ aD))
 (bD (cY 6 (nF "Marks" 0 cA aD))
 (bD (cY 7 (eY aD))
 (bD (kJ (FU (aA (mCB M8 (aA (mCB pB (aA (mV 0) aD)) (aA (q_ 16) aD))) aD)) (gN 8) EJ)
 (bD (gK (bA "fill" 1 BV (mV 4) (aA (bH (aA (eY aD) (aA (eY aD) aD))) aD)))
 (dR (Bh (mUn (G6 wW) (mV 3)) (Bh (aG I0 (bA "told" 0 BX (mV 4) aD) (eY aD)) (aG I0 (bA "content" 0 BW (mV 4) aD) (bH (aA (eY aD) (aA (eY aD) aD)))))))))))))))))))
def Nh:Fn:=mFn 10 Ng
end
abbrev Seen:=C_ (Str×Int)
def look:Seen->Str->D_ Int
 |[],_=>b_
 |p::r,h=>if p.1=h then a_ p.2 else look r h
def KB(p:Str×Int)(r:Seen)(h:Str):look (p::r) h=if p.1=h then a_ p.2 else look r h:=(rfl)
def emb(kvs:Seen):C_ (Key×PV):=kvs.map λp=>(.inr p.1,.int p.2)
def row(p:Str×Int):C_ Key:=[.inr p.1,.inl p.2]
def sv(S:Seen):PV:=.tup (S.map λp=>.tup [.str p.1,.int p.2])
abbrev Ni:Str:="abcdefghijklmnopqrstuvwxyz"
def Nj:Ni.cps.toList.length=26:=by decide +kernel
def KC:Ni.length=26:=by decide +kernel
def Nk:∀i:Fin 26,Ni.cps.toList[i.val]?=a_ (97+i.val):=by decide +kernel
def Nl{x:Str}:(x++(⟨#[c]⟩:Str)).length=x.length+1:=by rw[Str.length_append];rfl
def PU{i:Int}(h0:0<=i)(h1:i<26):atI Ni.cps.toList i=a_ (97+i.toNat):=by rw[J8 h0 (by rw[Nj];exact h1)];exact Nk ⟨i.toNat,⋯⟩
def app_list(x y:Str):(x++y).cps.toList=x.cps.toList++y.cps.toList:=PySem.W.KT.app_list x y
def pv(p:Str×Int):PV:=.tup [.str p.1,.int p.2]
def Vj(S:Seen):sv S=.tup (S.map pv):=rfl
structure St where
 s:Int
 h:Str
 n:Int
 k:Int
 deriving DecidableEq
local macro_rules|`(k_ 0)=>`(List (List St×Nat))
def stp(x:St):PV:=.tup [.int x.s,.str x.h,.int x.n,.int x.k]
def Jk(h:stp x=stp y):x=y:=by let⟨a,b,c,d⟩:=x;let⟨a',b',c',d'⟩:=y;simp[stp]at h;simp[h]
def pl(xs:C_ St):PV:=.tup (xs.map stp)
def zC(h:pl xs=pl ys):xs=ys:=by
 have h:xs.map stp=ys.map stp:=by simpa[pl] using h
 induction xs generalizing ys with
 |nil=>cases ys <;> simp at h⊢
 |cons x xs ih=>
  cases ys with
  |nil=>simp at h
  |cons y ys=>simp at h;rw[Jk h.1,ih (by simp[pl,h.2]) h.2]
def Jl(xs:C_ St):(pl xs).pl 40=true:=by
 show(xs.map stp).all (PV.pl 39)=true
 rw[Zy];intro p hp;let⟨x,_,rfl⟩:=Zu.mp hp;rfl
abbrev As:PV:=.tup [.int 0]
def EK(x y:St):Bool:=if x.s=y.s then(if x.h=y.h then(if x.n=y.n then decide (x.k<y.k) else decide (x.n<y.n)) else decide (x.h.cps.toList<y.h.cps.toList)) else decide (x.s<y.s)
def bef:C_ St->C_ St->Bool
 |[],[]=>false
 |[],y::_=>decide (0<=y.s)
 |x::_,[]=>decide (x.s<0)
 |x::xs,y::ys=>if x=y then bef xs ys else EK x y
def SY(n:Nat)(x y:St)(cz:x≠y):ltP (n+1) (stp x) (stp y)=a_ (EK x y):=by
 let⟨a,b,c,d⟩:=x;let⟨a',b',c',d'⟩:=y;by_cases h1:a=a'
 ·by_cases h2:b=b'
  ·by_cases h3:c=c'
   ·by_cases h4:d=d'
    ·exact absurd (by simp[h1,h2,h3,h4]) cz
    ·simp[ltP,ltL,stp,EK,h1,h2,h3,h4]
   ·simp[ltP,ltL,stp,EK,h1,h2,h3]
  ·simp[ltP,ltL,stp,EK,h1,h2]
 ·simp[ltP,ltL,stp,EK,h1]
theorem Ij(n:Nat):∀xs ys:C_ St,ltL (ltP (n+2)) (xs.map stp++[As]) (ys.map stp++[As])=a_ (bef xs ys)
 |[],[]=>by simp[ltL,bef]
 |[],y::ys=>by
  have cz:As≠stp y:=by simp[stp,As]
  simp only[List.map_nil,y2z,ZM,y2T,ltL,if_neg cz,bef];simp only[ltP,stp,ltL];by_cases h:(0:Int)=y.s
  ·simp[<-h]
  ·have:decide ((0:Int)<y.s)=decide (0<=y.s):=by rw[Z8];simp;omega
   simp[h,this]
 |x::xs,[]=>by
  have cz:stp x≠As:=by simp[stp,As]
  simp only[List.map_nil,y2z,ZM,y2T,ltL,if_neg cz,bef];simp only[ltP,stp,ltL];by_cases h:x.s=0
  ·simp[h]
  ·simp[h]
 |x::xs,y::ys=>by
  simp only[ZM,y2T,ltL,bef];by_cases h:x=y
  ·subst h;simp only[if_true];exact Ij n xs ys
  ·rw[if_neg λz=>h (Jk z),if_neg h];exact SY (n+1) x y h
def Jm(xs:C_ St)(h:PH)(hx:xs.length<=1000):gW [pl xs] h=.ok (.tup (xs.map stp++[As])) h:=by
 have w:(gW [pl xs] h).W λp h'=>p=.tup (xs.map stp++[As])/\h'=h:=by refine fW ?_;simp(disch:=first|omega|(simp;omega)) [zB,pl]
 let⟨p,h',e,rfl,rfl⟩:=dY w;exact e
def Nm{a b:Str}(h:a.cps.toList=b.cps.toList):a=b:=by
 let⟨x⟩:=a;let⟨y⟩:=b;congr 1;exact Array.toList_inj.mp h
def KD{a b:C_ Nat}(h:a<b):¬ b<a:=List.lt_asymm h
def PY{a b:C_ Nat}(h:¬ a<b)(h':¬ b<a):a=b:=List.le_antisymm h' h
def Np{x y:St}(h:x≠y):EK y x=!EK x y:=by
 let⟨a,b,c,d⟩:=x;let⟨a',b',c',d'⟩:=y;unfold EK;by_cases h1:a=a'
 ·subst h1;by_cases h2:b=b'
  ·subst h2;by_cases h3:c=c'
   ·subst h3;have h4:d≠d':=λz=>h (by rw[z]);simp;rw[Z8];simp;omega
   ·have xf:¬ c'=c:=λz=>h3 z.symm;simp[h3,xf];rw[Z8];simp;omega
  ·have b7:¬ b'=b:=λz=>h2 z.symm;have n1:b.cps.toList≠b'.cps.toList:=λz=>h2 (Nm z);simp[h2,b7];rw[Z8];simp only[decide_eq_true_eq,Bool.not_eq_true',decide_eq_false_iff_not];constructor
   ·intro z;exact KD z
   ·intro z;rcases Classical.em (b'.cps.toList<b.cps.toList) with q|q
    ·exact q
    ·exact absurd (PY z q) n1
 ·have dm:¬ a'=a:=λz=>h1 z.symm;simp[h1,dm];rw[Z8];simp;omega
theorem Gk:∀xs:C_ St,bef xs xs=false
 |[]=>rfl
 |x::xs=>by simp[bef,Gk xs]
theorem EL:∀{xs ys:C_ St},xs≠ys->bef ys xs=!bef xs ys
 |[],[],h=>absurd rfl h
 |[],y::ys,_=>by simp only[bef];rw[Z8];simp
 |x::xs,[],_=>by simp only[bef];rw[Z8];simp
 |x::xs,y::ys,h=>by
  simp only[bef];by_cases e:x=y
  ·subst e;simp only[if_true];exact EL λz=>h (by rw[z])
  ·rw[if_neg e,if_neg λz=>e z.symm];exact Np e
def PZ(h:k<=n):HT.sIx n d (a_ (k:Int))=k:=by
 show(if(k:Int)<0 then((k:Int)+(n:Int)).toNat else min (k:Int).toNat n)=k
 rw[if_neg ⋯];omega
def Nq{α:Type}{xs:C_ α}(h:n<=xs.length):yS xs (a_ (n:Int)) b_=xs.drop n:=by
 unfold yS;rw[PZ h]
 show(xs.drop n).take (xs.length-n)=_
 rw[List.take_of_length_le (by rw[List.length_drop];omega)]
def Q1(ws:C_ Str):(ws.map PV.str).all (PV.pl 39)=true:=by rw[Zy];intro y hy;let⟨q,_,rfl⟩:=Zu.mp hy;rfl
def tQ{h:PH}(e:h[n]?=a_ (.lst xs)):onL pE (.ref n) [] h=.ok .non (h.set n (.lst [])):=by simp[onL,iD,e,pE]
def rk(xs:C_ St):PV:=.tup (xs.map stp++[As])
def inB(p:C_ St)(s:C_ St×C_ St):Bool:=!bef p s.1 && !bef s.2 p
structure Mrk where
 nm:Str×Int
 f:C_ St
 l:C_ St
 w:Str
 hs:C_ (C_ St×C_ St)
def spn(m:Mrk):C_ (C_ St×C_ St):=(m.f,m.l)::m.hs
def sp(p:C_ St×C_ St):PV:=.tup [pl p.1,pl p.2]
def mkV(m:Mrk):PV:=.tup [pv m.nm,pl m.f,pl m.l,.str m.w,.tup (m.hs.map sp)]
def brs(p:C_ St)(m:Mrk):Bool:=inB p (m.f,m.l) && !(m.hs.any (inB p))
def Gm(m:Mrk)(hz:m.hs.length<=1000)(h:PH)(Q:PV->PH->Prop)(k:∀n h',Ext h h'->h.length<=n->h'[n]?=a_ (.lst ((spn m).map sp))->Q (.ref n) h'):(eP [mkV m] h).W Q:=by
 refine fW ?_;unfold uZ;have g1:(h++[MO.lst [PV.tup [pl m.f,pl m.l]]])[h.length]?=a_ (.lst [PV.tup [pl m.f,pl m.l]]):=aU;have x1:Ext h (h++[MO.lst [PV.tup [pl m.f,pl m.l]]]):=Ext.app _ _;have lv:∀h:PH,lL [.tup (m.hs.map sp)] h=.ok (.ref h.length) (h++[.lst (m.hs.map sp)]):=λh=>rfl;have a1:∀h,vIx (mkV m) (.int 1) h=.ok (pl m.f) h:=λh=>by unfold mkV;simp
 have a2:∀h,vIx (mkV m) (.int 2) h=.ok (pl m.l) h:=λh=>by unfold mkV;simp
 have a4:∀h,vIx (mkV m) (.int 4) h=.ok (.tup (m.hs.map sp)) h:=λh=>by unfold mkV;simp
 simp[a1,a2,a4];generalize h++[MO.lst [PV.tup [pl m.f,pl m.l]]]=hA at x1 g1;rw[lv hA];have g2:(hA++[MO.lst (m.hs.map sp)])[hA.length]?=a_ (.lst (m.hs.map sp)):=aU;have xr:=Ext.app hA [MO.lst (m.hs.map sp)] _ _ g1;have x2:Ext h (hA++[MO.lst (m.hs.map sp)]):=x1.trans (Ext.app _ _);simp only[Rs.bind_ok,iX];generalize hA++[MO.lst (m.hs.map sp)]=hB at x2 xr g2;have vp:=tL xr g2 (by simp;omega);simp[vp];exact k _ _ (x2.trans (Ext.app _ _)) x2.len aU
def Q2{h1:PH}{g:PH->Bool}{α:Type}{tst:Ev->PH->Rs Bool}{ys:C_ α}{emb:α->PV}{Q:PV->PH->Prop}(p:α->Bool)(f:α->PV)(e:mi δ h=.ok ⟨ys.map emb,g⟩ h1)(hg:∀h,Ext h1 h->g h=true)(hz:ys.length<=16777216)(step:∀y∈ys,∃δ1,tg (emb y) (kK js δ)=a_ δ1/\(∀h,Ext h1 h->∀Q:Bool->PH->Prop,(∀h',Ext h h'->Q (p y) h')->(tst δ1 h).W Q)/\∀h,Ext h1 h->elt δ1 h=.ok (f y) h)(k:∀l h',Ext h1 h'->h1.length<=l->h'[l]?=a_ (.lst ((ys.filter p).map f))->Q (.ref l) h'):(eZ js mi tg tst elt δ h).W Q:=by
 unfold eZ;rw[e,Rs.bind_ok];refine AC (λi h'=>Ext h1 h'/\h'[h1.length]?=a_ (.lst (((ys.take i).filter p).map f))) (ys.map emb) 0 _ ⟨Ext.app _ _,by simp⟩ (λi x h' _ hx hi=>?_) (λh' hi=>?_)
 ·let⟨x1,g1⟩:=hi;have hx:(ys.map emb)[i]?=a_ x:=by simpa using hx
  rw[Zr]at hx;let⟨y,hy,rfl⟩:=Zw.mp hx;have lg:=(Zc.mp hy).1;let⟨δ1,ht,hs,he⟩:=step y (ZP hy);have htk:ys.take (i+1)=ys.take i++[y]:=by rw[y0L,hy];rfl
  refine⟨hg _ x1,δ1,ht,?_⟩;refine hs h' x1 _ λh2 x2=>?_;cases ep:p y with
  |true=>
   rw[if_pos rfl,he h2 (x1.trans x2),iX];refine⟨_,x2 _ _ g1,?_,(x1.trans x2).setN (Zi _),?_⟩
   ·have:=y1R p (ys.take i);rw[y0R]at this;rw[Zg];omega
   ·rw[gU (x2 _ _ g1),htk,List.filter_append,Z4];simp[ep]
  |false=>rw[if_neg (by simp)];refine⟨x1.trans x2,?_⟩;rw[x2 _ _ g1,htk,List.filter_append];simp[ep]
 ·let⟨x1,g1⟩:=hi;refine⟨hg _ x1,k _ _ x1 (Zi _) ?_⟩;rw[Nat.zero_add,Zg,y0U]at g1;exact g1
def prI(s:Int×Int):PV:=.tup [.int s.1,.int s.2]
def inI(n:Int)(s:Int×Int):Bool:=decide (s.1<=n)&&decide (n<=s.2)
def Nr{ss:C_ (Int×Int)}{h:PH}(g:h[r]?=a_ (.lst ((s0::ss).map prI)))(n:Int)(hz:ss.length<=1000)(Q:PV->PH->Prop)(k:∀h',Ext h h'->Q (.bl (inI n s0 && !ss.any (inI n))) h'):(wR [.ref r,.int n] h).W Q:=by
 refine fW ?_;unfold EH;have hc:=mB (m:=mV 0) (n:=r) (js:=[b_,b_,a_ 1]) (tg:=gTp 2 (gCn (gN 0) (gCn (gN 1) gNl))) (tst:=nD) (elt:=Kc vLe vLe (mV 0) (mV 2) (mV 1)) (δ:=[c_ r,d_ n,b_]) (h:=h) (h1:=h) (ys:=s0::ss) (emb:=prI)
  (λs=>a_ (.bl (inI n s))) (by simp) g (by simp;omega) (λs hs=>⟨[d_ s.1,d_ s.2,d_ n],by simp[kK,prI],λh _=>by
   refine⟨rfl,?_⟩;by_cases e:s.1<=n
   ·simp[e,inI]
   ·simp[e,inI]⟩)
 have em:(s0::ss).filterMap (λs=>a_ (PV.bl (inI n s)))=((s0::ss).map (inI n)).map PV.bl:=by rw[Z7];exact y1m (f:=λs=>PV.bl (inI n s))▸rfl
 rw[em]at hc;have x1:Ext h (h++[MO.lst (((s0::ss).map (inI n)).map PV.bl)]):=Ext.app _ _;have g1:(h++[MO.lst (((s0::ss).map (inI n)).map PV.bl)])[h.length]?=a_ (.lst (((s0::ss).map (inI n)).map PV.bl)):=aU;rw[aQ,qa_ 3 [PV.ref r,PV.int n] [c_ r,d_ n,b_]]
 simp only[qT,hc,iX,y0r,y0s];generalize h++[MO.lst (((s0::ss).map (inI n)).map PV.bl)]=hA at x1 g1;generalize h.length=li at g1;clear hc em;refine now ?_;have v0:vIx (.ref li) (.int 0) hA=.ok (.bl (inI n s0)) hA:=by rw[jW g1];simp
 have vs:vSl (.ref li) (a_ 1) b_ hA=.ok (.ref hA.length) (hA++[.lst ((ss.map (inI n)).map PV.bl)]):=by
  rw[Ja g1];congr 4;have:=Nq (xs:=((s0::ss).map (inI n)).map PV.bl) (n:=1) (by simp);simpa using this
 have va:=Mv (h:=hA++[.lst ((ss.map (inI n)).map PV.bl)]) (n:=hA.length) (ns:=ss.map (inI n)) aU;cases e:inI n s0 with
 |false=>rw[e]at v0;simp[v0];have:=k hA x1;rw[e]at this;exact this
 |true=>
  rw[e]at v0;have ea:(ss.map (inI n)).any id=ss.any (inI n):=by simp[List.any_map,Function.comp_def]
  have:=k _ (x1.trans (Ext.app hA [.lst ((ss.map (inI n)).map PV.bl)]));rw[e,<-ea]at this;generalize ss.map (inI n)=bs at vs va this;cases eb:bs.any id with
  |true=>rw[eb]at va this;simp[v0,vs,va];exact this
  |false=>rw[eb]at va this;simp[v0,vs,va];exact this
def wX(p:C_ St):(PV.tup (p.map stp)).ky 6=true:=by
 show(p.map stp).all (PV.ky 5)=true
 rw[y1j];exact Zy.mpr λy _=>rfl
def kF(es:C_ (C_ St))(p:C_ St):C_ (C_ St):=if p∈es then es else es++[p]
def BY:x∈kF es p↔x∈es\/x=p:=by
 unfold kF;split
 ·rename_i h;exact⟨.inl,λz=>z.elim id λe=>e▸h⟩
 ·simp
def EM{es:C_ (C_ St)}(h:es.Nodup):(kF es p).Nodup:=by
 unfold kF;split
 ·exact h
 ·rename_i hp;rw[y1b];exact⟨h,by simp,λa ha b hb=>by simp at hb;subst hb;exact λz=>hp (z▸ha)⟩
def Jn(f:C_ St->PV)(es:C_ (C_ St))(p:C_ St):cF (es.map λp=>(pl p,f p)) (pl p)=if p∈es then a_ (f p) else b_:=by
 induction es with
 |nil=>rfl
 |cons e es ih=>
  show(if pl e=pl p then a_ (f e) else cF (es.map λp=>(pl p,f p)) (pl p))=_
  by_cases h:e=p
  ·subst h;simp
  ·rw[if_neg λz=>h (zC z),ih];have:(p∈e::es)↔p∈es:=⟨λz=>(Zs.mp z).elim (λq=>absurd q.symm h) id,λz=>Zh _ z⟩;simp only[this]
def ED(es:C_ (C_ St)):C_ (PV×PV):=es.map λp=>(pl p,.bl true)
def Nt(es:C_ (C_ St))(p:C_ St):jF (ED es) (pl p) (.bl true)=ED (kF es p):=by
 unfold jF;rw[show cF (ED es) (pl p)=_ from Jn (λ_=>.bl true) es p]
 unfold kF ED;by_cases h:p∈es
 ·simp only[if_pos h,Option.isSome_some,if_true,Z7];refine y0W λx _=>?_;simp only[Function.comp];split <;> rfl
 ·simp[h]
def stE(es:C_ (C_ St))(s:C_ St×C_ St):C_ (C_ St):=kF (kF es s.1) s.2
def EN(ss:C_ (C_ St×C_ St)):C_ (C_ St):=ss.foldl stE []
theorem Ik:∀(ss:C_ (C_ St×C_ St))(es:C_ (C_ St)),es.Nodup->(ss.foldl stE es).Nodup/\∀p,p∈ss.foldl stE es↔p∈es\/∃s∈ss,p=s.1\/p=s.2
 |[],es,h=>⟨h,λp=>by simp⟩
 |s::ss,es,h=>by
  let⟨a,b⟩:=Ik ss (stE es s) (EM (EM h));refine⟨a,λp=>?_⟩;rw[List.foldl_cons,b];unfold stE;rw[BY,BY];simp only[Zs,exists_eq_or_imp];constructor
  ·rintro(((h|h)|h)|h)
   ·exact .inl h
   ·exact .inr (.inl (.inl h))
   ·exact .inr (.inl (.inr h))
   ·exact .inr (.inr h)
  ·rintro(h|(h|h)|h)
   ·exact .inl (.inl (.inl h))
   ·exact .inl (.inl (.inr h))
   ·exact .inl (.inr h)
   ·exact .inr h
def Vk(ss:C_ (C_ St×C_ St)):(EN ss).Nodup:=(Ik ss [] (by simp)).1
def EO:p∈EN ss ↔ ∃s∈ss,p=s.1\/p=s.2:=by have:=(Ik ss [] (by simp)).2 p;simpa[EN] using this
def Q3(ss:C_ (C_ St×C_ St))(s:C_ St×C_ St):EN (ss++[s])=kF (kF (EN ss) s.1) s.2:=by simp[EN,stE,List.foldl_append]
def ER{U:C_ (C_ St)}(hU:∀s∈ss,s.1∈U/\s.2∈U):(EN ss).length<=U.length:=
 List.Nodup.length_le_of_subset (Vk ss) λp hp=>by
  let⟨s,hs,h⟩:=EO.mp hp;rcases h with rfl|rfl
  ·exact(hU s hs).1
  ·exact(hU s hs).2
def spS(S:C_ Mrk):C_ (C_ St×C_ St):=S.flatMap spn
def BZ(S:C_ Mrk)(m:Mrk):spS (S++[m])=spS S++spn m:=by simp[spS]
def wY{h:PH}(e:bW h n=a_ kvs):bW (h.set n (.dD kvs')) n=a_ kvs':=by
 have hn:∃o,h[n]?=a_ o:=by
  unfold bW at e;split at e
  ·exact⟨_,by assumption⟩
  ·exact⟨_,by assumption⟩
  ·cases e
 let⟨o,ho⟩:=hn;exact Pn (gU ho)
def Vl{S:C_ Mrk}{U:C_ (C_ St)}{m:Mrk}(hU:∀s∈ss++spn m,s.1∈U/\s.2∈U)(lU:U.length<=1000)(hz:m.hs.length<=1000){h0 h:PH}(x0:Ext h0 h)(hd:h0.length<=d)(g:bW h d=a_ (ED (EN ss)))(v0 x2 x3 x4:D_ PV)(E:FE)(fin:∀h' x3 x4,Ext h0 h'->(∀n o,n≠d->h[n]?=a_ o->h'[n]?=a_ o)->bW h' d=a_ (ED (EN (ss++spn m)))->E.nx [v0,c_ d,a_ (mkV m),x3,x4] h'):
  (mM [v0,c_ d,a_ (mkV m),x3,x4] h).W E:=by
 unfold mM;have dl:d<h.length:=by
  unfold bW at g;split at g
  ·rename_i e;exact(Zc.mp e).1
  ·rename_i e;exact(Zc.mp e).1
  ·cases g
 obtain⟨p,hA,eA,n,rfl,xA,nA,gA⟩:∃p h',eP [mkV m] h=.ok p h'/\∃n,p=.ref n/\Ext h h'/\h.length<=n/\h'[n]?=a_ (.lst ((spn m).map sp)):=by have:=Gm m hz h (λp h'=>∃n,p=.ref n/\Ext h h'/\h.length<=n/\h'[n]?=a_ (.lst ((spn m).map sp))) λn h' x b g=>⟨n,rfl,x,b,g⟩;let⟨p,h',e,q⟩:=dY this;exact⟨p,h',e,q⟩
 refine uN (n:=n) (xs:=(spn m).map sp) (h1:=hA) (λr δ h'=>Ext h0 h'/\(∀n o,n≠d->hA[n]?=a_ o->h'[n]?=a_ o)/\bW h' d=a_ (ED (EN (ss++(spn m).take r)))/\∃x3 x4,δ=[v0,c_ d,a_ (mkV m),x3,x4]) (by simp[eA]) gA ⟨x0.trans xA,λ_ _ _ e=>e,by let⟨o,ho,_,hh⟩:=dZ g;simpa using hh _ (xA _ _ ho),x3,x4,rfl⟩ ?_ ?_ ?_
 ·rintro r δ h' _ ⟨_,k,_⟩;exact k n _ ⋯ gA
 ·rintro r y δ h' hy ⟨x1,k1,g1,y3,y4,rfl⟩;rw[Zr]at hy;let⟨s,hs,rfl⟩:=Zw.mp hy;refine⟨[v0,c_ d,a_ (mkV m),a_ (pl s.1),a_ (pl s.2)],by simp[sp],?_⟩;have htk:(spn m).take (r+1)=(spn m).take r++[s]:=by rw[y0L,hs];rfl
  have sub:∀q∈ss++(spn m).take r,q.1∈U/\q.2∈U:=λq hq=>hU q (by
   rcases ZQ.mp hq with z|z
   ·exact Z5 _ z
   ·exact Zo _ (List.mem_of_mem_take z))
  have l1:=ER sub;have l2:(kF (EN (ss++(spn m).take r)) s.1).length<=(EN (ss++(spn m).take r)).length+1:=by unfold kF;split <;> simp
  have p1:∀z,uF (.ref d) (pl s.1) z h'=a_ (h'.set d (.dD (jF (ED (EN (ss++(spn m).take r))) (pl s.1) z))):=λz=>Ew g1 (wX _) (by simp[ED];omega);have p1:=p1 (.bl true);rw[Nt]at p1;have g2:=wY (kvs':=ED (kF (EN (ss++(spn m).take r)) s.1)) g1;have x2:=x1.setN (o:=.dD (ED (kF (EN (ss++(spn m).take r)) s.1))) hd;have k2:∀n o,n≠d->hA[n]?=a_ o->(h'.set d (.dD (ED (kF (EN (ss++(spn m).take r)) s.1))))[n]?=a_ o:=λn o hn ho=>by rw[Zk (ZV hn)];exact k1 n o hn ho
  generalize h'.set d (.dD (ED (kF (EN (ss++(spn m).take r)) s.1)))=hB at p1 g2 x2 k2;have p2:∀z,uF (.ref d) (pl s.2) z hB=a_ (hB.set d (.dD (jF (ED (kF (EN (ss++(spn m).take r)) s.1)) (pl s.2) z))):=λz=>Ew g2 (wX _) (by simp[ED];omega);have p2:=p2 (.bl true);rw[Nt,<-Q3,y0J,<-htk]at p2;unfold sA;rw[aQ];simp[p1];refine now ?_;simp[p2];refine⟨x2.setN hd,λn o hn ho=>by rw[Zk (ZV hn)];exact k2 n o hn ho,wY g2⟩
 ·rintro δ h' ⟨x1,k1,g1,y3,y4,rfl⟩;rw[Zg,y0U]at g1;exact fin h' y3 y4 x1 (λn o hn ho=>k1 n o hn (xA _ _ ho)) g1
def bY(h:PH)(lm ls:Nat)(S:C_ Mrk):Prop:=h[lm]?=a_ (.ins "Marks" [("standing",.ref ls)])/\h[ls]?=a_ (.lst (S.map mkV))
theorem bY.ext(t:bY h lm ls S)(x:Ext h h'):bY h' lm ls S:=⟨x _ _ t.1,x _ _ t.2⟩
theorem bY.fm(t:bY h lm ls S):dS "standing" (.ref lm) h=.ok (.ref ls) h:=pI t.1 rfl
def Q4{U:C_ (C_ St)}(hU:∀s∈spS S,s.1∈U/\s.2∈U)(lU:U.length<=1000)(hz:∀m∈S,m.hs.length<=1000){h:PH}(t:bY h lm ls S)(Q:PV->PH->Prop)(k:∀n h',Ext h h'->h.length<=n->h'[n]?=a_ (.lst ((EN (spS S)).map pl))->Q (.ref n) h'):(fG [.ref lm] h).W Q:=by
 refine fW ?_;unfold pR;rw[aQ];simp;have x0:Ext h (h++[MO.dK []]):=Ext.app _ _;have g0:bW (h++[MO.dK []]) h.length=a_ (ED (EN (spS (S.take 0)))):=by have:(h++[MO.dK []])[h.length]?=a_ (.dK []):=aU;simp[bW,this,spS,EN,ED]
 generalize h++[MO.dK []]=hA at x0 g0;refine now ?_;rw[aQ];refine uN (n:=ls) (xs:=S.map mkV) (h1:=hA) (λq δ h'=>Ext h h'/\bW h' h.length=a_ (ED (EN (spS (S.take q))))/\∃x2 x3 x4,δ=[c_ lm,c_ h.length,x2,x3,x4]) (by simp[(t.ext x0).fm]) (t.ext x0).2 ⟨x0,g0,_,_,_,rfl⟩ ?_ ?_ ?_
 ·rintro q δ h' _ ⟨x1,_⟩;exact(t.ext x1).2
 ·rintro q y δ h' hy ⟨x1,g1,x2,x3,x4,rfl⟩;rw[Zr]at hy;let⟨m,hm,rfl⟩:=Zw.mp hy;have qu:=ZP hm;have htk:S.take (q+1)=S.take q++[m]:=by rw[y0L,hm];rfl
  refine⟨[c_ lm,c_ h.length,a_ (mkV m),x3,x4],by simp,?_⟩;refine Vl (S:=S) (U:=U) (m:=m) (d:=h.length) (ss:=spS (S.take q)) (λs hs=>hU s ?_) lU (hz m qu) x1 (Zi _) g1 _ x2 x3 x4 _ λh2 y3 y4 ot _ g2=>?_
  ·rw[<-BZ,<-htk]at hs;unfold spS at hs⊢;let⟨z,hz,hs⟩:=y2X.mp hs;exact y2X.mpr ⟨z,List.mem_of_mem_take hz,hs⟩
  ·rw[<-BZ,<-htk]at g2;exact⟨ot,g2,_,_,_,rfl⟩
 ·rintro δ h' ⟨x1,g1,x2,x3,x4,rfl⟩;rw[Zg,y0U]at g1;refine now ?_;have lv:=Ks g1;rw[show(ED (EN (spS S))).map (·.1)=(EN (spS S)).map pl by unfold ED;rw[Z7];rfl]at lv;simp[lv];exact k _ _ (x1.trans (Ext.app _ _)) x1.len aU
def Nu(e:bW h n=a_ kvs)(hk:(PV.tup xs).ky 6=true)(hl:cF kvs (.tup xs)=a_ p):vAt (.ref n) (.tup xs) h=.ok p h:=by
 have k1:(PV.tup xs).isKt=true:=hk;have:rE (.tup xs) (.ref n) h=a_ (cF kvs (.tup xs)):=by simp only[rE,k1,if_true,e,Option.map_some]
 unfold vAt;rw[this,hl]
def DN(ks:C_ (C_ St)):C_ (PV×PV):=ks.map λp=>(pl p,.int (ks.idxOf p:Nat))
def ES(ks:C_ (C_ St))(p:C_ St):cF (DN ks) (pl p)=if p∈ks then d_ (ks.idxOf p:Nat) else b_:=Jn (λp=>.int (ks.idxOf p:Nat)) ks p
def SZ{ks:C_ (C_ St)}(h:p∉ks):jF (DN ks) (pl p) (.int (ks.length:Nat))=DN (ks++[p]):=by
 unfold jF;rw[ES,if_neg h];simp only[Option.isSome_none,ZU,if_false];unfold DN;rw[Z4];congr 1
 ·refine y0W λx hx=>?_;rw[List.idxOf_append,if_pos hx]
 ·simp only[ZM,List.map_nil];rw[List.idxOf_append,if_neg h];simp
def uqP(os:C_ (C_ St)):C_ (C_ St):=os.foldl kF []
theorem ET:∀(os es:C_ (C_ St)),es.Nodup->(os.foldl kF es).Nodup/\(∀p,p∈os.foldl kF es↔p∈es\/p∈os)/\(os.foldl kF es).Sublist (es++os)
 |[],es,h=>⟨h,λp=>by simp,by simp⟩
 |o::os,es,h=>by
  let⟨a,b,c⟩:=ET os (kF es o) (EM h);refine⟨a,λp=>?_,?_⟩
  ·rw[List.foldl_cons,b,BY,Zs,or_assoc]
  ·rw[List.foldl_cons];refine c.trans ?_;unfold kF;split
   ·exact List.Sublist.append_left (List.sublist_cons_self o os) es
   ·simp
def Vm(Ps:C_ (C_ St)):OkN 2 (Ps.map rk):=by
 refine⟨⋯,λv hv=>?_,λv hv=>?_,λv hv u hu=>?_⟩
 ·let⟨xs,_,rfl⟩:=Zu.mp hv
  show(xs.map stp++[As]).all (PV.ky 19)=true
  rw[List.all_append,Z2,y1j];exact⟨Zy.mpr λy _=>rfl,rfl⟩
 ·let⟨xs,_,rfl⟩:=Zu.mp hv;cases xs <;> rfl
 ·let⟨xs,_,rfl⟩:=Zu.mp hv;let⟨ys,_,rfl⟩:=Zu.mp hu
  show(ltL (ltP 19) (xs.map stp++[As]) (ys.map stp++[As])).isSome=true
  rw[Ij 17 xs ys];rfl
def Nv(h:rk xs=rk ys):pl xs=pl ys:=by unfold rk at h;unfold pl;have:=PV.tup.inj h;rw[(List.append_inj' this rfl).1]
def Nw(xs ys:C_ St):ltN (rk xs) (rk ys)=bef xs ys:=MD (n:=20) (by show ltL (ltP 19) _ _=_;exact Ij 17 xs ys)
def T5{ks:C_ (C_ St)}(nd:ks.Nodup)(pw:ks.Pairwise λa b=>bef b a=false)(hp:p∈ks)(hq:q∈ks):decide (((ks.idxOf p:Nat):Int)<=(ks.idxOf q:Nat))=!bef q p:=by
 have ip:=List.idxOf_lt_length_iff.mpr hp;have iq:=List.idxOf_lt_length_iff.mpr hq;have ep:ks[ks.idxOf p]=p:=List.getElem_idxOf ip;have eq:ks[ks.idxOf q]=q:=List.getElem_idxOf iq;rw[y0o]at pw;by_cases h:ks.idxOf p<=ks.idxOf q
 ·rw[decide_eq_true ⋯];rcases y0N h with z|z
  ·have:=pw _ _ ip iq z;rw[ep,eq]at this;rw[this];rfl
  ·have e2:p=q:=by rw[<-ep,<-eq];simp[z]
   rw[e2,Gk];rfl
 ·rw[decide_eq_false ⋯];have:=pw _ _ iq ip ⋯;rw[ep,eq]at this;have ne:p≠q:=λz=>h (by rw[z];exact Zi _);have t:=EL ne;rw[this]at t;rw[t];rfl
def Gn{Ps:C_ (C_ St)}(lP:Ps.length<64)(hP:∀p∈Ps,p.length<=1000){h:PH}(g:h[ln]?=a_ (.lst (Ps.map pl)))(Q:PV->PH->Prop)(k:∀(nu:C_ St->Int) (kvs:C_ (PV×PV)) d h',Ext h h'->h.length<=d->bW h' d=a_ kvs->(∀p∈Ps,cF kvs (pl p)=d_ (nu p))->(∀p∈Ps,∀q∈Ps,decide (nu p<=nu q)=!bef q p)->Q (.ref d) h'):(pQ [.ref ln] h).W Q:=by
 refine fW ?_;unfold uY;rw[aQ];simp;have x0:Ext h (h++[MO.dK []]):=Ext.app _ _;have g0:bW (h++[MO.dK []]) h.length=a_ (DN (uqP [])):=by have:(h++[MO.dK []])[h.length]?=a_ (.dK []):=aU;simp[bW,this,uqP,DN]
 have dl:h.length<(h++[MO.dK []]).length:=by simp
 generalize h++[MO.dK []]=hA at x0 g0 dl;refine now ?_;rw[aQ];obtain⟨p,hC,eC,os,hB,rfl,rfl,xB,pm,pw⟩:∃p h',jY gW false 2 (.ref ln) hA=.ok p h'/\∃(os:C_ (C_ St))(hB:PH),p=.ref hB.length/\h'=hB++[.lst (os.map pl)]/\Ext hA hB/\os.Perm Ps/\os.Pairwise (λa c=>ltN (rk c) (rk a)=false):=by
  have:=Gh (key:=rk) (emb:=pl) (f:=gW) (m:=2) (xs:=Ps) (x:=.ref ln) (h:=hA) (Q:=λp h'=>∃(os:C_ (C_ St))(hB:PH),p=.ref hB.length/\h'=hB++[.lst (os.map pl)]/\Ext hA hB/\os.Perm Ps/\os.Pairwise (λa c=>ltN (rk c) (rk a)=false)) (BJ (x0 _ _ g)) lP (Vm Ps) (λa _ c _ e=>Nv e)
   (λd hd h Q k=>by rw[Jm d h (hP d hd),iX];exact k h (Ext.refl h)) λos h' x p w=>⟨os,h',rfl,rfl,x,p,w⟩
  exact dY this
 have gC:(hB++[MO.lst (os.map pl)])[hB.length]?=a_ (.lst (os.map pl)):=aU;have xC:Ext hA (hB++[MO.lst (os.map pl)]):=xB.trans (Ext.app _ _);have lo:os.length<64:=by rw[pm.length_eq];exact lP
 have bl:hA.length<=hB.length:=xB.len;refine uN (n:=hB.length) (xs:=os.map pl) (h1:=hB++[MO.lst (os.map pl)]) (λr δ h'=>Ext h h'/\h'[hB.length]?=a_ (.lst (os.map pl))/\bW h' h.length=a_ (DN (uqP (os.take r)))/\∃x2,δ=[c_ ln,c_ h.length,x2]) (by simp[eC]) gC ⟨x0.trans xC,gC,by let⟨o,ho,_,hh⟩:=dZ g0;exact hh _ (xC _ _ ho),_,rfl⟩ (λq δ h' _ i=>i.2.1) ?_ ?_
 ·rintro r y δ h' hy ⟨x1,gl,g1,x2,rfl⟩;rw[Zr]at hy;let⟨p,hp,rfl⟩:=Zw.mp hy;have htk:os.take (r+1)=os.take r++[p]:=by rw[y0L,hp];rfl
  refine⟨[c_ ln,c_ h.length,a_ (pl p)],by simp,?_⟩;let⟨_,_,sl⟩:=ET (os.take r) [] (by simp);have l1:(uqP (os.take r)).length<=os.length:=by have:=sl.length_le;rw[y2z,y0R]at this;exact y0e this ⋯
  have lv:=Pv g1;rw[show(DN (uqP (os.take r))).length=(uqP (os.take r)).length by simp[DN]]at lv;let⟨o,ho,di,hh⟩:=dZ g1;have sd:=λz=>Kl (z:=z) g1 (wX p) (by simp[DN];omega);have sd:=sd (.int ((uqP (os.take r)).length:Nat));rw[show PV.tup (p.map stp)=pl p from rfl,ES]at sd
  have eu:uqP (os.take (r+1))=kF (uqP (os.take r)) p:=by rw[htk];simp[uqP,List.foldl_append]
  unfold wQ;by_cases hm:p∈uqP (os.take r)
  ·rw[if_pos hm]at sd;simp[di,lv,sd];refine⟨x1,gl,?_⟩;rw[eu];unfold kF;rw[if_pos hm];exact g1
  ·rw[if_neg hm]at sd;dsimp only at sd;rw[SZ hm]at sd;simp[di,lv,sd];refine⟨x1.setN (Zi _),?_,?_⟩
   ·rw[Zk ⋯];exact gl
   ·rw[eu];unfold kF;rw[if_neg hm];exact wY g1
 ·rintro δ h' ⟨x1,_,g1,x2,rfl⟩;rw[Zg,y0U]at g1;refine now ?_;simp;let⟨nd,mm,sl⟩:=ET os [] (by simp);have mm:∀p∈Ps,p∈uqP os:=λp hp=>(mm p).mpr (.inr (pm.mem_iff.mpr hp));have YG:(uqP os).Pairwise λa b=>bef b a=false:=(pw.imp λ{a c} e=>by rw[Nw]at e;exact e).sublist (by rw[y2z]at sl;exact sl);exact k (λp=>((uqP os).idxOf p:Nat)) _ _ h' x1 (Zi _) g1 (λp hp=>by rw[ES,if_pos (mm p hp)]) λp hp q hq=>T5 nd YG (mm p hp) (mm q hq)
def nsp(nu:C_ St->Int)(s:C_ St×C_ St):Int×Int:=(nu s.1,nu s.2)
def vC(p:C_ St)(S:C_ Mrk):C_ Str:=(S.filter (brs p)).map (·.w)
def ysV(y:Mrk×Nat):PV:=.tup [.str y.1.w,.ref y.2]
def WW(nu:C_ St->Int)(lm:Nat)(h:PH)(S:C_ Mrk)(ys:C_ (Mrk×Nat)):Prop:=ys.map (·.1)=S/\∀y∈ys,y.2≠lm/\h[y.2]?=a_ (.lst (((spn y.1).map (nsp nu)).map prI))
def Nx{U:C_ (C_ St)}{nu:C_ St->Int}{kvs:C_ (PV×PV)}{d:Nat}(hU:∀p∈U,cF kvs (pl p)=d_ (nu p))(m:Mrk)(hm:∀s∈spn m,s.1∈U/\s.2∈U)(hz:m.hs.length<=1000){h:PH}(gd:bW h d=a_ kvs)(a b c e2 f g2:D_ PV)(Q:PV->PH->Prop)
  (k:∀n h',Ext h h'->h.length<=n->h'[n]?=a_ (.lst (((spn m).map (nsp nu)).map prI))->Q (.ref n) h'):
  (eZ [b_,b_,a_ 2] (dE (eW 1 eP (aA (mV 4) aD))) (gTp 2 (gCn (gN 0) (gCn (gN 1) gNl))) nD (bH (aA (aG vAt (mV 2) (mV 0)) (aA (aG vAt (mV 2) (mV 1)) aD))) [a,b,c_ d,c,a_ (mkV m),e2,f,g2] h).W Q:=by
 obtain⟨p,hA,eA,n,rfl,xA,nA,gA⟩:∃p h',eP [mkV m] h=.ok p h'/\∃n,p=.ref n/\Ext h h'/\h.length<=n/\h'[n]?=a_ (.lst ((spn m).map sp)):=by have:=Gm m hz h (λp h'=>∃n,p=.ref n/\Ext h h'/\h.length<=n/\h'[n]?=a_ (.lst ((spn m).map sp))) λn h' x b g=>⟨n,rfl,x,b,g⟩;exact dY this
 have hc:=mB (m:=eW 1 eP (aA (mV 4) aD)) (n:=n) (js:=[b_,b_,a_ 2]) (tg:=gTp 2 (gCn (gN 0) (gCn (gN 1) gNl))) (tst:=nD) (elt:=bH (aA (aG vAt (mV 2) (mV 0)) (aA (aG vAt (mV 2) (mV 1)) aD))) (δ:=[a,b,c_ d,c,a_ (mkV m),e2,f,g2]) (h:=h) (h1:=hA) (ys:=spn m) (emb:=sp)
  (λs=>a_ (prI (nsp nu s))) (by simp[eA]) gA (by simp[spn];omega) (λs hs=>⟨[a_ (pl s.1),a_ (pl s.2),c_ d],by simp[kK,sp],λh' x'=>by refine⟨rfl,?_⟩;let⟨o,ho,_,hh⟩:=dZ gd;have zo:=hh _ (x' _ _ (xA _ _ ho));have a1:vAt (.ref d) (pl s.1) h'=.ok (.int (nu s.1)) h':=Nu zo (wX _) (hU _ (hm s hs).1);have a2:vAt (.ref d) (pl s.2) h'=.ok (.int (nu s.2)) h':=Nu zo (wX _) (hU _ (hm s hs).2);simp[a1,a2,prI,nsp]⟩)
 have em:(spn m).filterMap (λs=>a_ (prI (nsp nu s)))=((spn m).map (nsp nu)).map prI:=by rw[Z7];exact y1m (f:=λs=>prI (nsp nu s))▸rfl
 rw[em]at hc;rw[hc,iX];exact k _ _ (xA.trans (Ext.app _ _)) xA.len aU
def KF{U:C_ (C_ St)}{nu:C_ St->Int}(hn:∀p∈U,∀q∈U,decide (nu p<=nu q)=!bef q p){m:Mrk}(hm:∀s∈spn m,s.1∈U/\s.2∈U){p:C_ St}(hp:p∈U):(inI (nu p) (nsp nu (m.f,m.l)) && !(m.hs.map (nsp nu)).any (inI (nu p)))=brs p m:=by
 have one:∀s∈spn m,inI (nu p) (nsp nu s)=inB p s:=λs hs=>by unfold inI nsp inB;rw[hn _ (hm s hs).1 _ hp,hn _ hp _ (hm s hs).2]
 unfold brs;rw[one _ Zn,List.any_map];congr 2;rw[Z8,y2V,y2V];constructor
 ·rintro⟨s,hs,e⟩;exact⟨s,hs,by rw[<-one s (Zh _ hs)];exact e⟩
 ·rintro⟨s,hs,e⟩;exact⟨s,hs,by show inI _ _=_;rw[one s (Zh _ hs)];exact e⟩
def lk0{mm:Str}{v:PV}(h:(mm == ("standing" : Str))=false):[(("standing" : Str),v)].lookup mm=b_:=by simp[y2r,h]
def Ae{tb:Str->D_ Fn}(t:bY h lm ls S)(dg:tb "Marks" = a_ f)(xp:(mm == ("standing" : Str))=false)(h0:mo δ h=.ok (.ref lm) h):bA mm n tb mo ms δ h=(ms δ h).bind λps h2=>if ps.length=n then f (.ref lm::ps) h2 else .bad:=eL h0 t.1 dg (lk0 xp)
def Gp{S:C_ Mrk}{U:C_ (C_ St)}(hU:∀s∈spS S,s.1∈U/\s.2∈U)(lU:U.length<=60)(lp:∀p∈U,p.length<=1000)(hz:∀m∈S,m.hs.length<=1000)(lS:S.length<64){Ps:C_ (C_ St)}(hp:∀p∈Ps,p.length<=1000)(lPE:Ps.length+(EN (spS S)).length<64){h:PH}{lm ls l1:Nat}(t:bY h lm ls S)(g1:h[l1]?=a_ (.lst (Ps.map pl)))(Q:PV->PH->Prop)
  (k:∀n h'(zs:k_ 0),Ext h h'->h.length<=n->zs.map (·.1)=Ps->h'[n]?=a_ (.lst (zs.map λz=>PV.ref z.2))->(∀z∈zs,n<z.2/\h'[z.2]?=a_ (.lst ((kC (ddT (vC z.1 S))).map PV.str)))->Q (.ref n) h'):(bB [.ref lm,.ref l1] h).W Q:=by
 refine fW ?_;unfold gL;rw[aQ,qa_ 8 [PV.ref lm,PV.ref l1] [c_ lm,c_ l1,b_,b_,b_,b_,b_,b_]]
 -- the ends
 obtain⟨q,hA,eA,le,rfl,xA,nA,gA⟩:∃q h',fG [.ref lm] h=.ok q h'/\∃n,q=.ref n/\Ext h h'/\h.length<=n/\h'[n]?=a_ (.lst ((EN (spS S)).map pl)):=by have:=Q4 hU ⋯ hz t (λq h'=>∃n,q=.ref n/\Ext h h'/\h.length<=n/\h'[n]?=a_ (.lst ((EN (spS S)).map pl))) λn h' x b g=>⟨n,rfl,x,b,g⟩;exact dY this
 have me:bA "ends" 0 dH (mV 0) aD [c_ lm,c_ l1,b_,b_,b_,b_,b_,b_] h=.ok (.ref le) hA:=by rw[Ae t (f:=fG) (by simp[dH]) nofun (by simp)];simp[eA]
 have lE:=ER hU;have vp:=tL (xA _ _ g1) gA (by simp;omega);rw[<-Z4]at vp;have gB:(hA++[MO.lst ((Ps++EN (spS S)).map pl)])[hA.length]?=a_ (.lst ((Ps++EN (spS S)).map pl)):=aU;have xB:Ext h (hA++[MO.lst ((Ps++EN (spS S)).map pl)]):=xA.trans (Ext.app _ _);generalize hA++[MO.lst ((Ps++EN (spS S)).map pl)]=hB at vp gB xB;generalize hA.length=lb at vp gB;have YN:∀q∈EN (spS S),q∈U:=λq hq=>by
  let⟨s,hs,e⟩:=EO.mp hq;rcases e with rfl|rfl
  ·exact(hU s hs).1
  ·exact(hU s hs).2
 simp[me,vp];refine Gn (Ps:=Ps++EN (spS S)) (by rw[y0h];exact lPE) (λq hq=>by
  rcases ZQ.mp hq with hq|hq
  ·exact hp q hq
  ·exact lp q (YN q hq)) gB _ λnu kvs d hC xC nC gd look le'=>?_
 have xC:Ext h hC:=xB.trans xC;have bC:h.length<=d:=y0e xB.len nC;have hm:∀m∈S,∀s∈spn m,s.1∈Ps++EN (spS S)/\s.2∈Ps++EN (spS S):=λm hm s hs=>by have:s∈spS S:=y2X.mpr ⟨m,hm,hs⟩;exact⟨Zo _ (EO.mpr ⟨s,this,.inl rfl⟩),Zo _ (EO.mpr ⟨s,this,.inr rfl⟩)⟩
 clear me vp gA gB xB eA
 -- the marks by number
 refine now ?_;rw[aQ];simp;have xD:Ext h (hC++[MO.lst []]):=xC.trans (Ext.app _ _);have gD:(hC++[MO.lst []])[hC.length]?=a_ (.lst (([]:C_ (Mrk×Nat)).map ysV)):=aU;have ym:bW (hC++[MO.lst []]) d=a_ kvs:=by let⟨o,ho,_,hh⟩:=dZ gd;exact hh _ (Ext.app _ _ _ _ ho)
 have dC:d<hC.length:=by let⟨o,ho,_,hh⟩:=dZ gd;exact(Zc.mp ho).1
 have lC:h.length<=hC.length:=xC.len;have lD:hC.length<(hC++[MO.lst []]).length:=by simp
 generalize hC++[MO.lst []]=hD at xD gD ym lD;generalize hC.length=lk at gD dC lC lD;clear xC gd;refine now ?_;rw[aQ];refine uN (n:=ls) (xs:=S.map mkV) (h1:=hD) (λq δ h'=>Ext h h'/\lk<h'.length/\bW h' d=a_ kvs/\(∃ys:C_ (Mrk×Nat),h'[lk]?=a_ (.lst (ys.map ysV))/\WW nu lk h' (S.take q) ys)/\∃x4,δ=[c_ lm,c_ l1,c_ d,c_ lk,x4,b_,b_,b_]) (by simp[(t.ext xD).fm]) (t.ext xD).2 ⟨xD,lD,ym,⟨[],gD,rfl,λy hy=>by simp at hy⟩,_,rfl⟩ (λq δ h' _ i=>(t.ext i.1).2) ?_ ?_
 ·rintro q y δ h' hy ⟨x1,l1',g2,⟨ys,gy,ey,oy⟩,x4,rfl⟩;rw[Zr]at hy;let⟨m,y6,rfl⟩:=Zw.mp hy;have qu:=ZP y6;have htk:S.take (q+1)=S.take q++[m]:=by rw[y0L,y6];rfl
  refine⟨[c_ lm,c_ l1,c_ d,c_ lk,a_ (mkV m),b_,b_,b_],by simp,?_⟩;unfold iZ;have a3:∀h,vIx (mkV m) (.int 3) h=.ok (.str m.w) h:=λh=>by unfold mkV;simp
  have il:=jX gy;have ly:ys.length<=S.length:=by have:=congrArg y1C ey;rw[Zg,y0R]at this;omega
  obtain⟨z,hE,eE,n,rfl,xE,nE,gE⟩:∃z hE,eZ [b_,b_,a_ 2] (dE (eW 1 eP (aA (mV 4) aD))) (gTp 2 (gCn (gN 0) (gCn (gN 1) gNl))) nD (bH (aA (aG vAt (mV 2) (mV 0)) (aA (aG vAt (mV 2) (mV 1)) aD))) [c_ lm,c_ l1,c_ d,c_ lk,a_ (mkV m),b_,b_,b_] h'=.ok z hE/\∃n,z=.ref n/\Ext h' hE/\h'.length<=n/\hE[n]?=a_ (.lst (((spn m).map (nsp nu)).map prI)):=by have:=Nx look m (hm m qu) (hz m qu) g2 (c_ lm) (c_ l1) (c_ lk) b_ b_ b_ (λz hE=>∃n,z=.ref n/\Ext h' hE/\h'.length<=n/\hE[n]?=a_ (.lst (((spn m).map (nsp nu)).map prI))) λn h2 x b g=>⟨n,rfl,x,b,g⟩;exact dY this
  have zd:=xE _ _ gy;have ap:=jE (p:=ysV (m,n)) zd (by rw[Zg];omega);have s1:=gU (o':=MO.lst (ys.map ysV++[ysV (m,n)])) zd;have k1:∀(n':Nat) o,n'≠lk->hE[n']?=a_ o->(hE.set lk (.lst (ys.map ysV++[ysV (m,n)])))[n']?=a_ o:=λn' o hn ho=>by rw[Zk (ZV hn)];exact ho
  have xF:Ext h (hE.set lk (.lst (ys.map ysV++[ysV (m,n)]))):=(x1.trans xE).setN lC;have lF:lk<(hE.set lk (.lst (ys.map ysV++[ysV (m,n)]))).length:=by rw[y05];exact Zz l1' xE.len
  have zq:bW (hE.set lk (.lst (ys.map ysV++[ysV (m,n)]))) d=a_ kvs:=by let⟨o,ho,_,hh⟩:=dZ g2;exact hh _ (k1 _ _ ⋯ (xE _ _ ho))
  generalize hE.set lk (.lst (ys.map ysV++[ysV (m,n)]))=hF at ap s1 k1 xF lF zq;have wo:onL fD (.ref lk) [.tup [.str m.w,.ref n]] hE=.ok .non hF:=ap;simp[il,a3,eE,wo];refine⟨xF,lF,zq,ys++[(m,n)],by rw[Z4];exact s1,by rw[Z4,ey,htk];rfl,λy hy=>?_⟩;rcases ZQ.mp hy with z|z
  ·let⟨y1,y2⟩:=oy y z;exact⟨y1,k1 _ _ y1 (xE _ _ y2)⟩
  ·simp at z;subst z;exact⟨⋯,k1 _ _ ⋯ gE⟩
 ·rintro δ h1 ⟨x1,l1',g2,⟨ys,gy,ey,oy⟩,x4,rfl⟩;rw[Zg,y0U]at ey
  -- the words
  refine now ?_;rw[aQ];simp;have xG:Ext h1 (h1++[MO.lst []]):=Ext.app _ _;have gw:(h1++[MO.lst []])[h1.length]?=a_ (.lst []):=aU;generalize h1++[MO.lst []]=hG at xG gw;have lw:h.length<=h1.length/\lk<h1.length:=⟨x1.len,l1'⟩;have z8:∀y∈ys,y.2<h1.length:=λy hy=>(Zc.mp (oy y hy).2).1;generalize h1.length=lw' at gw lw z8;have xc:=x1.trans xG;have XU:bW hG d=a_ kvs:=by let⟨o,ho,_,hh⟩:=dZ g2;exact hh _ (xG _ _ ho)
  refine now ?_;rw[aQ];have gyG:=xG _ _ gy;have rj:l1<h.length:=(Zc.mp g1).1;have lwG:=(Zc.mp gw).1;have lys:ys.length<=64:=by have:=congrArg y1C ey;rw[Zg]at this;omega
  have YU:d≠lw':=⋯;have Y1:lk≠lw':=⋯;have XZ:∀y∈ys,y.2≠lw':=λy hy=>Zt (z8 y hy);refine uN (n:=l1) (xs:=Ps.map pl) (h1:=hG) (λq δ h'=>(∀n o,n≠lw'->hG[n]?=a_ o->h'[n]?=a_ o)/\(∃zs:k_ 0,zs.map (·.1)=Ps.take q/\h'[lw']?=a_ (.lst (zs.map λz=>PV.ref z.2))/\∀z∈zs,lw'<z.2/\h'[z.2]?=a_ (.lst ((kC (ddT (vC z.1 S))).map PV.str)))/\∃x6 x7,δ=[c_ lm,c_ l1,c_ d,c_ lk,x4,c_ lw',x6,x7]) (by simp) (xc _ _ g1) ⟨λ_ _ _ e=>e,⟨[],by simp,gw,λz hz=>by simp at hz⟩,_,_,rfl⟩ (λq δ h' _ i=>i.1 _ _ ⋯ (xc _ _ g1)) ?_ ?_
  ·rintro q y δ h' hy ⟨fr,⟨zs,ez,gz,oz⟩,x6,x7,rfl⟩;rw[Zr]at hy;let⟨p,yw,rfl⟩:=Zw.mp hy;have mq:=ZP yw;have htk:Ps.take (q+1)=Ps.take q++[p]:=by rw[y0L,yw];rfl
   refine⟨[c_ lm,c_ l1,c_ d,c_ lk,x4,c_ lw',a_ (pl p),x7],by simp,?_⟩;have gdh:bW h' d=a_ kvs:=by let⟨o,ho,_,hh⟩:=dZ XU;exact hh _ (fr _ _ YU ho)
   have an:vAt (.ref d) (pl p) h'=.ok (.int (nu p)) h':=Nu gdh (wX _) (look p (Z5 _ mq));have Xr:=fr _ _ Y1 gyG;have vz:zs.length<=Ps.length:=by have:=congrArg y1C ez;rw[Zg,y0R]at this;omega
   unfold jA;rw[aQ];simp[an];refine now ?_;have il:=jX gz;have wc:(eZ [b_,b_,a_ 7] (dE (mV 3)) (gTp 2 (gCn (gN 0) (gCn (gN 1) gNl))) (dQ (eW 2 wR (aA (mV 1) (aA (mV 2) aD)))) (mV 0) [c_ lm,c_ l1,c_ d,c_ lk,x4,c_ lw',a_ (pl p),d_ (nu p)] h').W λz hE=>∃n,z=.ref n/\Ext h' hE/\h'.length<=n/\hE[n]?=a_ (.lst ((vC p S).map PV.str)):=by
    refine Q2 (h1:=h') (ys:=ys) (emb:=ysV) (g:=uM lk (ys.map ysV)) (λy=>brs p y.1) (λy=>.str y.1.w) (wJ (by simp) Xr) (rR Xr) ⋯ (λy hy=>?_) λl h2 x b g=>⟨l,rfl,x,b,?_⟩
    ·have Xi:y.1∈S:=by rw[<-ey];exact List.mem_map_of_mem hy
     refine⟨[a_ (.str y.1.w),c_ y.2,d_ (nu p)],by simp[kK,ysV],λh2 x2 Q k2=>?_,λh2 x2=>by simp⟩;have gr:=x2 _ _ (fr _ _ (XZ y hy) (xG _ _ (oy y hy).2));have Yh:h2[y.2]?=a_ (.lst ((nsp nu (y.1.f,y.1.l)::y.1.hs.map (nsp nu)).map prI)):=gr;have hb:=KF (U:=Ps++EN (spS S)) (nu:=nu) le' (hm _ Xi) (Z5 (EN (spS S)) mq);simp;refine Nr Yh (nu p) (by rw[Zg];exact hz _ Xi) _ λh3 x3=>?_;rw[hb];cases eb:brs p y.1 with
     |true=>have:=k2 h3 x3;rw[eb]at this;simpa using this
     |false=>have:=k2 h3 x3;rw[eb]at this;simpa using this
    ·rw[g];congr 2;unfold vC;rw[<-ey,List.filter_map,Z7,Z7];rfl
   let⟨z,hE,eE,n,rfl,xE,nE,gE⟩:=dY wc;have Y7:(vC p S).length<64:=by unfold vC;rw[Zg];have:=y1R (brs p) S;omega
   have so:=G9 gE Y7;have gS:(hE++[MO.lst ((kC (ddT (vC p S))).map PV.str)])[hE.length]?=a_ (.lst ((kC (ddT (vC p S))).map PV.str)):=aU;have xS:Ext hE (hE++[MO.lst ((kC (ddT (vC p S))).map PV.str)]):=Ext.app _ _;generalize hE++[MO.lst ((kC (ddT (vC p S))).map PV.str)]=hS at so gS xS;have XX:lw'<hE.length:=Zz (Zc.mp gz).1 xE.len;have Xw:=xS _ _ (xE _ _ gz);have ap:=jE (p:=PV.ref hE.length) Xw (by rw[Zg];omega);simp[il,eE,so,ap];refine⟨λn' o hn ho=>?_,zs++[(p,hE.length)],by rw[Z4,ez,htk];rfl,by rw[gU Xw,Z4];rfl,λz y hz=>?_⟩
   ·rw[Zk (ZV hn)];exact xS _ _ (xE _ _ (fr _ _ hn ho))
   ·rcases ZQ.mp hz with c|c
    ·let⟨z1,z2⟩:=oz (z,y) c;have z1:lw'<y:=z1;exact⟨z1,by rw[Zk ⋯];exact xS _ _ (xE _ _ z2)⟩
    ·simp at c;let⟨rfl,rfl⟩:=c;exact⟨XX,by rw[Zk ⋯];exact gS⟩
  ·rintro δ h' ⟨fr,⟨zs,ez,gz,oz⟩,x6,x7,rfl⟩;rw[Zg,y0U]at ez;refine now ?_;simp;refine k lw' h' zs (λn o e=>fr n o (λz=>?_) (xc _ _ e)) lw.1 ez gz oz;have:=(Zc.mp e).1;omega
def Ny{S:C_ Mrk}{U:C_ (C_ St)}(hU:∀s∈spS S,s.1∈U/\s.2∈U)(lU:U.length<=60)(lp:∀p∈U,p.length<=1000)(hz:∀m∈S,m.hs.length<=1000)(lS:S.length<64){p:C_ St}(hp:p.length<=1000){h:PH}(t:bY h lm ls S)(Q:PV->PH->Prop)(k:∀n h',Ext h h'->h.length<=n->h'[n]?=a_ (.lst ((kC (ddT (vC p S))).map PV.str))->Q (.ref n) h'):(dU [.ref lm,pl p] h).W Q:=by
 refine fW ?_;unfold jI;have x1:Ext h (h++[MO.lst [pl p]]):=Ext.app _ _;have g1:(h++[MO.lst [pl p]])[h.length]?=a_ (.lst [pl p]):=aU;rw[qa_ 2 [PV.ref lm,pl p] [c_ lm,a_ (pl p)]]
 have me:bA "words_along" 1 eR (mV 0) (aA (eY (aA (mV 1) aD)) aD) [c_ lm,a_ (pl p)] h=bB [.ref lm,.ref h.length] (h++[MO.lst [pl p]]):=by rw[Ae t (f:=bB) (by simp[eR]) nofun (by simp)];simp
 simp only[Bl,wH,me,Ek];generalize h++[MO.lst [pl p]]=hA at x1 g1;have lE:=ER hU;refine Gp (Ps:=[p]) hU lU lp hz lS (λz hz=>by simp at hz;rw[hz];exact hp) (by simp;omega) (t.ext x1) g1 _ λn h2 zs x2 b ez g oz=>?_;obtain⟨n2,rfl⟩:∃n2,zs=[(p,n2)]:=by
  match zs,ez with
  |[(a,b)],ez=>simp at ez;exact⟨b,by rw[ez]⟩
 let⟨z1,z2⟩:=oz (p,n2) (by simp);have v0:vIx (.ref n) (.int 0) h2=.ok (.ref n2) h2:=by rw[jW g];simp
 simp[v0];exact k n2 h2 (x1.trans x2) (y0e x1.len (by show hA.length<=n2;omega)) z2
def Jo{h h1:PH}{g:PH->Bool}{α:Type}{ys:C_ α}{emb:α->PV}{Q:PV->PH->Prop}(F:α->Nat->PV)(G:α->MO)(e:mi δ h=.ok ⟨ys.map emb,g⟩ h1)(hg:∀h,Ext h1 h->g h=true)(hz:ys.length<=16777216)(step:∀y∈ys,∃δ1,tg (emb y) (kK js δ)=a_ δ1/\∀h,Ext h1 h->∃n h',elt δ1 h=.ok (F y n) h'/\Ext h h'/\h.length<=n/\h'[n]?=a_ (G y))(k:∀l h'(zs:C_ (α×Nat)),Ext h1 h'->h1.length<=l->zs.map (·.1)=ys->h'[l]?=a_ (.lst (zs.map λz=>F z.1 z.2))->(∀z∈zs,l<z.2/\h'[z.2]?=a_ (G z.1))->Q (.ref l) h'):(eZ js mi tg nD elt δ h).W Q:=by
 unfold eZ;rw[e,Rs.bind_ok];refine AC (λi h'=>Ext h1 h'/\∃zs:C_ (α×Nat),zs.map (·.1)=ys.take i/\h'[h1.length]?=a_ (.lst (zs.map λz=>F z.1 z.2))/\∀z∈zs,h1.length<z.2/\h'[z.2]?=a_ (G z.1)) (ys.map emb) 0 _ ⟨Ext.app _ _,[],by simp,by simp,λz hz=>by simp at hz⟩ (λi x h' _ hx hi=>?_) (λh' hi=>?_)
 ·let⟨x1,zs,ez,g1,oz⟩:=hi;have hx:(ys.map emb)[i]?=a_ x:=by simpa using hx
  rw[Zr]at hx;let⟨y,hy,rfl⟩:=Zw.mp hx;have lg:=(Zc.mp hy).1;let⟨δ1,ht,hs⟩:=step y (ZP hy);have htk:ys.take (i+1)=ys.take i++[y]:=by rw[y0L,hy];rfl
  refine⟨hg _ x1,δ1,ht,?_⟩;have hY:nD δ1 h'=.ok true h':=rfl;rw[hY,iX,if_pos rfl];let⟨n,h2,e2,x2,ln,gn⟩:=hs h' x1;have lz:zs.length<=i:=by have:=congrArg y1C ez;rw[Zg,y0R]at this;omega
  have l1:h1.length<h'.length:=(Zc.mp g1).1;rw[e2,iX];refine⟨_,x2 _ _ g1,by rw[Zg];omega,(x1.trans x2).setN (Zi _),zs++[(y,n)],by rw[Z4,ez,htk];rfl,by rw[gU (x2 _ _ g1),Z4];rfl,λz hz=>?_⟩;rcases ZQ.mp hz with q|q
  ·let⟨a,b⟩:=oz z q;exact⟨a,by rw[Zk ⋯];exact x2 _ _ b⟩
  ·simp at q;subst q;exact⟨⋯,by rw[Zk ⋯];exact gn⟩
 ·let⟨x1,zs,ez,g1,oz⟩:=hi;rw[Nat.zero_add,Zg,y0U]at ez;exact⟨hg _ x1,k _ _ zs x1 (Zi _) ez g1 oz⟩
def rwV(z:Mrk×Nat):PV:=.tup [pv z.1.nm,pl z.1.f,pl z.1.l,.str z.1.w,.ref z.2]
def nQ(h:PH)(l:Nat)(S:C_ Mrk)(zs:C_ (Mrk×Nat)):Prop:=zs.map (·.1)=S/\h[l]?=a_ (.lst (zs.map rwV))/\∀z∈zs,h[z.2]?=a_ (.lst (z.1.hs.map sp))
def Jp{S:C_ Mrk}(lS:S.length<64){h:PH}(t:bY h lm ls S)(Q:PV->PH->Prop)(k:∀l h' zs,Ext h h'->h.length<=l->nQ h' l S zs->(∀z∈zs,l<z.2)->Q (.ref l) h'):(aY [.ref lm] h).W Q:=by
 refine fW ?_;unfold pO;rw[qa_ 1 [PV.ref lm] [c_ lm],Bl]
 refine Jo (h1:=h) (ys:=S) (emb:=mkV) (g:=uM ls (S.map mkV)) (λm n=>rwV (m,n)) (λm=>.lst (m.hs.map sp)) (wJ (by simp[t.fm]) t.2) (rR t.2) ⋯ (λm hm=>⟨[a_ (mkV m)],by simp[kK],λh2 x2=>?_⟩) λl h2 zs x b ez g oz=>k l h2 zs x b ⟨ez,g,λz hz=>(oz z hz).2⟩ λz hz=>(oz z hz).1;have a4:vIx (mkV m) (.int 4) h2=.ok (.tup (m.hs.map sp)) h2:=by unfold mkV;simp
 have lv:lL [.tup (m.hs.map sp)] h2=.ok (.ref h2.length) (h2++[.lst (m.hs.map sp)]):=rfl;have sl:vSl (mkV m) b_ (a_ 4) h2=.ok (.tup [pv m.nm,pl m.f,pl m.l,.str m.w]) h2:=by
  unfold mkV;rw[J'];congr 2
 refine⟨h2.length,h2++[.lst (m.hs.map sp)],?_,Ext.app _ _,Zi _,aU⟩;simp[sl,a4,lv,rwV]
def T6(p:Str×Int):(pv p).pl 39=true:=rfl
def Q5(h:pv p=pv q):p=q:=by let⟨a,b⟩:=p;let⟨c,d⟩:=q;simp[pv]at h;simp[h]
def Q6{S:C_ Mrk}(lS:S.length<64){h:PH}(t:bY h lm ls S)(nm:Str×Int)(sn th:PV)(f l:C_ St)(w:Str)(fr:∀m∈S,m.nm≠nm)(Q:PV->PH->Prop)(k:∀h',bY h' lm ls (S++[⟨nm,f,l,w,[]⟩])->(∀n o,n≠ls->h[n]?=a_ o->h'[n]?=a_ o)->Q .non h'):(eM [.ref lm,.tup [pv nm,sn,.tup [.str "mark",th,pl f,pl l,.str w]]] h).W Q:=by
 refine fW ?_;unfold pL;have hc:=mB (m:=mUn (dS "standing") (mV 0)) (n:=ls) (js:=[b_]) (tg:=gN 0) (tst:=nD) (elt:=aG vAt (mV 0) (q_ 0)) (δ:=[c_ lm,a_ (.tup [pv nm,sn,.tup [.str "mark",th,pl f,pl l,.str w]]),a_ (pv nm),a_ sn,a_ (.tup [.str "mark",th,pl f,pl l,.str w])]) (h:=h) (h1:=h) (ys:=S) (emb:=mkV)
  (λm=>a_ (pv m.nm)) (by simp[t.fm]) t.2 ⋯ (λm hm=>⟨[a_ (mkV m)],by simp[kK],λh' x'=>⟨rfl,by simp[mkV]⟩⟩)
 have em:S.filterMap (λm=>a_ (pv m.nm))=S.map λm=>pv m.nm:=y1m (f:=λm:Mrk=>pv m.nm)▸rfl;rw[em]at hc;rw[aQ];simp;refine now ?_;have g1:(h++[MO.lst (S.map λm=>pv m.nm)])[h.length]?=a_ (.lst (S.map λm=>pv m.nm)):=aU;have x1:Ext h (h++[MO.lst (S.map λm=>pv m.nm)]):=Ext.app _ _;generalize h++[MO.lst (S.map λm=>pv m.nm)]=hA at hc g1 x1;have hn:lJ (pv nm) (.ref h.length) hA=.ok (.bl true) hA:=by
  rw[A6 g1,Bn g1 (T6 nm) (by rw[y1j];exact Zy.mpr λy _=>rfl)];congr 2;have:pv nm∉S.map λm=>pv m.nm:=λz=>by let⟨m,hm,e⟩:=Zu.mp z;exact fr m hm (Q5 e)
  simp[this]
 have tA:=t.ext x1;have ap:=jE (p:=mkV ⟨nm,f,l,w,[]⟩) tA.2 (by rw[Zg];omega);have s1:=gU (o':=MO.lst (S.map mkV++[mkV ⟨nm,f,l,w,[]⟩])) tA.2;have il:=jX tA.2;have wo:onL fD (.ref ls) [.tup [pv nm,pl f,pl l,.str w,.tup []]] hA=.ok .non (hA.set ls (.lst (S.map mkV++[mkV ⟨nm,f,l,w,[]⟩]))):=ap;have ne:lm≠ls:=λz=>by have a:=t.1;rw[z,t.2]at a;cases a
 rw[cH];simp[hc,hn,tA.fm,il,wo];refine k _ ⟨?_,?_⟩ λn o hn ho=>?_
 ·rw[Zk (ZV ne)];exact tA.1
 ·rw[s1,Z4];rfl
 ·rw[Zk (ZV hn)];exact x1 _ _ ho
def Q7{h:PH}(g:h[n]?=a_ (.ins "Marks" [])):cA [.ref n] h=.ok .non ((h++[MO.lst []]).set n (.ins "Marks" [("standing",.ref h.length)])):=by
 have w:(cA [.ref n] h).W λp h'=>p=.non/\h'=(h++[MO.lst []]).set n (.ins "Marks" [("standing",.ref h.length)]):=by refine fW ?_;have g':=Ext.app h [MO.lst []] _ _ g;simp[jH,mD g',lK]
 let⟨p,h',e,rfl,rfl⟩:=dY w;exact e
def KG(S:Seen)(nm:Str×Int):Bool:=match look S nm.1 with|some n=>decide (nm.2<=n)|none=>false
def KH(S:Seen)(nm:Str×Int)(h:PH):rX [sv S,pv nm] h=.ok (.bl (KG S nm)) h:=by
 have w:(rX [sv S,pv nm] h).W λq h'=>q=.bl (KG S nm)/\h'=h:=by
  refine fW ?_;unfold BM;rw[aQ];refine Mn (xs:=S.map pv) (λq δ h'=>h'=h/\look (S.drop q) nm.1=look S nm.1/\∃x2 x3,δ=[a_ (sv S),a_ (pv nm),x2,x3]) (.inl (by simp[Vj])) ⟨rfl,rfl,_,_,rfl⟩ ?_ ?_
  ·rintro q x δ h' hx ⟨rfl,hk,x2,x3,rfl⟩;rw[Zr]at hx;let⟨p,hp,rfl⟩:=Zw.mp hx;have hd:S.drop q=p::S.drop (q+1):=by let⟨hl,e⟩:=Zc.mp hp;rw[List.drop_eq_getElem_cons hl,e]
   rw[hd,KB]at hk;refine⟨_,by simp[pv];rfl,?_⟩;unfold BL;by_cases e:p.1=nm.1
   ·rw[if_pos e]at hk;simp[pv,e,KG];rw[<-hk]
   ·rw[if_neg e]at hk;simp[pv,e];exact hk
  ·rintro δ h' ⟨rfl,hk,x2,x3,rfl⟩;refine now ?_;rw[Zg,List.drop_length]at hk;simp[<-hk,look,KG]
 let⟨q,h',e,rfl,rfl⟩:=dY w;exact e
structure Dd where
 nm:Str×Int
 sn:Seen
 mkd:Bool
 f:C_ St
 l:C_ St
 w:Str
def acV(d:Dd):PV:=.tup [.str (if d.mkd then "mark" else "clear"),.tup [.str "t",.int 1],pl d.f,pl d.l,.str d.w]
def dV(d:Dd):PV:=.tup [pv d.nm,sv d.sn,acV d]
def hol(m:Mrk)(d:Dd):Mrk:=if m.w=d.w/\KG d.sn m.nm=true then⟨m.nm,m.f,m.l,m.w,m.hs++[(d.f,d.l)]⟩ else m
def T7(m:Mrk)(d:Dd):(hol m d).nm=m.nm/\(hol m d).f=m.f/\(hol m d).l=m.l/\(hol m d).w=m.w:=by unfold hol;split <;> exact⟨rfl,rfl,rfl,rfl⟩
def T8(m:Mrk)(d:Dd)(hz:m.hs.length<=1000)(h:PH):tO [mkV m,dV d] h=.ok (mkV (hol m d)) h:=by
 have w:(tO [mkV m,dV d] h).W λq h'=>q=mkV (hol m d)/\h'=h:=by
  refine fW ?_;unfold EE;rw[aQ];simp[mkV];refine now ?_;rw[aQ];simp[dV];refine now ?_;rw[aQ,cH];have cv:=KH d.sn m.nm h;by_cases e:m.w=d.w
  ·cases ec:KG d.sn m.nm with
   |false=>rw[ec]at cv;simp[acV,e,cv,hol,ec]
   |true=>rw[ec]at cv;simp[acV,e,cv,hol,ec];refine now ?_;have vp:∀h,cN (.tup (m.hs.map sp)) (.tup [.tup [pl d.f,pl d.l]]) h=.ok (.tup (m.hs.map sp++[.tup [pl d.f,pl d.l]])) h:=λh=>Kg (by rw[Zg];simp;omega);simp[vp,sp]
  ·simp[acV,e,hol]
 let⟨q,h',e,rfl,rfl⟩:=dY w;exact e
def Nz{S:C_ Mrk}(lS:S.length<64)(hz:∀m∈S,m.hs.length<=1000){h:PH}(t:bY h lm ls S)(d:Dd)(Q:PV->PH->Prop)(k:∀h' cw,bY h' lm cw (S.map (hol · d))->(∀n o,n≠lm->h[n]?=a_ o->h'[n]?=a_ o)->h.length<=cw->Q .non h'):(dP [.ref lm,dV d] h).W Q:=by
 refine fW ?_;unfold nO;have hc:=mB (m:=mUn (dS "standing") (mV 0)) (n:=ls) (js:=[b_,a_ 1]) (tg:=gN 0) (tst:=nD) (elt:=eW 2 tO (aA (mV 0) (aA (mV 1) aD))) (δ:=[c_ lm,a_ (dV d)]) (h:=h) (h1:=h) (ys:=S) (emb:=mkV)
  (λm=>a_ (mkV (hol m d))) (by simp[t.fm]) t.2 ⋯ (λm hm=>⟨[a_ (mkV m),a_ (dV d)],by simp[kK],λh' x'=>⟨rfl,by simp[T8 m d (hz m hm)]⟩⟩)
 have em:S.filterMap (λm=>a_ (mkV (hol m d)))=(S.map (hol · d)).map mkV:=by rw[Z7];exact y1m (f:=λm=>mkV (hol m d))▸rfl
 rw[em]at hc;have x1:Ext h (h++[MO.lst ((S.map (hol · d)).map mkV)]):=Ext.app _ _;have g1:(h++[MO.lst ((S.map (hol · d)).map mkV)])[h.length]?=a_ (.lst ((S.map (hol · d)).map mkV)):=aU;rw[qa_ 2 [PV.ref lm,dV d] [c_ lm,a_ (dV d)]]
 have ll:lm<h.length:=(Zc.mp t.1).1;generalize h++[MO.lst ((S.map (hol · d)).map mkV)]=hA at hc g1 x1;have sf:=mD (f:="standing") (p:=.ref h.length) (x1 _ _ t.1) (by simp);simp[hc,sf,lK];refine k _ h.length ⟨gU (x1 _ _ t.1),?_⟩ (λn o hn ho=>?_) (Zi _)
 ·rw[Zk ⋯];exact g1
 ·rw[Zk (ZV hn)];exact x1 _ _ ho
def Q8{S:C_ Mrk}(lS:S.length<64){h:PH}(t0:bY h lm ls S0)(r:nQ h lr S zs)(Q:PV->PH->Prop)(k:∀h' cw,bY h' lm cw S->(∀n o,n≠lm->h[n]?=a_ o->h'[n]?=a_ o)->h.length<=cw->Q .non h'):(cO [.ref lm,.ref lr] h).W Q:=by
 refine fW ?_;unfold pM;have t:=t0.1;have lz:zs.length<64:=by have:=congrArg y1C r.1;rw[Zg]at this;omega
 have hc:=mB (m:=mV 1) (n:=lr) (js:=[b_]) (tg:=gN 0) (tst:=nD) (elt:=aG cN (mSl (mV 0) Eg (mP (q_ 4))) (bH (aA (mCB nL (aA (aG vAt (mV 0) (q_ 4)) aD)) aD))) (δ:=[c_ lm,c_ lr]) (h:=h) (h1:=h) (ys:=zs) (emb:=rwV)
  (λz=>a_ (mkV z.1)) (by simp) r.2.1 ⋯ (λz hz=>⟨[a_ (rwV z)],by simp[kK],λh2 x2=>⟨rfl,by
   have g:=x2 _ _ (r.2.2 z hz);have a4:vIx (rwV z) (.int 4) h2=.ok (.ref z.2) h2:=by unfold rwV;simp
   have tv:nL [.ref z.2] h2=.ok (.tup (z.1.hs.map sp)) h2:=by simp[nL,bO,g]
   have sl:vSl (rwV z) b_ (a_ 4) h2=.ok (.tup [pv z.1.nm,pl z.1.f,pl z.1.l,.str z.1.w]) h2:=by
    unfold rwV;rw[J'];congr 2
   simp[sl,a4,tv,mkV]⟩⟩)
 have em:zs.filterMap (λz=>a_ (mkV z.1))=S.map mkV:=by rw[<-r.1,Z7];exact y1m (f:=λz:Mrk×Nat=>mkV z.1)▸rfl
 rw[em]at hc;have x1:Ext h (h++[MO.lst (S.map mkV)]):=Ext.app _ _;have g1:(h++[MO.lst (S.map mkV)])[h.length]?=a_ (.lst (S.map mkV)):=aU;rw[qa_ 2 [PV.ref lm,PV.ref lr] [c_ lm,c_ lr]]
 have ll:lm<h.length:=(Zc.mp t).1;generalize h++[MO.lst (S.map mkV)]=hA at hc g1 x1;have sf:=mD (f:="standing") (p:=.ref h.length) (x1 _ _ t) (by simp);simp[hc,sf,lK];refine k _ h.length ⟨gU (x1 _ _ t),?_⟩ (λn o hn ho=>?_) (Zi _)
 ·rw[Zk ⋯];exact g1
 ·rw[Zk (ZV hn)];exact x1 _ _ ho
def mixed(c k:Int):Int:=
 let n:=(c+7919*k+1)*48271%2147483647
 n*(n/1009+69621)%2147483647
@[simp]theorem Vn(c k:Int)(h:PH):tP [.int c,.int k] h=.ok (.int (mixed c k)) h:=by simp(disch:=omega) [tP,mFn,EF,bD,cY,dR,mixed]
def NA:(y0i "").cps.toList=[]:=by decide +kernel
def Low(w:Str):Prop:=∀c∈w.cps.toList,97<=c/\c<=122
def Q9(n:Int)(h:PH)(Q:PV->PH->Prop)(k:∀w:Str,1<=w.length->w.length<=8->Low w->Q (.str w) h):(EC [.int n] h).W Q:=by
 refine fW ?_;simp(disch:=omega) [Ii,El];refine Mm (j:=1+n%8) (λq δ h'=>h'=h/\∃w r x4,δ=[d_ n,a_ (.str Ni),a_ (.str w),d_ r,x4]/\w.length=q/\Low w) ?_ ?_ ?_ ?_ ?_
 ·simp(disch:=omega)
 ·omega
 ·exact⟨rfl,_,_,_,rfl,rfl,λc hc=>by rw[NA]at hc;cases hc⟩
 ·rintro q δ h' hq ⟨rfl,w,r,x4,rfl,hw,hlow⟩;have hc:=PU (i:=r%26) ⋯ ⋯;have hl:=KC;have h1:(⟨#[97+(r%26).toNat]⟩:Str).length=1:=rfl;simp(disch:=omega) [Gj,hc,El];refine⟨by rw[Nl];omega,λc hc=>?_⟩;rw[app_list]at hc;rcases ZQ.mp hc with hc|hc
  ·exact hlow c hc
  ·simp at hc;omega
 ·rintro δ h' ⟨rfl,w,r,x4,rfl,hw,hlow⟩;simp;exact k w ⋯ ⋯ hlow
def NB(u:C_ St)(s n:Int)(hd:Str)(h:PH)(hu:u.length<=1000):mE [.tup [pl u,.int s],.tup [.str hd,.int n]] h=.ok (pl (u++[⟨s,hd,n,0⟩])) h:=by
 have w:(mE [.tup [pl u,.int s],.tup [.str hd,.int n]] h).W λp h'=>p=pl (u++[⟨s,hd,n,0⟩])/\h'=h:=by refine fW ?_;simp(disch:=first|omega|(simp;omega)) [uS,El,pl,stp]
 let⟨p,h',e,rfl,rfl⟩:=dY w;exact e
def EU(u:C_ St)(s:Int)(hd:Str)(n:Int):Nat->C_ St
 |0=>u++[⟨s,hd,n,0⟩]
 |k+1=>EU u s hd n k++[⟨1,hd,n,((k+1:Nat):Int)⟩]
def mQ(u:C_ St)(s:Int)(hd:Str)(n:Int)(m:Nat):C_ (C_ St):=(ZD m).map (EU u s hd n)
def wZ:(mQ u s hd n m).length=m:=by simp[mQ]
def NC(hk:k<m):(mQ u s hd n m)[k]?=a_ (EU u s hd n k):=by simp[mQ,hk]
def KI:mQ u s hd n (m+1)=mQ u s hd n m++[EU u s hd n m]:=by simp[mQ,List.range_succ]
theorem xH{u:C_ St}:∀k,(EU u s hd n k).length=u.length+1+k
 |0=>by simp[EU]
 |k+1=>by simp[EU,xH k];omega
def KJ(u:C_ St)(s n:Int)(hd w:Str)(sn th:PV)(wd:Str)(h:PH)(Q:PV->PH->Prop)(hu:u.length<=900)(h0:1<=w.length)(h1:w.length<=12)(k:Q (.ref h.length) (h++[.lst ((mQ u s hd n w.length).map pl)])):
  (kE [.tup [.tup [.str hd,.int n],sn,.tup [.str wd,th,pl u,.int s,.str w]]] h).W Q:=by
 refine fW ?_;simp(disch:=omega) [rV,El,NB u s n hd _ ⋯];refine Ss (lo:=1) (j:=w.length) (λq δ h'=>h'=h++[.lst ((mQ u s hd n (q+1)).map pl)]/\∃x0 x1 x2 x3 x4 x5 x6 x7 ot,δ=[x0,x1,x2,x3,x4,x5,x6,x7,a_ (.str w),a_ (.str hd),d_ n,c_ h.length,ot]) ?_ ?_ ?_ ?_ ?_
 ·simp(disch:=omega)
 ·omega
 ·exact⟨rfl,_,_,_,_,_,_,_,_,_,rfl⟩
 ·rintro q δ h' hq ⟨rfl,x0,x1,x2,x3,x4,x5,x6,x7,ot,rfl⟩;have e1:(h++[MO.lst ((mQ u s hd n (q+1)).map pl)])[h.length]?=a_ (.lst ((mQ u s hd n (q+1)).map pl)):=aU;have e2:atI ((mQ u s hd n (q+1)).map pl) (1+(q:Int)-1)=a_ (pl (EU u s hd n q)):=by
   have:(1+(q:Int)-1)=(q:Int):=⋯;rw[this];exact B3 (by rw[Zr,NC ⋯];rfl)
  have e3:=xH (u:=u) (s:=s) (hd:=hd) (n:=n) q;have e4:=wZ (u:=u) (s:=s) (hd:=hd) (n:=n) (m:=q+1);simp(disch:=first|omega|(simp;omega)) [uG,jX e1,jW e1,e2,jE e1,pl]
  rw[KI (m:=q+1)];simp[EU,pl,stp];omega
 ·rintro δ h' ⟨rfl,x0,x1,x2,x3,x4,x5,x6,x7,ot,rfl⟩;simp;have:w.length-1+1=w.length:=⋯;rw[this];exact k
def rwP(r:C_ St×Nat):PV:=.tup [pl r.1,.str ⟨#[r.2]⟩]
def gX(u:C_ St)(s:Int)(hd:Str)(n:Int)(w:Str):k_ 0:=(mQ u s hd n w.length).zip w.cps.toList
def kvR(R:k_ 0):C_ (PV×PV):=R.map λr=>(pl r.1,.str ⟨#[r.2]⟩)
def kQ(R:k_ 0)(r:C_ St×Nat):k_ 0:=if r.1∈R.map (·.1) then R.map λq=>if q.1=r.1 then r else q else R++[r]
def Gq(R:k_ 0)(p:C_ St):cF (kvR R) (pl p)=(R.find? λr=>decide (r.1=p)).map λr=>.str ⟨#[r.2]⟩:=by
 induction R with
 |nil=>rfl
 |cons r R ih=>
  unfold kvR at ih⊢;by_cases e:r.1=p
  ·simp[cF,e]
  ·have:pl r.1≠pl p:=λz=>e (zC z);have o6:pl p≠pl r.1:=λz=>this z.symm;simp[cF,e,this,o6,ih]
def Gr(R:k_ 0)(p:C_ St):(cF (kvR R) (pl p)).isSome=decide (p∈R.map (·.1)):=by rw[Gq,Option.isSome_map,Z8,List.find?_isSome,decide_eq_true_iff,Zu];simp
def Jq(R:k_ 0)(r:C_ St×Nat):jF (kvR R) (pl r.1) (.str ⟨#[r.2]⟩)=kvR (kQ R r):=by
 unfold jF kQ;rw[Gr];by_cases c:r.1∈R.map (·.1)
 ·rw[if_pos (l_ c),if_pos c];unfold kvR;rw[Z7,Z7];refine y0W λq _=>?_
  show(if pl q.1=pl r.1 then(pl q.1,PV.str ⟨#[r.2]⟩) else(pl q.1,PV.str ⟨#[q.2]⟩))=(pl (if q.1=r.1 then r else q).1,PV.str ⟨#[(if q.1=r.1 then r else q).2]⟩)
  by_cases e:q.1=r.1
  ·rw[if_pos (by rw[e]),if_pos e,e]
  ·rw[if_neg (λz=>e (zC z)),if_neg e]
 ·rw[if_neg (l_ c),if_neg c];simp[kvR]
def ND(R:k_ 0)(p:C_ St):A7 (kvR R) (pl p)=kvR (R.filter λr=>decide (r.1≠p)):=by
 unfold A7 kvR;rw[List.filter_map];congr 1;refine List.filter_congr λr _=>?_
 show decide (pl r.1≠pl p)=decide (r.1≠p)
 by_cases e:r.1=p
 ·simp[e]
 ·have:pl r.1≠pl p:=λz=>e (zC z);simp[e,this]
def Asc(w:Str):Prop:=∀c∈w.cps.toList,c<128
def wr(hd:Str)(n:Int)(sn:PV)(u:C_ St)(s:Int)(w:Str):PV:=.tup [.tup [.str hd,.int n],sn,.tup [.str "write",.tup [.str "t",.int 1],pl u,.int s,.str w]]
def Gs{α:Type}{f:α->PV}{xs:C_ α}(h:xs≠[])(n:Int):∃u,u∈xs/\atI (xs.map f) (n%(xs.length:Int))=a_ (f u):=by
 have hl:0<xs.length:=List.length_pos_iff.mpr h;have h0:=y26 n (b:=(xs.length:Int)) ⋯;have h1:=Int.emod_lt_of_pos n (b:=(xs.length:Int)) ⋯;have hi:(n%(xs.length:Int)).toNat<xs.length:=⋯;refine⟨xs[(n%(xs.length:Int)).toNat],y1I hi,?_⟩;rw[J8 h0 (by rw[Zg];exact h1),Zr,Z9 hi];rfl
def T9{E:FE}{x:Str}(I:Nat->Ev->PH->Prop)(e:ms δ h=.ok [.ref n,.str x] h1)(ha:(x.cps.all λc=>decide (c<128))=true)(el:bO h1 n=a_ xs)(h0:I 0 δ h1)(keep:∀q δ h,I q δ h->uM n xs h=true)(step:∀(q:Nat) y δ h,(Ar xs x)[q]?=a_ y->I q δ h->∃δ1,tg y δ=a_ δ1/\(body δ1 h).W { nx:=I (q+1),ct:=I (q+1),rt:=E.rt,bk:=E.nx})(fin:∀δ h,I (Ar xs x).length δ h->E.nx δ h):(kJ (PP ms) tg body δ h).W E:=by
 have go:(kZ (uM n xs) tg body (Ar xs x) δ h1).W E:=yU I _ 0 δ h1 h0 (λq y δ h _ hx hi=>⟨keep q δ h hi,by rw[y2E]at hx;exact step q y δ h hx hi⟩) (λδ h hi=>⟨keep _ δ h hi,fin δ h (l_ hi)⟩);unfold kJ PP;rw[e,Rs.bind_ok];unfold SV;dsimp only;rw[if_pos ha,el];exact go
def DO(u:C_ St)(s n:Int)(hd w:Str):Ar ((mQ u s hd n w.length).map pl) w=(gX u s hd n w).map rwP:=by unfold Ar gX;rw[List.map_zip_eq_zipWith,List.zipWith_map_left];rfl
def kR(h:PH)(a d:Nat)(R:k_ 0):Prop:=h[a]?=a_ (.ins "Signs" [("kept",.ref d)])/\bW h d=a_ (kvR R)
theorem kR.fld(t:kR h a d R):dS "kept" (.ref a) h=.ok (.ref d) h:=pI t.1 rfl
def Qa{w:Str}(h:Asc w):(w.cps.all λc=>decide (c<128))=true:=by rw[Array.all_eq_true_iff_forall_mem];intro c hc;exact decide_eq_true (h c (l_ hc))
def NF(R:k_ 0)(r:C_ St×Nat):(kQ R r).length<=R.length+1:=by
 unfold kQ;split
 ·rw[Zg];omega
 ·simp
def DP(l:k_ 0):∀R,(l.foldl kQ R).length<=R.length+l.length:=by
 induction l with
 |nil=>intro R;simp
 |cons r l ih=>intro R;have:=ih (kQ R r);have:=NF R r;simp only[List.foldl_cons,ZY];omega
def NG{h:PH}{R:k_ 0}(t:kR h a d R)(lR:R.length<=100000)(u:C_ St)(s n:Int)(hd w:Str)(sn:PV)(hu:u.length<=900)(h0:1<=w.length)(h1:w.length<=12)(asc:Asc w)(Q:PV->PH->Prop)(k:∀h',(∀i o,i≠d->h[i]?=a_ o->h'[i]?=a_ o)->bW h' d=a_ (kvR ((gX u s hd n w).foldl kQ R))->Q .non h'):(dO [.ref a,wr hd n sn u s w] h).W Q:=by
 refine fW ?_;have ep:kE [wr hd n sn u s w] h=.ok (.ref h.length) (h++[.lst ((mQ u s hd n w.length).map pl)]):=by have:=KJ u s n hd w sn (.tup [.str "t",.int 1]) "write" h (λp h'=>p=.ref h.length/\h'=h++[.lst ((mQ u s hd n w.length).map pl)]) hu h0 h1 ⟨rfl,rfl⟩;let⟨p,h',e,rfl,rfl⟩:=dY this;exact e
 unfold nM;rw[aQ];have e4:vIx (wr hd n sn u s w) (.int 2) h=.ok (.tup [.str "write",.tup [.str "t",.int 1],pl u,.int s,.str w]) h:=by simp[wr]
 simp[e4];refine now ?_;have dl:d<h.length:=by
  have g:=t.2;unfold bW at g;split at g
  ·rename_i e;exact(Zc.mp e).1
  ·rename_i e;exact(Zc.mp e).1
  ·cases g
 have hA:(h++[MO.lst ((mQ u s hd n w.length).map pl)])[h.length]?=a_ (.lst ((mQ u s hd n w.length).map pl)):=aU;have xA:Ext h (h++[MO.lst ((mQ u s hd n w.length).map pl)]):=Ext.app _ _;generalize h++[MO.lst ((mQ u s hd n w.length).map pl)]=hB at ep hA xA;have ad:a≠d:=λe=>by have g:=t.2;rw[<-e]at g;unfold bW at g;rw[t.1]at g;cases g
 have lw:(gX u s hd n w).length<=12:=by unfold gX;rw[List.length_zip,wZ];omega
 refine T9 (n:=h.length) (xs:=(mQ u s hd n w.length).map pl) (x:=w) (h1:=hB) (λr δ h'=>(∀i o,i≠d->hB[i]?=a_ o->h'[i]?=a_ o)/\bW h' d=a_ (kvR (((gX u s hd n w).take r).foldl kQ R))/\∃x3 x4,δ=[c_ a,a_ (wr hd n sn u s w),a_ (.str w),x3,x4]) (by simp[ep]) (Qa asc) (by unfold bO;rw[hA]) ?_ ?_ ?_ ?_
 ·refine⟨λ_ _ _ e=>e,?_,_,_,rfl⟩;let⟨o,ho,_,hh⟩:=dZ t.2;simpa using hh _ (xA _ _ ho)
 ·rintro r δ h' ⟨k1,_⟩;unfold uM bO;rw[k1 _ _ ⋯ hA];exact PV.beqs_self _
 ·rintro r y δ h' hy ⟨k1,g1,x3,x4,rfl⟩;rw[DO,Zr]at hy;let⟨q,hq,rfl⟩:=Zw.mp hy;refine⟨[c_ a,a_ (wr hd n sn u s w),a_ (.str w),a_ (pl q.1),a_ (.str ⟨#[q.2]⟩)],by simp[rwP],?_⟩;have hr:=(Zc.mp hq).1;have htk:(gX u s hd n w).take (r+1)=(gX u s hd n w).take r++[q]:=by rw[y0L,hq];rfl
  have l1:=DP ((gX u s hd n w).take r) R;rw[y0R]at l1;have p1:uF (.ref d) (pl q.1) (.str ⟨#[q.2]⟩) h'=a_ (h'.set d (.dD (jF (kvR (((gX u s hd n w).take r).foldl kQ R)) (pl q.1) (.str ⟨#[q.2]⟩)))):=Ew g1 (wX _) (by simp[kvR];omega);rw[Jq]at p1;have ef:dS "kept" (.ref a) h'=.ok (.ref d) h':=pI (k1 _ _ ad (xA _ _ t.1)) rfl;unfold qW;simp[ef,p1];refine⟨λi o hi ho=>by rw[Zk (ZV hi)];exact k1 i o hi ho,?_⟩;rw[htk,List.foldl_append];exact wY g1
 ·rintro δ h' ⟨k1,g1,x3,x4,rfl⟩;rw[DO,Zg,y0U]at g1;exact k h' (λi o hi ho=>k1 i o hi (xA _ _ ho)) g1
theorem Il{α β:Type}:∀{l:C_ (α×β)},(l.map (·.1)).Nodup->∀{a b:α×β},a∈l->b∈l->a.1=b.1->a=b
 |[],_,a,b,ha,_,_=>by cases ha
 |x::r,nd,a,b,ha,hb,e=>by
  rw[ZM,y1i]at nd;rcases Zs.mp ha with q|ha'
  ·rcases Zs.mp hb with z|hb'
   ·rw[q,z]
   ·exact(nd.1 (Zu.mpr ⟨b,hb',by rw[<-e,q]⟩)).elim
  ·rcases Zs.mp hb with z|hb'
   ·exact(nd.1 (Zu.mpr ⟨a,ha',by rw[e,z]⟩)).elim
   ·exact Il nd.2 ha' hb' e
def SRt(os:k_ 0):Prop:=os.Pairwise λa c=>bef c.1 a.1=false
theorem SRt.uniq{os:k_ 0}(h:SRt os)(h':SRt p9)(p:os.Perm p9)(nd:(os.map (·.1)).Nodup):os=p9:=by
 refine y22 (λa b ha hb l1 l2=>?_) h h' p;have hb':=p.mem_iff.mpr hb;have e:a.1=b.1:=by
  by_cases c:a.1=b.1
  ·exact c
  ·have:=EL c;rw[l1,l2]at this;cases this
 exact Il nd ha hb' e
def Af(r:C_ St×Nat)(h:PH)(hr:r.1.length<=1000):fS [rwP r] h=.ok (rk r.1) h:=by
 have w:(fS [rwP r] h).W λp h'=>p=rk r.1/\h'=h:=by refine fW ?_;simp[uT,rwP,Jm r.1 h hr,rk]
 let⟨p,h',e,rfl,rfl⟩:=dY w;exact e
def Gu(hf:∀r h,r.1.length<=1000->f [rwP r] h=.ok (rk r.1) h){R:k_ 0}(lR:R.length<64)(hp:∀r∈R,r.1.length<=1000)(nd:(R.map (·.1)).Nodup)(e:pJ x h=a_ (R.map rwP))(Q:PV->PH->Prop)(k:∀os h',Ext h h'->os.Perm R->SRt os->Q (.ref h'.length) (h'++[.lst (os.map rwP)])):(jY f false 2 x h).W Q:=by
 refine Gh (key:=λr:C_ St×Nat=>rk r.1) (emb:=rwP) e lR ?_ (λa ha c hc z=>?_) (λr hr h Q q=>?_) λos h' hx p pw=>k os h' hx p (pw.imp λ{a c} z=>by rw[Nw]at z;exact z)
 ·have:=Vm (R.map (·.1))
  rwa[Z7]at this
 ·have e1:a.1=c.1:=zC (Nv z);rw[Il nd ha hc e1]
 ·rw[hf r h (hp r hr)];simpa using q h (Ext.refl h)
def tR{h:PH}{kvs:C_ (PV×PV)}(e:bW h n=a_ kvs):∃o,h[n]?=a_ o/\MW (a_ o)=true/\yZ o=a_ (kvs.map λkv=>.tup [kv.1,kv.2]):=by
 unfold bW at e;split at e
 ·rename_i k hk;cases e;exact⟨_,hk,rfl,rfl⟩
 ·rename_i hk;cases e;exact⟨_,hk,rfl,rfl⟩
 ·cases e
def KL(R:k_ 0):(kvR R).map (λkv=>PV.tup [kv.1,kv.2])=R.map rwP:=by unfold kvR;rw[Z7];rfl
def Gv{h:PH}{R:k_ 0}(t:kR h a d R)(lR:R.length<64)(hp:∀r∈R,r.1.length<=1000)(nd:(R.map (·.1)).Nodup)(Q:PV->PH->Prop)(k:∀os h' l,Ext h h'->h.length<=l->h'[l]?=a_ (.lst (os.map rwP))->os.Perm R->SRt os->Q (.ref l) h'):(aX [.ref a] h).W Q:=by
 refine fW ?_;unfold pP;let⟨o,ho,hd,hi⟩:=tR t.2;rw[KL]at hi;let⟨_,_,hD,_⟩:=dZ t.2;have e0:Ej qU tN (mUn (dS "kept") (mV 0)) [c_ a] h=.ok (.ref h.length) (h++[.vw 0 d]):=by simp[t.fld,hD,HX ho hd]
 have d4:(h++[MO.vw 0 d])[d]?=a_ o:=Ext.app _ _ _ _ ho;have hl:h.length<=(h++[MO.vw 0 d]).length:=(Ext.app h [MO.vw 0 d]).len;simp only[Bl,BI];refine(congrArg (λr=>Rs.W (Rs.bind r _) _) e0).mpr ?_;rw[Rs.bind_ok];exact Gu Af lR hp nd (by rw[Gi aU d4,hi]) _ λos h' hx p s=>k os _ _ ((Ext.app _ _).trans (hx.trans (Ext.app _ _))) (y0e hl hx.len) aU p s
def Jr(p:C_ St):(pl p).isKt=true:=wX p
theorem C0:∀{l:k_ 0}{r:C_ St×Nat},(l.map (·.1)).Nodup->r∈l->l.filter (λq=>decide (q.1=r.1))=[r]
 |[],r,_,h=>by cases h
 |x::l,r,nd,h=>by
  rw[ZM,y1i]at nd;rcases Zs.mp h with rfl|h
  ·rw[List.filter_cons_of_pos (by simp)];congr 1;rw[List.filter_eq_nil_iff];intro q hq e;exact nd.1 (Zu.mpr ⟨q,hq,l_ e⟩)
  ·have:x.1≠r.1:=λe=>nd.1 (Zu.mpr ⟨r,h,e.symm⟩);rw[List.filter_cons_of_neg (l_ this)];exact C0 nd.2 h
def zD{l:k_ 0}{p:C_ St×Nat->Bool}(nd:(l.map (·.1)).Nodup):((l.filter p).map (·.1)).Nodup:=List.Sublist.nodup (List.Sublist.map _ List.filter_sublist) nd
def mR(R:k_ 0)(g:C_ (C_ St)):k_ 0:=R.filter λr=>decide (r.1∉g)
def inR(R:k_ 0)(g:C_ (C_ St)):k_ 0:=R.filter λr=>decide (r.1∈g)
def zE(R:k_ 0)(g:C_ (C_ St))(p:C_ St):mR R (g++[p])=(mR R g).filter λr=>decide (r.1≠p):=by
 unfold mR;rw[List.filter_filter];refine List.filter_congr λr _=>?_;by_cases h1:r.1∈g <;> by_cases h2:r.1=p <;> simp[h1,h2]
def Gw(R:k_ 0)(p:C_ St)(h:p∉R.map (·.1)):R.filter (λr=>decide (r.1≠p))=R:=by rw[List.filter_eq_self];intro r hr;exact decide_eq_true λe=>h (Zu.mpr ⟨r,hr,e⟩)
def Qb{G:k_ 0}(h:(G++mR R g).Perm R):G.Perm (inR R g):=by
 have h2:(inR R g++mR R g).Perm R:=by
  have:=List.filter_append_perm (λr:C_ St×Nat=>decide (r.1∈g)) R;have e:(λr:C_ St×Nat=>!decide (r.1∈g))=λr=>decide (r.1∉g):=by funext r;simp
  rw[e]at this;exact this
 exact(List.perm_append_right_iff _).mp (h.trans h2.symm)
def NH(l:k_ 0):(l.map rwP).all (PV.pl 39)=true:=by
 rw[y1j,Zy];intro r _
 show([pl r.1,PV.str ⟨#[r.2]⟩]).all (PV.pl 38)=true
 rw[y1d,Z2];refine⟨?_,rfl⟩
 show(r.1.map stp).all (PV.pl 37)=true
 rw[y1j];exact Zy.mpr λy _=>rfl
def NI(g:C_ (C_ St)):(g.map pl).all (PV.pl 39)=true:=by
 rw[y1j,Zy];intro r _
 show(r.map stp).all (PV.pl 38)=true
 rw[y1j];exact Zy.mpr λy _=>rfl
def Vo(p:C_ St):(pl p).pl 39=true:=by
 show(p.map stp).all (PV.pl 38)=true
 rw[y1j];exact Zy.mpr λy _=>rfl
def Qc{g:C_ (C_ St)}:pl p∈g.map pl↔p∈g:=by rw[Zu];exact⟨λ⟨q,hq,e⟩=>zC e▸hq,λh=>⟨p,h,rfl⟩⟩
def KM(h:PH)(a d:Nat)(P:PV)(R:k_ 0)(g:C_ (C_ St))(q:Nat)(δ:Ev)(h':PH):Prop:=
 ∃G x3,δ=[c_ a,a_ P,c_ h.length,x3]/\(∀i o,i≠d->h[i]?=a_ o->h'[i]?=a_ o)/\h'[h.length]?=a_ (.lst (G.map rwP))/\bW h' d=a_ (kvR (mR R (g.take q)))/\(G++mR R (g.take q)).Perm R
def Gx{R:k_ 0}{g:C_ (C_ St)}{δ:Ev}{E:FE}(t:kR h a d R)(lR:R.length<=100000)(nd:(R.map (·.1)).Nodup)(hq:g[q]?=a_ p)(I:KM h a d P R g q δ h')(k:∀δ h',KM h a d P R g (q+1) δ h'->E.nx δ h'):
  (nN (δ.set 3 (a_ (pl p))) h').W E:=by
 let⟨G,x3,rfl,k1,k2,k3,k4⟩:=I;have htk:g.take (q+1)=g.take q++[p]:=by rw[y0L,hq];rfl
 have ad:a≠d:=λe=>by have g:=t.2;rw[<-e]at g;unfold bW at g;rw[t.1]at g;cases g
 have dl:d≠h.length:=λe=>by let⟨o,ho,_⟩:=tR t.2;have:=(Zc.mp ho).1;omega
 have ef:∀h2,(∀i o,i≠d->h[i]?=a_ o->h2[i]?=a_ o)->dS "kept" (.ref a) h2=.ok (.ref d) h2:=λh2 kk=>pI (kk _ _ ad t.1) rfl;have e1:Kj (pl p) (.ref d) h'=.ok (.bl (decide (p∈(mR R (g.take q)).map (·.1)))) h':=by rw[<-Gr];exact SC k3 (wX p)
 let⟨_,_,hD,_⟩:=dZ k3;unfold nN;have zb:((mR R (g.take q)).map (·.1)).Nodup:=zD nd;by_cases c:p∈(mR R (g.take q)).map (·.1)
 ·let⟨r,hr,er⟩:=Zu.mp c;have lk:cF (kvR (mR R (g.take q))) (pl p)=a_ (.str ⟨#[r.2]⟩):=by
   rw[Gq];have e2:(mR R (g.take q)).find? (λx=>decide (x.1=p))=a_ r:=by have:=C0 zb hr;rw[er]at this;rw[<-List.head?_filter,this];rfl
   rw[e2];rfl
  have ep:=N6 k3 (Jr p) lk;rw[ND]at ep;have lG:G.length<=100000:=by have:=k4.length_eq;rw[y0h]at this;omega
  have g2:(h'.set d (.dD (kvR ((mR R (g.take q)).filter λr=>decide (r.1≠p)))))[h.length]?=a_ (.lst (G.map rwP)):=by rw[Zk dl];exact k2
  have ap:=jE (p:=rwP r) g2 (by rw[Zg];omega);have zt:mR R (g.take (q+1))=(mR R (g.take q)).filter λr=>decide (r.1≠p):=by rw[htk,zE]
  rw[<-zt]at ep g2 ap;have XQ:PV.tup [pl p,.str ⟨#[r.2]⟩]=rwP r:=by rw[<-er];rfl
  simp[ef h' k1,e1,c,jX k2,hD,ep,XQ,ap];refine k _ _ ⟨G++[r],_,rfl,λi o hi ho=>?_,?_,?_,?_⟩
  ·have:i≠h.length:=by have:=(Zc.mp ho).1;omega
   rw[Zk (ZV this),Zk (ZV hi)];exact k1 i o hi ho
  ·rw[Z4];exact gU g2
  ·have e3:=wY (kvs':=kvR (mR R (g.take (q+1)))) k3;let⟨o,ho,_,hh⟩:=dZ e3;refine hh _ ?_;rw[Zk (ZV dl)];exact ho
  ·rw[zt];have e4:=List.filter_append_perm (λx:C_ St×Nat=>decide (x.1=r.1)) (mR R (g.take q));rw[C0 zb hr]at e4;have e5:(λx:C_ St×Nat=>!decide (x.1=r.1))=λx=>decide (x.1≠p):=by funext x;rw[er];simp
   rw[e5]at e4;rw[y0J];exact(List.Perm.append_left G e4).trans k4
 ·simp[ef h' k1,e1,c];refine k _ _ ⟨G,_,rfl,k1,k2,?_,?_⟩
  ·rw[htk,zE,Gw _ _ c];exact k3
  ·rw[htk,zE,Gw _ _ c];exact k4
def T'{h:PH}{R:k_ 0}(t:kR h a d R)(lR:R.length<=60)(hp:∀r∈R,r.1.length<=1000)(nd:(R.map (·.1)).Nodup)(g:C_ (C_ St))(P:PV)(hP:P=.tup (g.map pl)\/∃n,P=.ref n/\h[n]?=a_ (.lst (g.map pl)))(Q:PV->PH->Prop)(k:∀os h' l,(∀i o,i≠d->h[i]?=a_ o->h'[i]?=a_ o)->bW h' d=a_ (kvR (mR R g))->h.length<=l->h'[l]?=a_ (.lst (os.map rwP))->os.Perm (inR R g)->SRt os->Q (.ref l) h'):(fB [.ref a,P] h).W Q:=by
 refine fW ?_;unfold rW;rw[aQ];simp;refine now ?_;rw[aQ];have dl:∃o,h[d]?=a_ o:=let ⟨o,ho,_⟩:=tR t.2;⟨o,ho⟩;have x0:=Ext.app h [MO.lst []];have i0:KM h a d P R g 0 [c_ a,a_ P,c_ h.length,b_] (h++[MO.lst []]):=by
  have e0:mR R (g.take 0)=R:=by unfold mR;rw[List.filter_eq_self];intro r _;simp
  exact⟨[],b_,rfl,λi o _ ho=>x0 _ _ ho,aU,by rw[e0];exact Bw x0 t.2,by rw[e0];exact y0f _⟩
 have fin:∀δ h',KM h a d P R g g.length δ h'->Lt (dR (pK fS false 2 (mV 2))) { nx:=λ_ h=>Q .non h,rt:=Q} δ h':=by
  rintro δ h' ⟨G,x3,rfl,k1,k2,k3,k4⟩;rw[y0U]at k3 k4;refine now ?_;simp only[Bl,BI]
  show Rs.W (jY fS false 2 (.ref h.length) h') _
  have YY:(G.map (·.1)).Nodup:=by have:=(k4.map y0D).nodup_iff.mpr nd;rw[Z4]at this;exact(y1b.mp this).1
  have lG:G.length<64:=by have:=k4.length_eq;rw[y0h]at this;omega
  refine Gu Af lG (λr hr=>hp r (k4.mem_iff.mp (Z5 _ hr))) YY (BJ k2) _ λos h2 hx p s=>?_;have x2:Ext h' (h2++[MO.lst (os.map rwP)]):=hx.trans (Ext.app _ _);have l1:h.length<=h2.length:=by have:=(Zc.mp k2).1;have:=hx.len;omega
  exact k os _ _ (λi o hi ho=>x2 _ _ (k1 i o hi ho)) (Bw x2 k3) l1 aU (p.trans (Qb k4)) s
 rcases hP with rfl|⟨n,rfl,hn⟩
 ·refine Mn (xs:=g.map pl) (KM h a d _ R g) (.inl (by simp)) i0 ?_ (λδ h' hh=>fin δ h' (l_ hh));intro q x δ h' hx hi;rw[Zr]at hx;let⟨p,jr,rfl⟩:=Zw.mp hx;exact⟨_,rfl,Gx t ⋯ nd jr hi λ_ _ z=>z⟩
 ·have mn:n≠d:=λe=>by have:=t.2;unfold bW at this;rw[<-e,hn]at this;cases this
  refine uN (n:=n) (xs:=g.map pl) (h1:=h++[MO.lst []]) (KM h a d _ R g) (by simp) (x0 _ _ hn) i0 ?_ ?_ (λδ h' hh=>fin δ h' (l_ hh))
  ·rintro q δ h' _ ⟨G,x3,_,k1,_⟩;exact k1 _ _ mn hn
  ·intro q x δ h' hx hi;rw[Zr]at hx;let⟨p,jr,rfl⟩:=Zw.mp hx;exact⟨_,rfl,Gx t ⋯ nd jr hi λ_ _ z=>z⟩
def Qd{h:PH}(e:h[n]?=a_ (.lst xs)):nL [.ref n] h=.ok (.tup xs) h:=by simp[nL,bO,e]
def Qe{tb:Str->D_ Fn}(t:kR h1 a d R)(dg:tb "Signs" = a_ f)(xp:[(("kept" : Str),PV.ref d)].lookup mm=b_)(h0:mo δ h=.ok (.ref a) h1):bA mm n tb mo ms δ h=(ms δ h1).bind λps h2=>if ps.length=n then f (.ref a::ps) h2 else .bad:=eL h0 t.1 dg xp
theorem kR.ext(t:kR h a d R)(x:Ext h h'):kR h' a d R:=⟨x _ _ t.1,Bw x t.2⟩
theorem C1:∀R:k_ 0,rU (R.map rwP)=a_ (kvR R)
 |[]=>rfl
 |r::R=>by
  show rU (.tup [pl r.1,.str ⟨#[r.2]⟩]::R.map rwP)=_
  unfold rU;rw[if_pos (Jr r.1),C1 R];rfl
def Qf{R:k_ 0}(h:r.1∉R.map (·.1)):kQ R r=R++[r]:=if_neg h
theorem C2:∀(ts us:k_ 0),((us++ts).map (·.1)).Nodup->Eu (kvR us) (kvR ts)=kvR (us++ts)
 |[],us,_=>by rw[y1h];rfl
 |x::ts,us,nd=>by
  show Eu (jF (kvR us) (pl x.1) (.str ⟨#[x.2]⟩)) (kvR ts)=_
  have fu:x.1∉us.map (·.1):=λz=>by rw[Z4,y1b]at nd;exact nd.2.2 _ z _ (by simp) rfl
  rw[Jq,Qf fu];have:=C2 ts (us++[x]) (by rw[y0J];exact nd);rw[this,y0J];rfl
def Qg{h:PH}{R:k_ 0}(e:h[n]?=a_ (.lst (R.map rwP)))(nd:(R.map (·.1)).Nodup):BK [.ref n] h=.ok (.ref h.length) (h++[.dD (kvR R)]):=by unfold BK;simp only[e,C1];have:=C2 R [] nd;rw[y2z]at this;have e0:kvR []=[]:=rfl;rw[e0]at this;rw[this]
def Ta{h:PH}(e:h[n]?=a_ (.lst xs))(t:bW h d=a_ kvs):n≠d:=λz=>by unfold bW at t;rw[<-z,e]at t;cases t
def Tb(t:kR h a d R)(e:bW h k=a_ kvs):a≠k:=λz=>by unfold bW at e;rw[<-z,t.1]at e;cases e
def Im{h:PH}(t:bW h n=a_ kvs):n<h.length:=let ⟨_,ho,_⟩:=tR t;(Zc.mp ho).1
def NJ{h:PH}(g:h[n]?=a_ (.ins "Signs" [])):bZ [.ref n] h=.ok .non ((h++[MO.dK []]).set n (.ins "Signs" [("kept",.ref h.length)])):=by
 have w:(bZ [.ref n] h).W λp h'=>p=.non/\h'=(h++[MO.dK []]).set n (.ins "Signs" [("kept",.ref h.length)]):=by refine fW ?_;have g':=Ext.app h [MO.dK []] _ _ g;simp[jG,mD g',lK]
 let⟨p,h',e,rfl,rfl⟩:=dY w;exact e
def KN{h:PH}{g:C_ (C_ St)}(e:h[n]?=a_ (.lst (g.map pl)))(p:C_ St):lJ (pl p) (.ref n) h=.ok (.bl (decide (p∉g))) h:=by
 rw[A6 e,Bn e (Vo p) (NI g)];congr 2;rw[<-decide_not,decide_eq_decide];exact not_congr Qc
def Vp{α:Type}(c:α->Bool)(f:α->PV)(l:C_ α):l.filterMap (λy=>if c y=true then a_ (f y) else b_)=(l.filter c).map f:=by
 induction l with
 |nil=>rfl
 |cons x l ih=>
  by_cases hx:c x=true
  ·rw[y1B,if_pos hx,List.filter_cons_of_pos hx,ZM,ih]
  ·rw[y1B,if_neg hx,List.filter_cons_of_neg hx,ih]
def pk(sp:C_ (C_ St))(n:Int):C_ St:=sp.getD (n%(sp.length:Int)).toNat []
structure Rk(R:k_ 0):Prop where
 nd:(R.map (·.1)).Nodup
 hp:∀r∈R,r.1.length<=1000
 len:R.length<=60
theorem Rk.perm{S:k_ 0}(k:Rk R)(p:S.Perm R):Rk S:=⟨(p.map y0D).nodup_iff.mpr k.nd,λr hr=>k.hp r (p.mem_iff.mp hr),by rw[p.length_eq];exact k.len⟩
def pT{h1:PH}{S:k_ 0}{tb:Str->D_ Fn}(t:kR h1 a d R)(k:Rk R)(p:S.Perm R)(s:SRt S)(dg:tb "Signs" = a_ aX)(e0:mo δ h=.ok (.ref a) h1):∃h' l,Ext h1 h'/\h1.length<=l/\h'[l]?=a_ (.lst (S.map rwP))/\bA "rows" 0 tb mo aD δ h=.ok (.ref l) h':=by
 have w:(aX [.ref a] h1).W λv h'=>∃l,v=.ref l/\Ext h1 h'/\h1.length<=l/\h'[l]?=a_ (.lst (S.map rwP)):=by refine Gv t (by have:=k.len;omega) k.hp k.nd _ λos h' l x hl g p1 s1=>?_;have e:os=S:=SRt.uniq s1 s (p1.trans p.symm) (k.perm p1).nd;rw[e]at g;exact⟨l,rfl,x,hl,g⟩
 let⟨v,h',e,l,rfl,x,hl,g⟩:=dY w;refine⟨h',l,x,hl,g,?_⟩;rw[Qe t dg rfl e0,fE,Rs.bind_ok,if_pos (by rfl),e]
def EV(t:kR h a d R)(k:Rk R):∃S,S.Perm R/\SRt S:=by have w:(aX [.ref a] h).W λv h'=>∃S:k_ 0,S.Perm R/\SRt S:=Gv t (by have:=k.len;omega) k.hp k.nd _ λos h' l x hl g p1 s1=>⟨os,p1,s1⟩;let⟨_,_,_,S,hS⟩:=dY w;exact⟨S,hS⟩
def NK{h:PH}{S:k_ 0}(t:kR h a d R)(g:h[l]?=a_ (.lst (S.map rwP)))(nd:(S.map (·.1)).Nodup):cG [.ref a,.ref l] h=.ok .non ((h++[MO.dD (kvR S)]).set a (.ins "Signs" [("kept",.ref h.length)])):=by
 have w:(cG [.ref a,.ref l] h).W λp h'=>p=.non/\h'=(h++[MO.dD (kvR S)]).set a (.ins "Signs" [("kept",.ref h.length)]):=by refine fW ?_;have g':=Ext.app h [MO.dD (kvR S)] _ _ t.1;simp[pN,Qg g nd,mD g',lK]
 let⟨p,h',e,rfl,rfl⟩:=dY w;exact e
theorem Ip(n:Nat):∀xs:C_ PV,PV.ds (xs++[.ref n])=b_
 |[]=>rfl
 |x::xs=>by
  show PV.ds (x::(xs++[.ref n]))=b_
  simp[PV.ds,Ip n xs]
theorem Tc{x:PV}(hx:x.pl 40=true):∀n,eqF n x x h=a_ true
 |0=>by unfold eqF;rw[AB hx hx];simp
 |n+1=>by unfold eqF;rw[AB hx hx];simp
theorem pU{xs:C_ PV}{h:PH}(g1:h[a]?=a_ (.lst xs))(g2:h[b]?=a_ (.lst xs))(hx:xs.all (PV.pl 39)=true):∀n,eqF n (.ref a) (.ref b) h=a_ true
 |0=>by unfold eqF;rw[Bo g1 g2 hx hx];simp
 |n+1=>by unfold eqF;rw[Bo g1 g2 hx hx];simp
theorem Gy{f:PV->PV->D_ Bool}(e:f x y=a_ true):∀xs:C_ PV,(∀z∈xs,f z z=a_ true)->eqL f (xs++[x]) (xs++[y])=a_ true
 |[],_=>by simp[eqL,e]
 |z::xs,h=>by
  show eqL f (z::(xs++[x])) (z::(xs++[y]))=_
  simp[eqL,h z Zn,Gy e xs λw hw=>h w (Zh _ hw)]
def rF{α:Type}(F:α->C_ PV)(z:α×Nat):PV:=.tup (F z.1++[.ref z.2])
def Qh{α:Type}{F G:α->C_ PV}(hF:∀a,(F a).all (PV.pl 40)=true)(hG:∀a,(G a).all (PV.pl 39)=true){h:PH}{z u:α×Nat}(e:z.1=u.1)(o1:h[z.2]?=a_ (.lst (G z.1)))(o2:h[u.2]?=a_ (.lst (G u.1)))(n:Nat):eqF (n+1) (rF F z) (rF F u) h=a_ true:=by
 unfold eqF rF;have n2:lY (.tup (F z.1++[.ref z.2])) (.tup (F u.1++[.ref u.2])) h=b_:=by unfold lY;simp[PV.d,Ip,iY]
 rw[n2,<-e];rw[<-e]at o2;exact Gy (pU o1 o2 (hG _) n) _ λy hy=>Tc (Zy.mp (hF z.1) y hy) n
def C3{α:Type}{F G:α->C_ PV}(hF:∀a,(F a).all (PV.pl 40)=true)(hG:∀a,(G a).all (PV.pl 39)=true){h:PH}{zs us:C_ (α×Nat)}(e:zs.map (·.1)=us.map (·.1))(o1:∀z∈zs,h[z.2]?=a_ (.lst (G z.1)))(o2:∀z∈us,h[z.2]?=a_ (.lst (G z.1))){a b:Nat}(g1:h[a]?=a_ (.lst (zs.map (rF F))))(g2:h[b]?=a_ (.lst (us.map (rF F))))(n:Nat):eqF (n+2) (.ref a) (.ref b) h=a_ true:=by
 have all:∀(zs us:C_ (α×Nat)),zs.map (·.1)=us.map (·.1)->(∀z∈zs,h[z.2]?=a_ (.lst (G z.1)))->(∀z∈us,h[z.2]?=a_ (.lst (G z.1)))->eqL (λa b=>eqF (n+1) a b h) (zs.map (rF F)) (us.map (rF F))=a_ true:=by
  intro zs
  induction zs with
  |nil=>intro us e _ _;cases us with
   |nil=>rfl
   |cons _ _=>simp at e
  |cons z zs ih=>intro us e p q;cases us with
   |nil=>simp at e
   |cons u us=>simp only[ZM,List.cons.injEq]at e;simp[eqL,Qh hF hG e.1 (p z Zn) (q u Zn) n,ih us e.2 (λy hy=>p y (Zh _ hy)) (λy hy=>q y (Zh _ hy))]
 cases zs with
 |nil=>
  cases us with
  |nil=>exact pU g1 g2 rfl _
  |cons _ _=>simp at e
 |cons z zs=>
  have q1:iY (.ref a) h=a_ ((z::zs).map (rF F)):=by simp[iY,bO,g1]
  have q2:iY (.ref b) h=a_ (us.map (rF F)):=by simp[iY,bO,g2]
  have q3:PV.ds ((z::zs).map (rF F))=b_:=by simp[PV.ds,PV.d,rF,Ip]
  have n2:lY (.ref a) (.ref b) h=b_:=by unfold lY;simp only[PV.d,q1,q2,q3]
  unfold eqF;rw[n2];simp only[q1,q2];exact all _ _ e o1 o2
def EW(e1:eqF n (.ref a) (.ref c) h=a_ true)(e2:eqF n (.ref b) (.ref d) h=a_ true):eqF (n+1) (.tup [.ref a,.ref b]) (.tup [.ref c,.ref d]) h=a_ true:=by
 unfold eqF;have n2:lY (.tup [.ref a,.ref b]) (.tup [.ref c,.ref d]) h=b_:=by unfold lY;simp[PV.d,PV.ds,iY]
 rw[n2];simp[eqL,e1,e2]
def Gz{α:Type}{zs:C_ (α×Nat)}{tV:α×Nat->PV}{h:PH}{E:FE}(XT:∀z h,vIx (tV z) (.int j) h=.ok (.ref z.2) h)(XJ:∀x7 h,me [x0,x1,x2,x3,x4,x5,x6,x7] h=.ok v h)(e:m [x0,x1,x2,x3,x4,x5,x6,x7] h=.ok (.ref n) h)(g:h[n]?=a_ (.lst (zs.map tV)))(oz:∀z∈zs,z.2≠n/\∃xs,h[z.2]?=a_ (.lst xs)/\xs.length<=1000)(lz:zs.length<=64)(k:∀x7 h',(∀i o,(∀z∈zs,i≠z.2)->h[i]?=a_ o->h'[i]?=a_ o)->E.nx [x0,x1,x2,x3,x4,x5,x6,x7] h'):
  (kJ (dE m) (gN 7) (gK (mMt isL (onL fD) (aG vAt (mV 7) (mC (.int j))) (aA me aD))) [x0,x1,x2,x3,x4,x5,x6,x7] h).W E:=by
 refine uN (n:=n) (xs:=zs.map tV) (h1:=h) (λq δ h'=>(∀i o,(∀z∈zs,i≠z.2)->h[i]?=a_ o->h'[i]?=a_ o)/\(∀z∈zs,∃xs,h'[z.2]?=a_ (.lst xs)/\xs.length<=1000+q)/\∃x7,δ=[x0,x1,x2,x3,x4,x5,x6,x7]) e g ⟨λ_ _ _ e=>e,λz hz=>by let⟨_,xs,a,b⟩:=oz z hz;exact⟨xs,a,⋯⟩,_,rfl⟩ (λq δ h' _ i=>i.1 _ _ (λz hz=>ZV (oz z hz).1) g) ?_ ?_
 ·rintro q y δ h' hy ⟨fr,ok,x7,rfl⟩;have hq:=(Zc.mp hy).1;rw[Zg]at hq;rw[Zr]at hy;let⟨z,hz,rfl⟩:=Zw.mp hy;have yr:=ZP hz;let⟨xs,gx,lx⟩:=ok z yr;have il:=jX gx;have ap:=jE (p:=v) gx ⋯;refine⟨_,rfl,?_⟩;simp[XT,il,XJ,ap];refine⟨λi o hi ho=>?_,λa b hw=>?_⟩
  ·rw[Zk (ZV (hi z.1 z.2 yr))];exact fr i o (λw hw=>hi w.1 w.2 hw) ho
  ·by_cases c:b=z.2
   ·rw[c,gU gx];exact⟨_,rfl,by simp;omega⟩
   ·let⟨ys,gy,ly⟩:=ok (a,b) hw;exact⟨ys,by rw[Zk (λz=>c z.symm)];exact gy,⋯⟩
 ·rintro δ h' ⟨fr,ok,x7,rfl⟩;exact k x7 h' fr
structure cQ(h:PH)(t a d m l:Nat)(R:k_ 0)(S:C_ Mrk):Prop where
 tx:h[t]?=some (.ins "Text" [("signs",.ref a),("marks",.ref m)])
 sg:kR h a d R
 mr:bY h m l S
theorem cQ.ext(T:cQ h t a d m l R S)(x:Ext h h'):cQ h' t a d m l R S:=⟨x _ _ T.tx,T.sg.ext x,T.mr.ext x⟩
theorem cQ.f1(T:cQ h t a d m l R S):dS "signs" (.ref t) h=.ok (.ref a) h:=pI T.tx (by rfl)
theorem cQ.f2(T:cQ h t a d m l R S):dS "marks" (.ref t) h=.ok (.ref m) h:=pI T.tx (by rfl)
structure OKm(U:C_ (C_ St))(R:k_ 0)(S:C_ Mrk):Prop where
 rk:Rk R
 hU:∀s∈spS S,s.1∈U/\s.2∈U
 lU:U.length<=60
 lp:∀p∈U,p.length<=1000
 hz:∀m∈S,m.hs.length<=1000
 lS:S.length<64
 lPE:R.length+(EN (spS S)).length<64
theorem OKm.perm{R2:k_ 0}(o:OKm U R S)(p:R2.Perm R):OKm U R2 S:=⟨o.rk.perm p,o.hU,o.lU,o.lp,o.hz,o.lS,by rw[p.length_eq];exact o.lPE⟩
def tF(r:C_ St×Nat):C_ PV:=[pl r.1,.str ⟨#[r.2]⟩]
def Vq(r:C_ St×Nat):(tF r).all (PV.pl 40)=true:=by
 show((pl r.1).pl 40&&((PV.str ⟨#[r.2]⟩).pl 40&&true))=true
 rw[Jl];rfl
def mF(m:Mrk):C_ PV:=[pv m.nm,pl m.f,pl m.l,.str m.w]
def R0(m:Mrk):(mF m).all (PV.pl 40)=true:=by
 show((pv m.nm).pl 40&&((pl m.f).pl 40&&((pl m.l).pl 40&&((PV.str m.w).pl 40&&true))))=true
 rw[Jl,Jl];rfl
def wds(S:C_ Mrk)(r:C_ St×Nat):C_ PV:=(kC (ddT (vC r.1 S))).map PV.str
def hF(m:Mrk):C_ PV:=m.hs.map sp
def R5(m:Mrk):(hF m).all (PV.pl 39)=true:=by
 unfold hF;rw[y1j];refine Zy.mpr λs _=>?_
 show[pl s.1,pl s.2].all (PV.pl 38)=true
 have q:∀xs:C_ St,(pl xs).pl 38=true:=λxs=>by
  show(xs.map stp).all (PV.pl 37)=true
  rw[y1j];exact Zy.mpr λy _=>rfl
 simp[q]
theorem GA:∀(Ro j4:k_ 0),j4.map (·.1)=Ro.map (·.1)->∃zs:C_ ((C_ St×Nat)×Nat),zs.map (·.1)=Ro/\zs.map (λz=>(z.1.1,z.2))=j4
 |[],[],_=>⟨[],rfl,rfl⟩
 |[],z::j4,e=>by simp at e
 |r::Ro,[],e=>by simp at e
 |r::Ro,z::j4,e=>by simp only[ZM,List.cons.injEq]at e;let⟨zs,e1,e2⟩:=GA Ro j4 e.2;exact⟨(r,z.2)::zs,by simp[e1],by simp[e2,<-e.1]⟩
def filterMap_some{α β:Type}(f:α->β)(l:C_ α):l.filterMap (λy=>a_ (f y))=l.map f:=y1m (f:=f)▸rfl
def KO{h:PH}{Ro:k_ 0}(T:cQ h t a d m l R S)(rk:Rk R)(p:Ro.Perm R)(s:SRt Ro):∃h' n,eQ [.ref t] h=.ok (.ref n) h'/\Ext h h'/\h.length<=n/\h'[n]?=a_ (.lst ((Ro.map (·.1)).map pl)):=by
 let⟨h1,l1,x1,b1,g1,e1⟩:=pT (δ:=[c_ t]) (h:=h) (tb:=fY) (mo:=mUn (dS "signs") (mV 0)) T.sg rk p s (by rfl) (by simp[T.f1]);have lR:=rk.len;have XB:=p.length_eq;have hc:=mB (m:=bA "rows" 0 fY (mUn (dS "signs") (mV 0)) aD) (n:=l1) (js:=[b_,b_]) (tg:=gTp 2 (gCn (gN 0) (gCn (gN 1) gNl))) (tst:=nD) (elt:=mV 0) (δ:=[c_ t]) (h:=h) (h1:=h1) (ys:=Ro) (emb:=rwP)
  (λr=>a_ (pl r.1)) e1 g1 ⋯ (λr hr=>⟨[a_ (pl r.1),a_ (.str ⟨#[r.2]⟩)],by simp[kK,rwP],λh2 x2=>⟨rfl,by simp⟩⟩)
 rw[filterMap_some,show(Ro.map λr=>pl r.1)=(Ro.map (·.1)).map pl by rw[Z7];rfl]at hc;have w:(eQ [.ref t] h).W λv h'=>v=.ref h1.length/\h'=h1++[.lst ((Ro.map (·.1)).map pl)]:=by
  refine fW ?_;unfold nP;rw[qa_ 1 [PV.ref t] [c_ t],Bl,hc,iX]
  exact⟨rfl,rfl⟩
 let⟨v,h',e,rfl,rfl⟩:=dY w;exact⟨_,_,e,x1.trans (Ext.app _ _),x1.len,aU⟩
def Qi(zs:C_ ((C_ St×Nat)×Nat)):enP ((zs.map (·.1)).map rwP)=zs.zipIdx.map λy=>.tup [.int (y.2:Nat),rwP y.1.1]:=by refine y01 λi=>?_;unfold enP;rw[List.getElem?_mapIdx,Zr,Zr,Zr,List.getElem?_zipIdx];cases zs[i]? <;> simp
def Js{h:PH}{Ro:k_ 0}(T:cQ h t a d m l R S)(o:OKm U R S)(p:Ro.Perm R)(s:SRt Ro)(Q:PV->PH->Prop)(k:∀n h'(zs:C_ ((C_ St×Nat)×Nat)),Ext h h'->h.length<=n->zs.map (·.1)=Ro->h'[n]?=a_ (.lst (zs.map (rF tF)))->(∀z∈zs,h.length<=z.2/\z.2<n/\h'[z.2]?=a_ (.lst (wds S z.1)))->Q (.ref n) h'):(eO [.ref t] h).W Q:=by
 let⟨h1,n1,e1,x1,b1,g1⟩:=KO T o.rk p s;have T1:=T.ext x1;have lR:=o.rk.len;have XB:=p.length_eq;refine fW ?_;unfold sC;rw[qa_ 2 [PV.ref t] [c_ t,b_],aQ,qT]
 have ep:bA "places" 0 iL (mV 0) aD [c_ t,b_] h=.ok (.ref n1) h1:=by rw[eL (k:=t) (f:=eQ) (by simp) T.tx (by rfl) (by rfl),fE,Rs.bind_ok,if_pos (by rfl),e1]
 have ew:bA "words_along" 1 mN (mUn (dS "marks") (mV 0)) (aA (bA "places" 0 iL (mV 0) aD) aD) [c_ t,b_] h=bB [.ref m,.ref n1] h1:=by rw[Ae T.mr (f:=bB) (by rfl) nofun (by simp[T.f2])];simp[ep]
 rw[ew];refine Gp (Ps:=Ro.map (·.1)) o.hU o.lU o.lp o.hz o.lS (λq hq=>?_) (by rw[Zg,XB];exact o.lPE) T1.mr g1 _ λn2 h2 j4 x2 b2 ez g2 oz=>?_
 ·let⟨r,hr,rfl⟩:=Zu.mp hq;exact o.rk.hp r (p.mem_iff.mp hr)
 let⟨zs,uj,rfl⟩:=GA Ro j4 ez;rw[Z7]at g2;simp only[y0r,y0s];refine now ?_;have T2:=T1.ext x2;let⟨h3,l3,x3,b3,g3,e3⟩:=pT (δ:=[c_ t,c_ n2]) (h:=h2) (tb:=iM) (mo:=mUn (dS "signs") (mV 0)) T2.sg o.rk p s (by rfl) (by simp[T2.f1]);rw[<-uj]at g3;have ei:mEn (aA (bA "rows" 0 iM (mUn (dS "signs") (mV 0)) aD) aD) [c_ t,c_ n2] h2=.ok ⟨zs.zipIdx.map λy=>.tup [.int (y.2:Nat),rwP y.1.1],uM l3 ((zs.map (·.1)).map rwP)⟩ h3:=by unfold mEn;rw[<-Qi];simp[e3,enI,bO,g3]
 have vz:zs.length<=60:=by have:=congrArg y1C uj;rw[Zg]at this;omega
 have hc:=Dz (js:=[b_,b_,a_ 1]) (tg:=gTp 2 (gCn (gN 0) (gCn (gN 1) gNl))) (tst:=nD) (elt:=bH (aA (aG vAt (mV 1) (q_ 0)) (aA (aG vAt (mV 1) (q_ 1)) (aA (aG vAt (mV 2) (mV 0)) aD)))) (λy=>a_ (rF tF y.1)) ei (rR g3) (by simp;omega) (λy hy=>⟨[d_ (y.2:Nat),a_ (rwP y.1.1),c_ n2],by simp[kK],λh4 x4=>⟨rfl,by
   have f9:=List.mem_zipIdx_iff_getElem?.mp hy;have r0:vIx (rwP y.1.1) (.int 0) h4=.ok (pl y.1.1.1) h4:=by unfold rwP;simp
   have r1:vIx (rwP y.1.1) (.int 1) h4=.ok (.str ⟨#[y.1.1.2]⟩) h4:=by unfold rwP;simp
   have r2:vIx (.ref n2) (.int (y.2:Nat)) h4=.ok (.ref y.1.2) h4:=by
    rw[jW (x4 _ _ (x3 _ _ g2)),show atI _ ((y.2:Nat):Int)=c_ y.1.2 from B3 (by rw[Zr,f9];rfl)]
    rfl
   simp[r0,r1,r2];rfl⟩⟩)
 have em:zs.zipIdx.filterMap (λy=>a_ (rF tF y.1))=zs.map (rF tF):=by
  rw[filterMap_some]
  show zs.zipIdx.map (rF tF∘λy=>y.1)=_
  rw[<-Z7,List.zipIdx_map_fst]
 rw[em]at hc;rw[Bl,hc,iX];have zk:=x1.len;have l23:=x2.len;have YF:=x3.len;refine k _ _ zs (x1.trans (x2.trans (x3.trans (Ext.app _ _)))) ⋯ uj aU λz hz=>?_;let⟨z1,z2⟩:=oz (z.1.1,z.2) (Zu.mpr ⟨z,hz,rfl⟩);have z3:=x3 _ _ z2;have:=(Zc.mp z3).1;exact⟨by show _<=z.2;have z1:n2<z.2:=z1;omega,this,Ext.app _ _ _ _ z3⟩
def C4{h:PH}{Ro:k_ 0}{S:C_ Mrk}(T:cQ h t a d m l R S)(rk:Rk R)(lS:S.length<64)(p:Ro.Perm R)(s:SRt Ro)(Q:PV->PH->Prop)(k:∀n1 n2 h'(zs:C_ (Mrk×Nat)),Ext h h'->h.length<=n1->n1<n2->h'[n1]?=a_ (.lst (Ro.map rwP))->nQ h' n2 S zs->(∀z∈zs,n2<z.2)->Q (.tup [.ref n1,.ref n2]) h'):(cP [.ref t] h).W Q:=by
 refine fW ?_;unfold mO;rw[qa_ 1 [PV.ref t] [c_ t]]
 let⟨h1,l1,x1,b1,g1,e1⟩:=pT (δ:=[c_ t]) (h:=h) (tb:=iO) (mo:=mUn (dS "signs") (mV 0)) T.sg rk p s (by rfl) (by simp[T.f1]);have T1:=T.ext x1;let⟨v,h2,e2,l2,zs,rfl,x2,b2,r2,o2⟩:=dY (Jp lS T1.mr (λv h'=>∃l zs,v=.ref l/\Ext h1 h'/\h1.length<=l/\nQ h' l S zs/\∀z∈zs,l<z.2) λl h' zs x b r o=>⟨l,zs,rfl,x,b,r,o⟩);have em:bA "rows" 0 iN (mUn (dS "marks") (mV 0)) aD [c_ t] h1=.ok (.ref l2) h2:=by rw[Ae T1.mr (f:=aY) (by rfl) nofun (by simp[T1.f2]),fE,Rs.bind_ok,if_pos (by rfl),e2]
 simp[e1,em];have:=(Zc.mp g1).1;exact k l1 l2 h2 zs (x1.trans x2) b1 ⋯ (x2 _ _ g1) r2 o2
def Td(S:C_ Mrk)(r:C_ St×Nat):(wds S r).all (PV.pl 39)=true:=Q1 _
def Qj{S:C_ Mrk}(lS:S.length<64)(r:C_ St×Nat):(wds S r).length<=64:=by
 unfold wds;rw[Zg,(Bv _).length_eq];have h1:=Jg (vC r.1 S);have h2:(vC r.1 S).length<=S.length:=by unfold vC;rw[Zg];exact y1R _ _
 omega
def Iq(e:eqF 3 x y h=a_ true):Ez x y h=.ok (.bl false) h:=by unfold Ez;rw[e];rfl
def NL(e:eqF 3 x y h=a_ true):I0 x y h=.ok (.bl true) h:=by unfold I0;rw[e];rfl
def C5{h1:PH}{S:C_ Mrk}{tb:Str->D_ Fn}(t:bY h1 m l S)(lS:S.length<64)(dg:tb "Marks" = a_ aY)(e0:mo δ h=.ok (.ref m) h1):∃h' n zs,Ext h1 h'/\h1.length<=n/\nQ h' n S zs/\(∀z∈zs,n<z.2)/\bA "rows" 0 tb mo aD δ h=.ok (.ref n) h':=by let⟨v,h',e,n,zs,rfl,x,b,r,o⟩:=dY (Jp lS t (λv h'=>∃n zs,v=.ref n/\Ext h1 h'/\h1.length<=n/\nQ h' n S zs/\∀z∈zs,n<z.2) λn h' zs x b r o=>⟨n,zs,rfl,x,b,r,o⟩);refine⟨h',n,zs,x,b,r,o,?_⟩;rw[eL e0 t.1 dg (by rfl),fE,Rs.bind_ok,if_pos (by rfl),e]
def xI{R2:k_ 0}(T:cQ h t a d m l R2 S)(sg:kR h sa sd R)(mk:bY h ma ml S)(o:OKm U R S)(pm:R2.Perm R)(Q:PV->PH->Prop)(k:∀h',Ext h h'->Q (.bl true) h'):(nG [.ref t,.ref sa,.ref ma] h).W Q:=by
 let⟨Ro,p,s⟩:=EV sg o.rk;have o2:=o.perm pm;have p2:Ro.Perm R2:=p.trans pm.symm;have Y3:Ro.length<=60:=by rw[p.length_eq];exact o.rk.len
 have lS:=o.lS;refine fW ?_;unfold EI;rw[qa_ 8 [PV.ref t,PV.ref sa,PV.ref ma] [c_ t,c_ sa,c_ ma,b_,b_,b_,b_,b_]]
 let⟨h1,l3,x1,b1,g1,e1⟩:=pT (δ:=[c_ t,c_ sa,c_ ma,b_,b_,b_,b_,b_]) (h:=h) (tb:=vA) (mo:=mV 1) sg o.rk p s (by rfl) (by simp);rw[aQ,qT,e1,iX];simp only[y0r,y0s];refine now ?_;have Xl:=mk.ext x1;rw[aQ,qT];obtain⟨v4,h2,e2,l4,us,rfl,x2,b2,ez2,g2,ou⟩:∃v h',eZ [b_,b_,a_ 2] (dE (mV 3)) (gTp 2 (gCn (gN 0) (gCn (gN 1) gNl))) nD (bH (aA (mV 0) (aA (mV 1) (aA (bA "words_at" 1 pS (mV 2) (aA (mV 0) aD)) aD)))) [c_ t,c_ sa,c_ ma,c_ l3,b_,b_,b_,b_] h1=.ok v h'/\∃(l:Nat)(us:C_ ((C_ St×Nat)×Nat)),v=.ref l/\Ext h1 h'/\h1.length<=l/\us.map (·.1)=Ro/\h'[l]?=a_ (.lst (us.map (rF tF)))/\∀z∈us,l<z.2/\h'[z.2]?=a_ (.lst (wds S z.1)):=by
  refine dY (Jo (ys:=Ro) (emb:=rwP) (λr n=>rF tF (r,n)) (λr=>.lst (wds S r)) (wJ (by simp) g1) (rR g1) ⋯ (λr hr=>⟨[a_ (pl r.1),a_ (.str ⟨#[r.2]⟩),c_ ma],by simp[kK,rwP],λh3 x3=>?_⟩) λl h' zs x b ez g oz=>⟨l,zs,rfl,x,b,ez,g,oz⟩);have Xh:=Xl.ext x3;let⟨v,h',e,n,rfl,x,b,g⟩:=dY (Ny o.hU o.lU o.lp o.hz o.lS (o.rk.hp r (p.mem_iff.mp hr)) Xh (λv h'=>∃n,v=.ref n/\Ext h3 h'/\h3.length<=n/\h'[n]?=a_ (.lst (wds S r))) λn h' x b g=>⟨n,rfl,x,b,g⟩);refine⟨n,h',?_,x,b,g⟩;have em:bA "words_at" 1 pS (mV 2) (aA (mV 0) aD) [a_ (pl r.1),a_ (.str ⟨#[r.2]⟩),c_ ma] h3=.ok (.ref n) h':=by rw[Ae Xh (f:=dU) (by rfl) nofun (by simp)];simp[e]
  simp[em];rfl
 rw[e2,iX];simp only[y0r,y0s];refine now ?_;have T2:=T.ext (x1.trans x2);rw[aQ,qT];let⟨v5,h3,e3,n5,zs,rfl,x3,b3,yq,g3,oz⟩:=dY (Js T2 o2 p2 s (λv h'=>∃(n:Nat)(zs:C_ ((C_ St×Nat)×Nat)),v=.ref n/\Ext h2 h'/\h2.length<=n/\zs.map (·.1)=Ro/\h'[n]?=a_ (.lst (zs.map (rF tF)))/\∀z∈zs,h2.length<=z.2/\z.2<n/\h'[z.2]?=a_ (.lst (wds S z.1))) λn h' zs x b ez g oz=>⟨n,zs,rfl,x,b,ez,g,oz⟩);rw[eL (k:=t) (f:=eO) (by simp) T2.tx (by rfl) (by rfl),fE,Rs.bind_ok,if_pos (by rfl),e3,iX];simp only[y0r,y0s];refine now ?_;have T3:=T2.ext x3;rw[aQ,qT];let⟨v6,h4,e4,n1,n2,zm,rfl,x4,b4,b4',g4,r4,o4⟩:=dY (C4 T3 o2.rk lS p2 s (λv h'=>∃n1 n2 zs,v=.tup [.ref n1,.ref n2]/\Ext h3 h'/\h3.length<=n1/\n1<n2/\h'[n1]?=a_ (.lst (Ro.map rwP))/\nQ h' n2 S zs/\∀z∈zs,n2<z.2) λn1 n2 h' zs x b b' g r o=>⟨n1,n2,zs,rfl,x,b,b',g,r,o⟩);rw[eL (k:=t) (f:=cP) (by simp) T3.tx (by rfl) (by rfl),fE,Rs.bind_ok,if_pos (by rfl),e4,iX];simp only[y0r,y0s];refine now ?_;rw[aQ,cH];have i1:Bk [.ref n5,.ty "list"] h4=.ok (.bl true) h4:=by rw[Ml (x4 _ _ g3)];simp[known,qS]
 have q1:Ez (.ref n5) (.ref l4) h4=.ok (.bl false) h4:=Iq (C3 Vq (Td S) (yq.trans ez2.symm) (λz hz=>x4 _ _ (oz z hz).2.2) (λz hz=>x4 _ _ (x3 _ _ (ou z hz).2)) (x4 _ _ g3) (x4 _ _ (x3 _ _ g2)) 1);simp[i1,q1,known,qS];refine now ?_;rw[aQ,cH];have jm:=x2.trans (x3.trans x4);let⟨h5,n7,us7,x5,b5,r5,o5,e5⟩:=C5 (δ:=[c_ t,c_ sa,c_ ma,c_ l3,c_ l4,c_ n5,a_ (.tup [.ref n1,.ref n2]),b_]) (h:=h4) (tb:=vB) (mo:=mV 2) (Xl.ext jm) lS (by rfl) (by simp);have q2:Ez (.tup [.ref n1,.ref n2]) (.tup [.ref l3,.ref n7]) h5=.ok (.bl false) h5:=Iq (EW (pU (x5 _ _ g4) (x5 _ _ (jm _ _ g1)) (NH _) 2) (C3 (F:=mF) (G:=hF) R0 R5 (r4.1.trans r5.1.symm) (λz hz=>x5 _ _ (r4.2.2 z hz)) r5.2.2 (x5 _ _ r4.2.1) r5.2.1 0));simp[e5,q2];have g5:=x5 _ _ (x4 _ _ g3);have zk:=x1.len;have l23:=x2.len;have YF:=x3.len;have l45:=x4.len;have vz:zs.length<=64:=by have:=congrArg y1C yq;rw[Zg]at this;omega
 have lzm:zm.length<=64:=by have:=congrArg y1C r4.1;rw[Zg]at this;omega
 have n5h:=(Zc.mp g3).1;refine now ?_;rw[aQ];unfold DL;refine Gz (zs:=zs) (tV:=rF tF) (v:=.str "z") (λz h=>by unfold rF tF;simp) (λ_ _=>by simp) (by simp) g5 (λz hz=>⟨Zt (oz z hz).2.1,_,x5 _ _ (x4 _ _ (oz z hz).2.2),y0e (Qj lS _) ⋯⟩) vz λx7 h6 vd=>?_;have g6:=vd _ _ (λz hz=>y0a (oz z hz).2.1) g5;refine now ?_;rw[aQ];have il:=jX g6;have cl:=tQ g6;simp[il,cl];have up:∀i o,n5<i->h5[i]?=a_ o->(h6.set n5 (.lst []))[i]?=a_ o:=λi o hi ho=>by rw[Zk ⋯];exact vd _ _ (λz hz=>by have:=(oz z hz).2.1;omega) ho
 have dn:∀i o,i<h2.length->h5[i]?=a_ o->(h6.set n5 (.lst []))[i]?=a_ o:=λi o hi ho=>by rw[Zk ⋯];exact vd _ _ (λz hz=>by have:=(oz z hz).1;omega) ho
 generalize h6.set n5 (MO.lst [])=h7 at up dn;refine now ?_;rw[aQ];unfold DM;have gm:=up _ _ ⋯ (x5 _ _ r4.2.1);refine Gz (zs:=zm) (tV:=rwV) (v:=.tup [.ref l3,.ref l3]) (λz h=>by unfold rwV;simp) (λ_ _=>by simp) (by simp) gm (λz hz=>⟨y0a (o4 z hz),hF z.1,up _ _ (by have:=o4 z hz;omega) (x5 _ _ (r4.2.2 z hz)),?_⟩) lzm λx7' h8 Xu=>?_
 ·unfold hF;rw[Zg];exact o.hz _ (by rw[<-r4.1];exact Zu.mpr ⟨z,hz,rfl⟩)
 have gr:=Xu _ _ (λz hz=>by have:=o4 z hz;omega) (up _ _ ⋯ (x5 _ _ g4));have u4:=jX gr;have lh:=tQ gr;refine now ?_;rw[aQ];simp[u4,lh];refine now ?_;simp;refine k _ λi ob e=>?_;have hi:=(Zc.mp e).1;rw[Zk ⋯];exact Xu _ _ (λz hz=>by have:=o4 z hz;omega) (dn _ _ ⋯ (x5 _ _ (jm _ _ (x1 _ _ e))))
inductive Ac where
 |wr (u:C_ St) (s:Int) (w:Str)
 |ct (g:C_ (C_ St))
 |mk (f l:C_ St) (w:Str)
 |cl (f l:C_ St) (w:Str)
 |no (w:Str) (xs:C_ PV)
abbrev t1:PV:=.tup [.str "t",.int 1]
def acP:Ac->PV
 |.wr u s w=>.tup [.str "write",t1,pl u,.int s,.str w]
 |.ct g=>.tup [.str "cut",t1,.tup (g.map pl)]
 |.mk f l w=>.tup [.str "mark",t1,pl f,pl l,.str w]
 |.cl f l w=>.tup [.str "clear",t1,pl f,pl l,.str w]
 |.no w xs=>.tup (.str w::xs)
def dvP(nm:Str×Int)(sn:Seen)(a:Ac):PV:=.tup [pv nm,sv sn,acP a]
def stR(nm:Str×Int)(R:k_ 0):Ac->k_ 0
 |.wr u s w=>(gX u s nm.1 nm.2 w).foldl kQ R
 |.ct g=>mR R g
 |_=>R
def stS(nm:Str×Int)(sn:Seen)(S:C_ Mrk):Ac->C_ Mrk
 |.mk f l w=>S++[⟨nm,f,l,w,[]⟩]
 |.cl f l w=>S.map (hol · ⟨nm,sn,false,f,l,w⟩)
 |_=>S
def okA:Ac->Prop
 |.wr u s w=>u.length<=900/\1<=w.length/\w.length<=12/\Asc w
 |.no w xs=>w≠"write" /\ w≠"cut" /\ w≠"mark" /\ w≠"clear"
 |_=>True
structure New(h h':PH)(a d m l l':Nat)(R:k_ 0)(S:C_ Mrk):Prop where
 sg:kR h' a d R
 mr:bY h' m l' S
 fr:∀i o,i≠d->i≠m->i≠l->h[i]?=some o->h'[i]?=some o
 ls:l'=l\/h.length<=l'
structure SM(h:PH)(a d m l:Nat)(R:k_ 0)(S:C_ Mrk):Prop where
 sg:kR h a d R
 mr:bY h m l S
 rk:Rk R
 lS:S.length<63
 hz:∀m∈S,m.hs.length<=999
theorem SM.ne(t:SM h a d m l R S):a≠d/\a≠m/\a≠l/\d≠m/\d≠l/\m≠l:=by
 have h1:=t.sg.1;have h2:=t.mr.1;have h3:=t.mr.2;let⟨o,ho,hd,hi⟩:=tR t.sg.2;refine⟨Tb t.sg t.sg.2,λz=>?_,λz=>?_,λz=>?_,λz=>(Ta h3 t.sg.2 z.symm).elim,λz=>?_⟩
 ·rw[z,h2]at h1;simp at h1;exact absurd h1.1 (by decide +kernel)
 ·rw[z,h3]at h1;cases h1
 ·rw[z,h2]at ho;cases ho
  cases hi
 ·rw[z,h3]at h2;cases h2
variable{δ:Ev}{h:PH}{a d m l:Nat}{R:k_ 0}{S:C_ Mrk}{tb:Str->D_ Fn}{mo:Me}{ms:Ma}
def GB(t:SM h a d m l R S)(nm:Str×Int)(sn:Seen)(ok:okA (.wr u s w))(dg:tb "Signs" = a_ dO)(e0:mo δ h=.ok (.ref a) h)(em:ms δ h=.ok [dvP nm sn (.wr u s w)] h):∃v h',bA "write" 1 tb mo ms δ h=.ok v h'/\New h h' a d m l l (stR nm R (.wr u s w)) S:=by let⟨n1,n2,n3,n4,n5,n6⟩:=t.ne;let⟨v,h',e,rfl,fr,g⟩:=dY (NG t.sg (by have:=t.rk.len;omega) u s nm.2 nm.1 w (sv sn) ok.1 ok.2.1 ok.2.2.1 ok.2.2.2 (λv h'=>v=.non/\(∀i o,i≠d->h[i]?=a_ o->h'[i]?=a_ o)/\bW h' d=a_ (kvR ((gX u s nm.1 nm.2 w).foldl kQ R))) λh' fr g=>⟨rfl,fr,g⟩);refine⟨.non,h',?_,⟨fr _ _ n1 t.sg.1,g⟩,⟨fr _ _ (ZV n4) t.mr.1,fr _ _ (ZV n5) t.mr.2⟩,λi o h1 _ _=>fr i o h1,.inl rfl⟩;rw[Qe t.sg dg rfl e0,em,Rs.bind_ok,if_pos (by rfl)];exact e
def NM(t:SM h a d m l R S)(nm:Str×Int){g:C_ (C_ St)}(dg:tb "Signs" = a_ fB)(e0:mo δ h=.ok (.ref a) h)(em:ms δ h=.ok [.tup (g.map pl)] h):∃v h',bA "cut" 1 tb mo ms δ h=.ok v h'/\New h h' a d m l l (stR nm R (.ct g)) S:=by let⟨n1,n2,n3,n4,n5,n6⟩:=t.ne;let⟨v,h',e,fr,g⟩:=dY (T' t.sg t.rk.len t.rk.hp t.rk.nd g (.tup (g.map pl)) (.inl rfl) (λv h'=>(∀i o,i≠d->h[i]?=a_ o->h'[i]?=a_ o)/\bW h' d=a_ (kvR (mR R g))) λos h' l fr g _ _ _ _=>⟨fr,g⟩);refine⟨v,h',?_,⟨fr _ _ n1 t.sg.1,g⟩,⟨fr _ _ (ZV n4) t.mr.1,fr _ _ (ZV n5) t.mr.2⟩,λi o h1 _ _=>fr i o h1,.inl rfl⟩;rw[Qe t.sg dg rfl e0,em,Rs.bind_ok,if_pos (by rfl)];exact e
def lM{h':PH}(t:kR h a d R)(fr:∀o,h[d]?=a_ o->h'[d]?=a_ o)(fa:∀o,h[a]?=a_ o->h'[a]?=a_ o):kR h' a d R:=by refine⟨fa _ t.1,?_⟩;let⟨o,ho,_,hh⟩:=dZ t.2;exact hh _ (fr _ ho)
def Jt(t:SM h a d m l R S)(nm:Str×Int)(sn:Seen)(fr:∀m∈S,m.nm≠nm)(dg:tb "Marks" = a_ eM)(e0:mo δ h=.ok (.ref m) h)(em:ms δ h=.ok [dvP nm sn (.mk f k w)] h):∃v h',bA "mark" 1 tb mo ms δ h=.ok v h'/\New h h' a d m l l R (stS nm sn S (.mk f k w)):=by let⟨n1,n2,n3,n4,n5,n6⟩:=t.ne;let⟨v,h',e,rfl,t',jl⟩:=dY (Q6 (by have:=t.lS;omega) t.mr nm (sv sn) t1 f k w fr (λv h'=>v=.non/\bY h' m l (S++[⟨nm,f,k,w,[]⟩])/\∀n o,n≠l->h[n]?=a_ o->h'[n]?=a_ o) λh' t f=>⟨rfl,t,f⟩);refine⟨.non,h',?_,lM t.sg (λo=>jl _ o n5) (λo=>jl _ o n3),t',λi o _ _ h3=>jl i o h3,.inl rfl⟩;rw[Ae t.mr dg nofun e0,em,Rs.bind_ok,if_pos (by rfl)];exact e
def GC(t:SM h a d m l R S)(nm:Str×Int)(sn:Seen)(dg:tb "Marks" = a_ dP)(e0:mo δ h=.ok (.ref m) h)(em:ms δ h=.ok [dvP nm sn (.cl f k w)] h):∃v h' l',bA "clear" 1 tb mo ms δ h=.ok v h'/\New h h' a d m l l' R (stS nm sn S (.cl f k w)):=by let⟨n1,n2,n3,n4,n5,n6⟩:=t.ne;let⟨v,h',e,l',rfl,t',jl,b⟩:=dY (Nz (by have:=t.lS;omega) (λm hm=>by have:=t.hz m hm;omega) t.mr ⟨nm,sn,false,f,k,w⟩ (λv h'=>∃l',v=.non/\bY h' m l' (S.map (hol · ⟨nm,sn,false,f,k,w⟩))/\(∀n o,n≠m->h[n]?=a_ o->h'[n]?=a_ o)/\h.length<=l') λh' l' t f b=>⟨l',rfl,t,f,b⟩);refine⟨.non,h',l',?_,lM t.sg (λo=>jl _ o n4) (λo=>jl _ o n2),t',λi o _ h2 _=>jl i o h2,.inr b⟩;rw[Ae t.mr dg nofun e0,em,Rs.bind_ok,if_pos (by rfl)];exact e
def wne:¬ ("cut" : Str)="write" /\ ¬ ("mark" : Str)="write" /\ ¬ ("mark" : Str)="cut" /\ ¬ ("clear" : Str)="write" /\ ¬ ("clear" : Str)="cut" /\ ¬ ("clear" : Str)="mark" /\ ¬ ("write" : Str)="cut" /\ ¬ ("write" : Str)="mark" /\ ¬ ("write" : Str)="clear" /\ ¬ ("cut" : Str)="mark" /\ ¬ ("cut" : Str)="clear" /\ ¬ ("mark" : Str)="clear" := by decide +kernel
def AE(T:cQ h tt a d m l R S)(t:SM h a d m l R S)(nm:Str×Int)(sn:Seen)(ac:Ac)(ok:okA ac)(fr:∀m∈S,m.nm≠nm)(Q:PV->PH->Prop)(k:∀h' l',New h h' a d m l l' (stR nm R ac) (stS nm sn S ac)->Q .non h'):(cU [.ref tt,dvP nm sn ac] h).W Q:=by
 let⟨w1,w2,w3,w4,w5,w6,_⟩:=wne;refine fW ?_;unfold rY;rw[qa_ 3 [PV.ref tt,dvP nm sn ac] [c_ tt,a_ (dvP nm sn ac),b_],aQ]
 have d2:∀ac h,vIx (dvP nm sn ac) (.int 2) h=.ok (acP ac) h:=λac h=>by unfold dvP;simp
 cases ac with
 |wr u s w=>
  have a0:∀h,vIx (acP (.wr u s w)) (.int 0) h=.ok (.str "write") h:=λh=>by unfold acP;simp
  simp[d2,a0];refine now ?_;let⟨v,h',e,n⟩:=GB (δ:=[c_ tt,a_ (dvP nm sn (.wr u s w)),a_ (.str "write")]) (tb:=mG) (mo:=mUn (dS "signs") (mV 0)) (ms:=aA (mV 1) aD) t nm sn ok (by rfl) (by simp[T.f1]) (by simp);rw[cH];simp[e];exact k _ _ n
 |ct g=>
  have a0:∀h,vIx (acP (.ct g)) (.int 0) h=.ok (.str "cut") h:=λh=>by unfold acP;simp
  have a2:∀h,vIx (acP (.ct g)) (.int 2) h=.ok (.tup (g.map pl)) h:=λh=>by unfold acP;simp
  simp[d2,a0];refine now ?_;let⟨v,h',e,n⟩:=NM (δ:=[c_ tt,a_ (dvP nm sn (.ct g)),a_ (.str "cut")]) (tb:=mH) (mo:=mUn (dS "signs") (mV 0)) (ms:=aA (aG vAt (aG vAt (mV 1) (q_ 2)) (q_ 2)) aD) t nm (g:=g) (by rfl) (by simp[T.f1]) (by simp[d2,a2]);rw[cH];simp[e,w1];exact k _ _ n
 |mk f l' w=>
  have a0:∀h,vIx (acP (.mk f l' w)) (.int 0) h=.ok (.str "mark") h:=λh=>by unfold acP;simp
  simp[d2,a0];refine now ?_;let⟨v,h',e,n⟩:=Jt (δ:=[c_ tt,a_ (dvP nm sn (.mk f l' w)),a_ (.str "mark")]) (tb:=mI) (mo:=mUn (dS "marks") (mV 0)) (ms:=aA (mV 1) aD) t nm sn (f:=f) (k:=l') (w:=w) fr (by rfl) (by simp[T.f2]) (by simp);rw[cH];simp[e,w2,w3];exact k _ _ n
 |cl f l' w=>
  have a0:∀h,vIx (acP (.cl f l' w)) (.int 0) h=.ok (.str "clear") h:=λh=>by unfold acP;simp
  simp[d2,a0];refine now ?_;let⟨v,h',l2,e,n⟩:=GC (δ:=[c_ tt,a_ (dvP nm sn (.cl f l' w)),a_ (.str "clear")]) (tb:=mJ) (mo:=mUn (dS "marks") (mV 0)) (ms:=aA (mV 1) aD) t nm sn (f:=f) (k:=l') (w:=w) (by rfl) (by simp[T.f2]) (by simp);rw[cH];simp[e,w4,w5,w6];exact k _ _ n
 |no w xs=>
  have a0:∀h,vIx (acP (.no w xs)) (.int 0) h=.ok (.str w) h:=λh=>by unfold acP;simp
  simp[d2,a0];refine now ?_;let⟨o1,o2,o3,o4⟩:=ok;rw[cH];simp[o1,o2,o3,o4];exact k _ _ ⟨t.sg,t.mr,λi o _ _ _ e=>e,.inl rfl⟩
def NN(t:SM h a d m l R S)(nm:Str×Int)(sn:Seen)(ac:Ac)(ok:okA ac)(fr:∀m∈S,m.nm≠nm)(Q:PV->PH->Prop)(k:∀h' l',New h h' a d m l l' (stR nm R ac) (stS nm sn S ac)->Q .non h'):(AD [.ref a,.ref m,dvP nm sn ac] h).W Q:=by
 let⟨w1,w2,w3,w4,w5,w6,w7,w8,w9,Ye,XY,Yy⟩:=wne;refine fW ?_;unfold EG;rw[qa_ 4 [PV.ref a,PV.ref m,dvP nm sn ac] [c_ a,c_ m,a_ (dvP nm sn ac),b_],aQ]
 have d2:∀ac h,vIx (dvP nm sn ac) (.int 2) h=.ok (acP ac) h:=λac h=>by unfold dvP;simp
 cases ac with
 |wr u s w=>
  have a0:∀h,vIx (acP (.wr u s w)) (.int 0) h=.ok (.str "write") h:=λh=>by unfold acP;simp
  simp[d2,a0];refine now ?_;let⟨v,h',e,n⟩:=GB (δ:=[c_ a,c_ m,a_ (dvP nm sn (.wr u s w)),a_ (.str "write")]) (tb:=uU) (mo:=mV 0) (ms:=aA (mV 2) aD) t nm sn ok (by rfl) (by simp) (by simp);rw[aQ,cH];simp[e];refine now ?_;rw[aQ,cH];simp[w7];refine now ?_;rw[aQ,cH];simp[w8];refine now ?_;rw[cH];simp[w9];exact k _ _ n
 |ct g=>
  have a0:∀h,vIx (acP (.ct g)) (.int 0) h=.ok (.str "cut") h:=λh=>by unfold acP;simp
  have a2:∀h,vIx (acP (.ct g)) (.int 2) h=.ok (.tup (g.map pl)) h:=λh=>by unfold acP;simp
  simp[d2,a0];refine now ?_;let⟨v,h',e,n⟩:=NM (δ:=[c_ a,c_ m,a_ (dvP nm sn (.ct g)),a_ (.str "cut")]) (tb:=uV) (mo:=mV 0) (ms:=aA (aG vAt (aG vAt (mV 2) (q_ 2)) (q_ 2)) aD) t nm (g:=g) (by rfl) (by simp) (by simp[d2,a2]);rw[aQ,cH];simp[w1];refine now ?_;rw[aQ,cH];simp[e];refine now ?_;rw[aQ,cH];simp[Ye];refine now ?_;rw[cH];simp[XY];exact k _ _ n
 |mk f l' w=>
  have a0:∀h,vIx (acP (.mk f l' w)) (.int 0) h=.ok (.str "mark") h:=λh=>by unfold acP;simp
  simp[d2,a0];refine now ?_;let⟨v,h',e,n⟩:=Jt (δ:=[c_ a,c_ m,a_ (dvP nm sn (.mk f l' w)),a_ (.str "mark")]) (tb:=uW) (mo:=mV 1) (ms:=aA (mV 2) aD) t nm sn (f:=f) (k:=l') (w:=w) fr (by rfl) (by simp) (by simp);rw[aQ,cH];simp[w2];refine now ?_;rw[aQ,cH];simp[w3];refine now ?_;rw[aQ,cH];simp[e];refine now ?_;rw[cH];simp[Yy];exact k _ _ n
 |cl f l' w=>
  have a0:∀h,vIx (acP (.cl f l' w)) (.int 0) h=.ok (.str "clear") h:=λh=>by unfold acP;simp
  simp[d2,a0];refine now ?_;let⟨v,h',l2,e,n⟩:=GC (δ:=[c_ a,c_ m,a_ (dvP nm sn (.cl f l' w)),a_ (.str "clear")]) (tb:=uX) (mo:=mV 1) (ms:=aA (mV 2) aD) t nm sn (f:=f) (k:=l') (w:=w) (by rfl) (by simp) (by simp);rw[aQ,cH];simp[w4];refine now ?_;rw[aQ,cH];simp[w5];refine now ?_;rw[aQ,cH];simp[w6];refine now ?_;rw[cH];simp[e];exact k _ _ n
 |no w xs=>
  have a0:∀h,vIx (acP (.no w xs)) (.int 0) h=.ok (.str w) h:=λh=>by unfold acP;simp
  simp[d2,a0];refine now ?_;let⟨o1,o2,o3,o4⟩:=ok;rw[aQ,cH];simp[o1];refine now ?_;rw[aQ,cH];simp[o2];refine now ?_;rw[aQ,cH];simp[o3];refine now ?_;rw[cH];simp[o4];exact k _ _ ⟨t.sg,t.mr,λi o _ _ _ e=>e,.inl rfl⟩
def DQ(R:k_ 0)(r:C_ St×Nat):(kQ R r).map (·.1)=if r.1∈R.map (·.1) then R.map (·.1) else R.map (·.1)++[r.1]:=by
 unfold kQ;split
 ·rw[Z7];refine y0W λq _=>?_
  show(if q.1=r.1 then r else q).1=q.1
  split
  ·rename_i e;exact e.symm
  ·rfl
 ·simp
theorem zF:∀(l R:k_ 0),(R.map (·.1)).Nodup->((l.foldl kQ R).map (·.1)).Nodup/\∀p∈(l.foldl kQ R).map (·.1),p∈R.map (·.1)\/p∈l.map (·.1)
 |[],R,nd=>⟨nd,λp hp=>.inl hp⟩
 |r::l,R,nd=>by
  have mn:((kQ R r).map (·.1)).Nodup:=by
   rw[DQ];split
   ·exact nd
   ·rename_i h;rw[y1b];refine⟨nd,by simp,λa ha b hb=>?_⟩;simp at hb;subst hb;exact λz=>h (z▸ha)
  let⟨h1,h2⟩:=zF l (kQ R r) mn;refine⟨h1,λp hp=>?_⟩;rcases h2 p hp with z|z
  ·rw[DQ]at z;split at z
   ·exact .inl z
   ·rcases ZQ.mp z with c|c
    ·exact .inl c
    ·simp at c;exact .inr (by rw[c];simp)
  ·exact .inr (by rw[ZM];exact Zh _ z)
structure Iv(q w:Nat)(Sp:C_ (C_ St))(R:k_ 0)(S:C_ Mrk):Prop where
 nd:(R.map (·.1)).Nodup
 sub:∀p∈R.map (·.1),p∈Sp
 sl:∀p∈Sp,p.length<=2*q
 sn:Sp.Nodup
 spl:Sp.length<=2*w
 wq:w<=q
 hU:∀s∈spS S,s.1∈Sp/\s.2∈Sp
 hz:∀m∈S,m.hs.length<=q
 lS:S.length<=q
 ne:S≠[]->w+1<=q
 nm:∀m∈S,m.nm.2<(q:Int)+3
theorem Iv.lR{Sp:C_ (C_ St)}{R:k_ 0}(i:Iv q w Sp R S):R.length<=Sp.length:=by
 have:=i.nd.length_le_of_subset i.sub
 rwa[Zg]at this
theorem Iv.ok{q w:Nat}{Sp:C_ (C_ St)}{R:k_ 0}{S:C_ Mrk}(i:Iv q w Sp R S)(hq:q<=16):OKm Sp R S:=by
 have l1:=i.lR;have l2:=i.spl;have l3:=i.wq;refine⟨⟨i.nd,λr hr=>?_,⋯⟩,i.hU,⋯,λp hp=>by have:=i.sl p hp;omega,λm hm=>by have:=i.hz m hm;omega,by have:=i.lS;omega,?_⟩
 ·have:=i.sl r.1 (i.sub r.1 (Zu.mpr ⟨r,hr,rfl⟩));omega
 ·by_cases e:S=[]
  ·subst e
   show _+0<64
   omega
  ·have:=i.ne e;have:=ER i.hU;omega
theorem Iv.sm{q w:Nat}{Sp:C_ (C_ St)}{R:k_ 0}{S:C_ Mrk}(i:Iv q w Sp R S)(hq:q<=16){h:PH}{a d m l:Nat}{R2:k_ 0}(p:R2.Perm R)(sg:kR h a d R2)(mr:bY h m l S):SM h a d m l R2 S:=⟨sg,mr,(i.ok hq).rk.perm p,by have:=i.lS;omega,λm hm=>by have:=i.hz m hm;omega⟩
def okB(Sp:C_ (C_ St)):Ac->Prop
 |.wr u s w=>(u=[]\/u∈Sp)/\1<=w.length/\w.length<=2/\Asc w
 |.ct _=>True
 |.mk f l _=>f∈Sp/\l∈Sp
 |.cl f l _=>f∈Sp/\l∈Sp
 |.no w _=>w≠"write" /\ w≠"cut" /\ w≠"mark" /\ w≠"clear"
theorem okB.ok{Sp:C_ (C_ St)}{q w:Nat}{R:k_ 0}{S:C_ Mrk}(i:Iv q w Sp R S)(hq:q<=16){ac:Ac}(h:okB Sp ac):okA ac:=by
 cases ac with
 |wr u s w=>
  refine⟨?_,h.2.1,by have:=h.2.2.1;omega,h.2.2.2⟩;rcases h.1 with z|z
  ·rw[z];simp
  ·have:=i.sl u z;omega
 |no w xs=>exact h
 |_=>exact trivial
def spN(Sp:C_ (C_ St))(Ro:k_ 0):C_ (C_ St):=Sp++(Ro.filter λr=>decide (r.1∉Sp)).map (·.1)
def xJ{Sp:C_ (C_ St)}{Ro:k_ 0}(h:∀p∈Ro.map (·.1),p∈Sp):spN Sp Ro=Sp:=by
 unfold spN;rw[List.filter_eq_nil_iff.mpr λr hr=>by simpa using h r.1 (Zu.mpr ⟨r,hr,rfl⟩)]
 simp
def Te{m:Mrk}{d:Dd}{s:C_ St×C_ St}(h:s∈spn (hol m d)):s∈spn m\/s=(d.f,d.l):=by
 unfold hol at h;split at h
 ·unfold spn at h⊢;rcases Zs.mp h with rfl|z
  ·exact .inl Zn
  ·rcases ZQ.mp z with c|c
   ·exact .inl (Zh _ c)
   ·simp at c;exact .inr c
 ·exact .inl h
def Qk(m:Mrk)(d:Dd):(hol m d).hs.length<=m.hs.length+1:=by unfold hol;split <;> simp
def DR{w:Str}(h:p∈(gX u s hd n w).map (·.1)):p∈mQ u s hd n w.length:=by let⟨r,hr,rfl⟩:=Zu.mp h;exact(List.of_mem_zip hr).1
theorem Iv.step{q w:Nat}{Sp:C_ (C_ St)}{R:k_ 0}{S:C_ Mrk}(i:Iv q w Sp R S){hd:Str}{sn:Seen}{ac:Ac}(ok:okB Sp ac){Ro:k_ 0}(p:Ro.Perm (stR (hd,(q:Int)+3) R ac)):∃w',Iv (q+1) w' (spN Sp Ro) (stR (hd,(q:Int)+3) R ac) (stS (hd,(q:Int)+3) sn S ac):=by
 have jq:∀p∈Sp,p.length<=2*(q+1):=λp hp=>by have:=i.sl p hp;omega
 have f7:∀m∈S,m.hs.length<=q+1:=λm hm=>by have:=i.hz m hm;omega
 have qh:∀m∈S,m.nm.2<((q+1:Nat):Int)+3:=λm hm=>by have:=i.nm m hm;omega
 have wq:=i.wq;have lS:=i.lS;have ne':S≠[]->w+1<=q:=i.ne;cases ac with
 |wr u s x=>
  let⟨hu,x1,x2,_⟩:=ok;let⟨f1,f2⟩:=zF (gX u s hd ((q:Int)+3) x) R i.nd;have pk:∀y,y∈Ro.map (·.1)↔y∈((gX u s hd ((q:Int)+3) x).foldl kQ R).map (·.1):=λy=>(p.map y0D).mem_iff;have Yl:(Ro.map (·.1)).Nodup:=(p.map y0D).nodup_iff.mpr f1;have new:∀y∈(Ro.filter λr=>decide (r.1∉Sp)).map (·.1),y∉Sp/\y∈mQ u s hd ((q:Int)+3) x.length:=λy hy=>by
   let⟨r,hr,rfl⟩:=Zu.mp hy;let⟨r1,r2⟩:=y2q.mp hr;have r2:r.1∉Sp:=of_decide_eq_true r2;refine⟨r2,?_⟩;rcases f2 r.1 ((pk r.1).mp (Zu.mpr ⟨r,r1,rfl⟩)) with z|z
   ·exact absurd (i.sub _ z) r2
   ·exact DR z
  have XA:((Ro.filter λr=>decide (r.1∉Sp)).map (·.1)).Nodup:=zD Yl;have ln:((Ro.filter λr=>decide (r.1∉Sp)).map (·.1)).length<=2:=by have:=XA.length_le_of_subset λy hy=>(new y hy).2;rw[wZ]at this;omega
  have ul:u.length<=2*q:=by
   rcases hu with z|z
   ·rw[z];simp
   ·exact i.sl u z
  refine⟨w+1,f1,λy hy=>?_,λy hy=>?_,?_,?_,⋯,λz hz=>?_,f7,by show S.length<=_;omega,λe=>?_,qh⟩
  ·by_cases c:y∈Sp
   ·exact Z5 _ c
   ·let⟨r,hr,rfl⟩:=Zu.mp ((pk y).mpr hy);exact Zo _ (Zu.mpr ⟨r,y2q.mpr ⟨hr,decide_eq_true c⟩,rfl⟩)
  ·rcases ZQ.mp hy with c|c
   ·exact jq y c
   ·let⟨j,hj,rfl⟩:=Zu.mp (new y c).2;rw[xH];have:=y2i.mp hj;omega
  ·unfold spN;rw[y1b];exact⟨i.sn,XA,λa ha b hb z=>(new b hb).1 (z▸ha)⟩
  ·unfold spN;rw[y0h];have:=i.spl;omega
  ·let⟨a,b⟩:=i.hU z hz;exact⟨Z5 _ a,Z5 _ b⟩
  ·have:=ne' e;omega
 |ct g=>
  have sb:∀y∈(mR R g).map (·.1),y∈Sp:=λy hy=>by let⟨r,hr,rfl⟩:=Zu.mp hy;exact i.sub _ (Zu.mpr ⟨r,(y2q.mp hr).1,rfl⟩)
  rw[xJ λy hy=>sb y ((p.map y0D).mem_iff.mp hy)];exact⟨w,zD i.nd,sb,jq,i.sn,i.spl,⋯,i.hU,f7,by show S.length<=_;omega,λe=>by have:=ne' e;omega,qh⟩
 |mk f l x=>
  rw[xJ λy hy=>i.sub y ((p.map y0D).mem_iff.mp hy)];refine⟨w,i.nd,i.sub,jq,i.sn,i.spl,⋯,λz hz=>?_,λm hm=>?_,by show(S++[_]).length<=_;simp;omega,λ_=>by omega,λm hm=>?_⟩
  ·rw[show spS (stS (hd,(q:Int)+3) sn S (.mk f l x))=spS S++spn ⟨(hd,(q:Int)+3),f,l,x,[]⟩ from BZ S _]at hz
   rcases ZQ.mp hz with c|c
   ·exact i.hU z c
   ·have:z=(f,l):=by simpa[spn] using c
    rw[this];exact ok
  ·rcases ZQ.mp hm with c|c
   ·exact f7 m c
   ·simp at c;rw[c];simp
  ·rcases ZQ.mp hm with c|c
   ·exact qh m c
   ·simp at c;rw[c]
    show(q:Int)+3<_
    omega
 |cl f l x=>
  rw[xJ λy hy=>i.sub y ((p.map y0D).mem_iff.mp hy)];refine⟨w,i.nd,i.sub,jq,i.sn,i.spl,⋯,λz hz=>?_,λm hm=>?_,by show(S.map _).length<=_;simp;omega,λe=>?_,λm hm=>?_⟩
  ·let⟨m,hm,hz⟩:=y2X.mp hz;let⟨m0,qm,rfl⟩:=Zu.mp hm;rcases Te hz with c|c
   ·exact i.hU z (y2X.mpr ⟨m0,qm,c⟩)
   ·rw[c];exact ok
  ·let⟨m0,qm,rfl⟩:=Zu.mp hm;have:=Qk m0 ⟨(hd,(q:Int)+3),sn,false,f,l,x⟩;have:=i.hz m0 qm;omega
  ·have:S≠[]:=λz=>e (by rw[z];rfl);have:=ne' this;omega
  ·let⟨m0,qm,rfl⟩:=Zu.mp hm;rw[(T7 m0 _).1];exact qh m0 qm
 |no x xs=>rw[xJ λy hy=>i.sub y ((p.map y0D).mem_iff.mp hy)];exact⟨w,i.nd,i.sub,jq,i.sn,i.spl,⋯,i.hU,f7,by show S.length<=_;omega,λe=>by have:=ne' e;omega,qh⟩
def NO{R R2:k_ 0}(nd:(R.map (·.1)).Nodup)(p:R2.Perm R)(ac:Ac):(stR nm R2 ac).Perm (stR nm R ac):=by
 cases ac with
 |wr u s w=>
  have put:∀(A B:k_ 0)(r:C_ St×Nat),A.Perm B->(kQ A r).Perm (kQ B r):=λA B r p=>by
   unfold kQ;by_cases c:r.1∈B.map (·.1)
   ·rw[if_pos c,if_pos ((p.map y0D).mem_iff.mpr c)];exact p.map _
   ·rw[if_neg c,if_neg λz=>c ((p.map y0D).mem_iff.mp z)];exact p.append_right _
  have all:∀(l A B:k_ 0),A.Perm B->(l.foldl kQ A).Perm (l.foldl kQ B):=λl=>by
   induction l with
   |nil=>exact λA B p=>p
   |cons r l ih=>exact λA B p=>ih _ _ (put A B r p)
  exact all _ _ _ p
 |ct g=>exact p.filter _
 |_=>exact p
abbrev sgn:Str:="ab Z~9,!"
def Ql:sgn.length<=16777216:=by decide +kernel
def Qm:∀i:Fin 6,∀j:Fin 2,(y24 sgn (a_ ((i.val:Nat):Int)) (a_ (((i.val:Nat):Int)+1+((j.val:Nat):Int)))).length=1+j.val/\((y24 sgn (a_ ((i.val:Nat):Int)) (a_ (((i.val:Nat):Int)+1+((j.val:Nat):Int)))).cps.toList.all λc=>decide (c<128))=true:=by decide +kernel
def Tf(h0:0<=i)(h1:i<6)(h2:0<=j)(h3:j<2):1<=(y24 sgn (a_ i) (a_ (i+1+j))).length/\(y24 sgn (a_ i) (a_ (i+1+j))).length<=2/\Asc (y24 sgn (a_ i) (a_ (i+1+j))):=by
 let⟨a,b⟩:=Qm ⟨i.toNat,⋯⟩ ⟨j.toNat,⋯⟩;have ei:((i.toNat:Nat):Int)=i:=⋯;have ej:((j.toNat:Nat):Int)=j:=⋯;simp only[ei,ej]at a b;exact⟨⋯,⋯,λc hc=>of_decide_eq_true (Zy.mp b c hc)⟩
def iP(c:Int):C_ Ac:=[.no "add" [t1,.int 5],.no "put" [t1,.int (c%1000000000000000000000000000000000000000)],.no "settle" [],.no "choose" [t1,.int 1]]
def Ir(Sp:C_ (C_ St))(c:Int):∀a∈iP c,okB Sp a:=by
 intro a ha;simp only[iP,Zs,y0w,or_false]at ha;rcases ha with rfl|rfl|rfl|rfl
 all_goals exact⟨by decide +kernel,by decide +kernel,by decide +kernel,by decide +kernel⟩
noncomputable def aWr:Ms:=(bD (cY 4 (aG vAt (aG cN (eY (aA (bH aD) aD)) (mV 1)) (aG fO (aG oZ (mV 2) (q_ 2)) (aG cN (mCB pB (aA (mV 1) aD)) (q_ 1)))))
  (bD (cY 5 (aG K9 (aG FQ (aG fO (mV 2) (q_ 2)) (q_ 2)) (q_ 1)))
  (bD (fV (dQ (aG vEq (mV 4) (bH aD)))
   (cY 5 (q_ 1))
   iA)
  (dR (bH (aA (mC (.str "write")) (aA (bH (aA (mC (.str "t")) (aA (q_ 1) aD))) (aA (mV 4) (aA (mV 5) (aA (mSl (mC (.str "ab Z~9,!")) (mP (aG fO (aG oZ (mV 2) (q_ 5)) (q_ 6))) (mP (aG cN (aG cN (aG fO (aG oZ (mV 2) (q_ 5)) (q_ 6)) (q_ 1)) (aG fO (aG oZ (mV 2) (q_ 30)) (q_ 2))))) aD))))))))))
noncomputable def R6:Ms:=(bD (cY 6 (aG vAt (mV 1) (aG fO (aG oZ (mV 2) (q_ 7)) (mCB pB (aA (mV 1) aD)))))
 (bD (cY 7 (aG vAt (mV 1) (aG fO (aG oZ (mV 2) (q_ 101)) (mCB pB (aA (mV 1) aD)))))
 (bD (fV (dQ (aG vEq (mV 3) (q_ 3)))
  (dR (bH (aA (mC (.str "cut")) (aA (bH (aA (mC (.str "t")) (aA (q_ 1) aD))) (aA (mCB nL (aA (mSl (eY (aA (mV 6) (aA (mV 7) aD))) Eg (mP (aG cN (q_ 1) (aG fO (mV 2) (q_ 2))))) aD)) aD)))))
  iA)
 (bD (fV (dQ (aG vLt (mV 3) (q_ 6)))
  (dR (bH (aA (mC (.str "mark")) (aA (bH (aA (mC (.str "t")) (aA (q_ 1) aD))) (aA (mV 6) (aA (mV 7) (aA (aG vAt (eY (aA (mC (.str "a")) (aA (mC (.str "ab")) (aA (mC (.str "b")) aD)))) (aG fO (mV 2) (q_ 3))) aD)))))))
  iA)
 (bD (fV (dQ (aG vEq (mV 3) (q_ 6)))
  (dR (bH (aA (mC (.str "clear")) (aA (bH (aA (mC (.str "t")) (aA (q_ 1) aD))) (aA (mV 6) (aA (mV 7) (aA (aG vAt (eY (aA (mC (.str "a")) (aA (mC (.str "ab")) (aA (mC (.str "b")) aD)))) (aG fO (mV 2) (q_ 3))) aD)))))))
  iA)
 (dR (aG vAt (eY (aA (bH (aA (mC (.str "add")) (aA (bH (aA (mC (.str "t")) (aA (q_ 1) aD))) (aA (q_ 5) aD)))) (aA (bH (aA (mC (.str "put")) (aA (bH (aA (mC (.str "t")) (aA (q_ 1) aD))) (aA (aG fO (mV 0) (aG Sg (q_ 10) (q_ 39))) aD)))) (aA (bH (aA (mC (.str "settle")) aD)) (aA (bH (aA (mC (.str "choose")) (aA (bH (aA (mC (.str "t")) (aA (q_ 1) aD))) (aA (q_ 1) aD)))) aD))))) (aG fO (mV 2) (q_ 4)))))))))
def NP(c N w:Int){Sp:C_ (C_ St)}(j3:Sp.length<=60){h:PH}(g:h[ls]?=a_ (.lst (Sp.map pl)))(E:FE)(k:∀ac h',Ext h h'->okB Sp ac->E.rt (acP ac) h'):(aWr [d_ c,c_ ls,d_ N,d_ w,b_,b_,b_,b_] h).W E:=by
 unfold aWr;have m6:=y26 (N/5) (b:=6) ⋯;have Yr:=Int.emod_lt_of_pos (N/5) (b:=6) ⋯;have m2:=y26 (N/30) (b:=2) ⋯;have m2':=Int.emod_lt_of_pos (N/30) (b:=2) ⋯;let⟨s1,s2,s3⟩:=Tf m6 Yr m2 m2';have x3:Ext h (h++[MO.lst [.tup []]]):=Ext.app _ _;have g3:(h++[MO.lst [.tup []]])[h.length]?=a_ (.lst [.tup []]):=aU;have vp:=tL g3 (x3 _ _ g) (by simp;omega);have e1:aG cN (eY (aA (bH aD) aD)) (mV 1) [d_ c,c_ ls,d_ N,d_ w,b_,b_,b_,b_] h=.ok (.ref (h++[MO.lst [.tup []]]).length) (h++[MO.lst [.tup []]]++[MO.lst ([PV.tup []]++Sp.map pl)]):=by simp only[wH,Em,Bm,J7,fE,Rs.bind_ok,UI];exact vp
 have x4:Ext (h++[MO.lst [.tup []]]) (h++[MO.lst [.tup []]]++[MO.lst ([PV.tup []]++Sp.map pl)]):=Ext.app _ _;have g4:(h++[MO.lst [.tup []]]++[MO.lst ([PV.tup []]++Sp.map pl)])[(h++[MO.lst [.tup []]]).length]?=a_ (.lst ([PV.tup []]++Sp.map pl)):=aU;have jm:=x3.trans x4;clear vp g3 x3 x4;generalize h++[MO.lst [.tup []]]++[MO.lst ([PV.tup []]++Sp.map pl)]=h4 at e1 jm g4;generalize (h++[MO.lst [.tup []]]).length=l4 at e1 g4;rw[show[PV.tup []]++Sp.map pl=(([]:C_ St)::Sp).map pl from rfl]at g4
 let⟨u,hu,eu⟩:=Gs (f:=pl) (xs:=([]:C_ St)::Sp) (by simp) (N/2);rw[show(((([]:C_ St)::Sp).length:Nat):Int)=(Sp.length:Int)+1 by simp]at eu;have xi:=FV (jm _ _ g);rw[Zg]at xi;have pos:(0:Int)<(Sp.length:Int)+1:=⋯
 have va:vIx (.ref l4) (.int (N/2%((Sp.length:Int)+1))) h4=.ok (pl u) h4:=by rw[jW g4,eu];rfl
 have hul:u=[]\/u∈Sp:=Zs.mp hu;generalize ((Sp.length:Nat):Int)=L at xi pos va;rw[aQ,qT,wH,e1,Rs.bind_ok];simp(disch:=omega) [xi,va];refine now ?_;rw[aQ];simp(disch:=omega);refine now ?_;have ve:vEq (pl u) (.tup []) h4=.ok (.bl (decide (pl u=.tup []))) h4:=HH (Jl u) rfl;have sl:=Ql;have fin:∀s:Int,(dR (bH (aA (mC (.str "write")) (aA (bH (aA (mC (.str "t")) (aA (q_ 1) aD))) (aA (mV 4) (aA (mV 5) (aA (mSl (mC (.str "ab Z~9,!")) (mP (aG fO (aG oZ (mV 2) (q_ 5)) (q_ 6))) (mP (aG cN (aG cN (aG fO (aG oZ (mV 2) (q_ 5)) (q_ 6)) (q_ 1)) (aG fO (aG oZ (mV 2) (q_ 30)) (q_ 2))))) aD)))))) [d_ c,c_ ls,d_ N,d_ w,a_ (pl u),d_ s,b_,b_] h4).W E:=λs=>by have vs:=Pk (lo:=a_ (N/5%6)) (hi:=a_ (N/5%6+1+N/30%2)) (h:=h4) sl;simp(disch:=omega) [vs];exact k (.wr u s (y24 sgn (a_ (N/5%6)) (a_ (N/5%6+1+N/30%2)))) h4 jm ⟨hul,s1,s2,s3⟩
 rw[aQ,cH];by_cases q:pl u=.tup []
 ·rw[decide_eq_true q]at ve;simp[ve];exact now (fin _)
 ·rw[decide_eq_false q]at ve;simp[ve];exact now (fin _)
def NQ(c N:Int){Sp:C_ (C_ St)}(h0:Sp≠[])(j3:Sp.length<=60){h:PH}(g:h[ls]?=a_ (.lst (Sp.map pl)))(E:FE)(k:∀ac h',Ext h h'->okB Sp ac->E.rt (acP ac) h'):(R6 [d_ c,c_ ls,d_ N,d_ (c%8),b_,b_,b_,b_] h).W E:=by
 unfold R6;have hv:=FV g;rw[Zg]at hv;let⟨f,hf,ef⟩:=Gs (f:=pl) h0 (N/7);let⟨l,hl,el⟩:=Gs (f:=pl) h0 (N/101);have vf:vIx (.ref ls) (.int (N/7%(Sp.length:Int))) h=.ok (pl f) h:=by rw[jW g,ef];rfl
 have vl:vIx (.ref ls) (.int (N/101%(Sp.length:Int))) h=.ok (pl l) h:=by rw[jW g,el];rfl
 have pos:(0:Int)<(Sp.length:Int):=by have:=List.length_pos_iff.mpr h0;omega
 generalize ((Sp.length:Nat):Int)=L at hv pos vf vl;rw[aQ];simp(disch:=omega) [hv,vf];refine now ?_;rw[aQ];simp(disch:=omega) [hv,vl];refine now ?_;rw[aQ,cH];by_cases q3:c%8=3
 ·have xA:Ext h (h++[MO.lst [pl f,pl l]]):=Ext.app _ _;have gA:(h++[MO.lst [pl f,pl l]])[h.length]?=a_ (.lst [pl f,pl l]):=aU;obtain⟨G,hG⟩:∃G:C_ (C_ St),yS [pl f,pl l] b_ (a_ (1+N%2))=G.map pl:=by
   have:N%2=0\/N%2=1:=⋯;rcases this with z|z
   ·exact⟨[f],by rw[z];rfl⟩
   ·exact⟨[f,l],by rw[z];rfl⟩
  have e1:mSl (eY (aA (mV 6) (aA (mV 7) aD))) Eg (mP (aG cN (q_ 1) (aG fO (mV 2) (q_ 2)))) [d_ c,c_ ls,d_ N,d_ (c%8),b_,b_,a_ (pl f),a_ (pl l)] h=.ok (.ref (h++[MO.lst [pl f,pl l]]).length) (h++[MO.lst [pl f,pl l]]++[MO.lst (G.map pl)]):=by have sl:=Ja (lo:=b_) (hi:=a_ (1+N%2)) gA;rw[hG]at sl;simp(disch:=omega) [sl]
  have xB:Ext (h++[MO.lst [pl f,pl l]]) (h++[MO.lst [pl f,pl l]]++[MO.lst (G.map pl)]):=Ext.app _ _;have gB:(h++[MO.lst [pl f,pl l]]++[MO.lst (G.map pl)])[(h++[MO.lst [pl f,pl l]]).length]?=a_ (.lst (G.map pl)):=aU;have tv:=Qd gB;have x2:=xA.trans xB;clear xA xB gA gB;generalize h++[MO.lst [pl f,pl l]]++[MO.lst (G.map pl)]=hB at e1 tv x2;generalize (h++[MO.lst [pl f,pl l]]).length=lB at e1 tv;simp[q3];simp[q3]at e1;simp[e1,tv];exact k (.ct G) _ x2 trivial
 simp[q3];refine now ?_;rw[aQ,cH];let⟨w,_,ew⟩:=Gs (f:=PV.str) (xs:=[("a" : Str),"ab","b"]) (by simp) N;have ew:atI [PV.str "a",PV.str "ab",PV.str "b"] (N%3)=a_ (.str w):=ew;by_cases q6:c%8<6
 ·have gA:(h++[MO.lst [PV.str "a",PV.str "ab",PV.str "b"]])[h.length]?=a_ (.lst [PV.str "a",PV.str "ab",PV.str "b"]):=aU;have va:vIx (.ref h.length) (.int (N%3)) (h++[MO.lst [PV.str "a",PV.str "ab",PV.str "b"]])=.ok (.str w) (h++[MO.lst [PV.str "a",PV.str "ab",PV.str "b"]]):=by rw[jW gA,ew];rfl
  simp(disch:=omega) [q6,va];exact k (.mk f l w) _ (Ext.app _ _) ⟨hf,hl⟩
 simp[q6];refine now ?_;rw[aQ,cH];by_cases q7:c%8=6
 ·have gA:(h++[MO.lst [PV.str "a",PV.str "ab",PV.str "b"]])[h.length]?=a_ (.lst [PV.str "a",PV.str "ab",PV.str "b"]):=aU;have va:vIx (.ref h.length) (.int (N%3)) (h++[MO.lst [PV.str "a",PV.str "ab",PV.str "b"]])=.ok (.str w) (h++[MO.lst [PV.str "a",PV.str "ab",PV.str "b"]]):=by rw[jW gA,ew];rfl
  simp(disch:=omega) [q7,va];exact k (.cl f l w) _ (Ext.app _ _) ⟨hf,hl⟩
 simp[q7];refine now ?_;let⟨ac,Y6,ea⟩:=Gs (f:=acP) (xs:=iP c) (by simp[iP]) N;have ea:atI ((iP c).map acP) (N%4)=a_ (acP ac):=ea;have gA:(h++[MO.lst ((iP c).map acP)])[h.length]?=a_ (.lst ((iP c).map acP)):=aU;have va:vIx (.ref h.length) (.int (N%4)) (h++[MO.lst ((iP c).map acP)])=.ok (acP ac) (h++[MO.lst ((iP c).map acP)]):=by rw[jW gA,ea];rfl
 have el:(iP c).map acP=[.tup [.str "add",t1,.int 5],.tup [.str "put",t1,.int (c%1000000000000000000000000000000000000000)],.tup [.str "settle"],.tup [.str "choose",t1,.int 1]]:=rfl;have fin:=k ac _ (Ext.app h [MO.lst ((iP c).map acP)]) (Ir Sp c ac Y6);rw[el]at va fin;simp(disch:=omega) [va];exact fin
def Tg(c:Int){Sp:C_ (C_ St)}(j3:Sp.length<=60){h:PH}(g:h[ls]?=a_ (.lst (Sp.map pl)))(Q:PV->PH->Prop)(k:∀ac h',Ext h h'->okB Sp ac->Q (acP ac) h'):(Jj [.int c,.ref ls] h).W Q:=by
 refine fW ?_;unfold Nf;rw[qa_ 8 [PV.int c,PV.ref ls] [d_ c,c_ ls,b_,b_,b_,b_,b_,b_]]
 rw[aQ];simp;refine now ?_;rw[aQ];simp(disch:=omega);generalize mixed c 1=N;refine now ?_;rw[aQ,cH];by_cases q:c%8<3
 ·have et:Ef (dQ (aG vLt (mV 3) (q_ 3))) (dQ (aG vEq (mV 1) (eY aD))) [d_ c,c_ ls,d_ N,d_ (c%8),b_,b_,b_,b_] h=.ok true h:=by simp[q]
  rw[et,iX,if_pos rfl];exact NP c N (c%8) j3 g _ k
 ·have xA:Ext h (h++[MO.lst []]):=Ext.app _ _;have gA:(h++[MO.lst []])[h.length]?=a_ (.lst []):=aU;have ve:=Pi (xA _ _ g) gA (NI Sp) rfl;have et:Ef (dQ (aG vLt (mV 3) (q_ 3))) (dQ (aG vEq (mV 1) (eY aD))) [d_ c,c_ ls,d_ N,d_ (c%8),b_,b_,b_,b_] h=.ok (decide (Sp.map pl=[])) (h++[MO.lst []]):=by simp[q,ve]
  have gs:=xA _ _ g;rw[et,iX];generalize h++[MO.lst []]=hA at xA gs;by_cases z:Sp=[]
  ·rw[decide_eq_true (by rw[z];rfl),if_pos rfl];exact NP c N (c%8) j3 gs _ λac h' x o=>k ac h' (xA.trans x) o
  ·rw[decide_eq_false (λy=>z (List.map_eq_nil_iff.mp y)),if_neg (by simp),UH];exact now (NQ c N z j3 gs _ λac h' x o=>k ac h' (xA.trans x) o)
def kd(h:PH)(i:Nat):Nat:=match h[i]? with
 |some (.ins c _)=>if c="Text" then 0 else if c="Signs" then 1 else 2
 |some (.lst _)=>4
 |_=>3
def bQ(e1:kd h i=x)(e2:kd h j=y)(n:x≠y):i≠j:=λz=>n (by rw[<-e1,<-e2,z])
def pV{h:PH}(e:h[i]?=a_ (.lst xs)):kd h i=4:=by unfold kd;rw[e]
def CG{h:PH}(e:h[i]?=a_ (.ins "Text" fs)):kd h i=0:=by unfold kd;rw[e];simp
def C6{h:PH}(e:h[i]?=a_ (.ins "Signs" fs)):kd h i=1:=by
 unfold kd;rw[e]
 show(if("Signs" : Str)="Text" then 0 else _)=_
 rw[if_neg (by decide +kernel),if_pos rfl]
def xK{h:PH}(e:h[i]?=a_ (.ins "Marks" fs)):kd h i=2:=by
 unfold kd;rw[e]
 show(if("Marks" : Str)="Text" then 0 else _)=_
 rw[if_neg (by decide +kernel),if_neg (by decide +kernel)]
def CH(t:bW h i=a_ kvs):kd h i=3:=by let⟨o,ho,hd,hi⟩:=tR t;unfold kd;rw[ho];cases o <;> first|rfl|cases hi|cases hd
structure W3(h:PH)(t a d m l:Nat)(R1:k_ 0)(S1:C_ Mrk)(sa sd ma ml:Nat)(R3:k_ 0)(S3:C_ Mrk)(o oa od om ol:Nat)(R2:k_ 0)(S2:C_ Mrk)(ls:Nat)(Sp:C_ (C_ St)):Prop where
 T:cQ h t a d m l R1 S1
 sg:kR h sa sd R3
 mr:bY h ma ml S3
 O:cQ h o oa od om ol R2 S2
 gs:h[ls]?=some (.lst (Sp.map pl))
 nd:d≠sd/\d≠od/\sd≠od
 nm:m≠ma/\m≠om/\ma≠om
 nl:l≠ml/\l≠ol/\ml≠ol/\l≠ls/\ml≠ls/\ol≠ls
 na:oa≠a/\oa≠sa
section
variable{h h':PH}{t a d m l sa sd ma ml o oa od om ol ls:Nat}{R1 R2 R3:k_ 0}{S1 S2 S3:C_ Mrk}{Sp:C_ (C_ St)}
def DS(fr:∀i o,i≠d0->i≠m0->i≠l0->h[i]?=a_ o->h'[i]?=a_ o)(kD:kd h d0=3)(kM:kd h m0=2)(kL:kd h l0=4)(sg:kR h a d R1)(mr:bY h m l S1)(nd:d≠d0)(nm:m≠m0)(nl:l≠l0):kR h' a d R1/\bY h' m l S1:=by have ka:=C6 sg.1;have Xq:=CH sg.2;have km:=xK mr.1;have kl:=pV mr.2;exact⟨lM sg (λo=>fr _ o nd (bQ Xq kM nofun) (bQ Xq kL nofun)) (λo=>fr _ o (bQ ka kD nofun) (bQ ka kM nofun) (bQ ka kL nofun)),fr _ _ (bQ km kD nofun) nm (bQ km kL nofun) mr.1,fr _ _ (bQ kl kD nofun) (bQ kl kM nofun) nl mr.2⟩
def DT(fr:∀i o,i≠d0->i≠m0->i≠l0->h[i]?=a_ o->h'[i]?=a_ o)(kD:kd h d0=3)(kM:kd h m0=2)(kL:kd h l0=4)(e:h[t]?=a_ (.ins "Text" fs)):h'[t]?=a_ (.ins "Text" fs):=fr _ _ (bQ (CG e) kD nofun) (bQ (CG e) kM nofun) (bQ (CG e) kL nofun) e
def NR(fr:∀i o,i≠d0->i≠m0->i≠l0->h[i]?=a_ o->h'[i]?=a_ o)(kD:kd h d0=3)(kM:kd h m0=2)(e:h[ls]?=a_ (.lst xs))(n:ls≠l0):h'[ls]?=a_ (.lst xs):=fr _ _ (bQ (pV e) kD nofun) (bQ (pV e) kM nofun) n e
def pW(lt:l'=l\/h.length<=l')(e:h[j]?=a_ (.lst xs))(n:l≠j):l'≠j:=by
 rcases lt with z|z
 ·rw[z];exact n
 ·have:=(Zc.mp e).1;omega
theorem W3.hear1(k:W3 h t a d m l R1 S1 sa sd ma ml R3 S3 o oa od om ol R2 S2 ls Sp)(n:New h h' a d m l l' R' S'):W3 h' t a d m l' R' S' sa sd ma ml R3 S3 o oa od om ol R2 S2 ls Sp:=by have kD:=CH k.T.sg.2;have kM:=xK k.T.mr.1;have kL:=pV k.T.mr.2;let⟨nd,nm,nl⟩:=And.intro k.nd (And.intro k.nm k.nl);let⟨s1,m1⟩:=DS n.fr kD kM kL k.sg k.mr (ZV nd.1) (ZV nm.1) (ZV nl.1);let⟨s2,m2⟩:=DS n.fr kD kM kL k.O.sg k.O.mr (ZV nd.2.1) (ZV nm.2.1) (ZV nl.2.1);exact⟨⟨DT n.fr kD kM kL k.T.tx,n.sg,n.mr⟩,s1,m1,⟨DT n.fr kD kM kL k.O.tx,s2,m2⟩,NR n.fr kD kM k.gs (ZV nl.2.2.2.1),nd,nm,⟨pW n.ls k.mr.2 nl.1,pW n.ls k.O.mr.2 nl.2.1,nl.2.2.1,pW n.ls k.gs nl.2.2.2.1,nl.2.2.2.2⟩,k.na⟩
theorem W3.hear3(k:W3 h t a d m l R1 S1 sa sd ma ml R3 S3 o oa od om ol R2 S2 ls Sp)(n:New h h' sa sd ma ml l' R' S'):W3 h' t a d m l R1 S1 sa sd ma l' R' S' o oa od om ol R2 S2 ls Sp:=by have kD:=CH k.sg.2;have kM:=xK k.mr.1;have kL:=pV k.mr.2;let⟨nd,nm,nl⟩:=And.intro k.nd (And.intro k.nm k.nl);let⟨s1,m1⟩:=DS n.fr kD kM kL k.T.sg k.T.mr nd.1 nm.1 nl.1;let⟨s2,m2⟩:=DS n.fr kD kM kL k.O.sg k.O.mr (ZV nd.2.2) (ZV nm.2.2) (ZV nl.2.2.1);exact⟨⟨DT n.fr kD kM kL k.T.tx,s1,m1⟩,n.sg,n.mr,⟨DT n.fr kD kM kL k.O.tx,s2,m2⟩,NR n.fr kD kM k.gs (ZV nl.2.2.2.2.1),nd,nm,⟨ZV (pW n.ls k.T.mr.2 (ZV nl.1)),nl.2.1,pW n.ls k.O.mr.2 nl.2.2.1,nl.2.2.2.1,pW n.ls k.gs nl.2.2.2.2.1,nl.2.2.2.2.2⟩,k.na⟩
theorem W3.hear2(k:W3 h t a d m l R1 S1 sa sd ma ml R3 S3 o oa od om ol R2 S2 ls Sp)(n:New h h' oa od om ol l' R' S'):W3 h' t a d m l R1 S1 sa sd ma ml R3 S3 o oa od om l' R' S' ls Sp:=by have kD:=CH k.O.sg.2;have kM:=xK k.O.mr.1;have kL:=pV k.O.mr.2;let⟨nd,nm,nl⟩:=And.intro k.nd (And.intro k.nm k.nl);let⟨s1,m1⟩:=DS n.fr kD kM kL k.T.sg k.T.mr nd.2.1 nm.2.1 nl.2.1;let⟨s2,m2⟩:=DS n.fr kD kM kL k.sg k.mr nd.2.2 nm.2.2 nl.2.2.1;exact⟨⟨DT n.fr kD kM kL k.T.tx,s1,m1⟩,s2,m2,⟨DT n.fr kD kM kL k.O.tx,n.sg,n.mr⟩,NR n.fr kD kM k.gs (ZV nl.2.2.2.2.2),nd,nm,⟨nl.1,ZV (pW n.ls k.T.mr.2 (ZV nl.2.1)),ZV (pW n.ls k.mr.2 (ZV nl.2.2.1)),nl.2.2.2.1,nl.2.2.2.2.1,pW n.ls k.gs nl.2.2.2.2.2⟩,k.na⟩
theorem W3.ext(k:W3 h t a d m l R1 S1 sa sd ma ml R3 S3 o oa od om ol R2 S2 ls Sp)(x:Ext h h'):W3 h' t a d m l R1 S1 sa sd ma ml R3 S3 o oa od om ol R2 S2 ls Sp:=⟨k.T.ext x,k.sg.ext x,k.mr.ext x,k.O.ext x,x _ _ k.gs,k.nd,k.nm,k.nl,k.na⟩
theorem W3.spot(k:W3 h t a d m l R1 S1 sa sd ma ml R3 S3 o oa od om ol R2 S2 ls Sp){Xm:C_ (C_ St)}(x:Ext h h')(g:h'[l']?=a_ (.lst (Xm.map pl)))(b:h.length<=l'):W3 h' t a d m l R1 S1 sa sd ma ml R3 S3 o oa od om ol R2 S2 l' Xm:=by have l1:=(Zc.mp k.T.mr.2).1;have l2:=(Zc.mp k.mr.2).1;have l3:=(Zc.mp k.O.mr.2).1;let⟨n1,n2,n3,_⟩:=k.nl;exact⟨k.T.ext x,k.sg.ext x,k.mr.ext x,k.O.ext x,g,k.nd,k.nm,⟨n1,n2,n3,⋯,⋯,⋯⟩,k.na⟩
def GD{Ro:k_ 0}{S:C_ Mrk}(O:cQ h o oa od om ol R2 S2)(g4:h[n4]?=a_ (.lst (Ro.map rwP)))(nd:(Ro.map (·.1)).Nodup)(r6:nQ h n6 S zs)(lS:S.length<64)(Q:PV->PH->Prop)(k:∀h' aw av,cQ h' o oa aw om av Ro S->h.length<=aw->h.length<=av->(∀i ob,i≠oa->i≠om->h[i]?=a_ ob->h'[i]?=a_ ob)->Q .non h'):(eN [.ref o,.tup [.ref n4,.ref n6]] h).W Q:=by
 have ka:=C6 O.sg.1;have km:=xK O.mr.1;have kt:=CG O.tx;have la:=(Zc.mp O.sg.1).1;refine fW ?_;unfold rZ;rw[qa_ 4 [PV.ref o,PV.tup [.ref n4,.ref n6]] [c_ o,a_ (.tup [.ref n4,.ref n6]),b_,b_],aQ]
 simp;refine now ?_;have e1:=NK O.sg g4 nd;have gd:((h++[MO.dD (kvR Ro)]).set oa (.ins "Signs" [("kept",.ref h.length)]))[h.length]?=a_ (.dD (kvR Ro)):=by rw[Zk ⋯];exact aU
 have ga:((h++[MO.dD (kvR Ro)]).set oa (.ins "Signs" [("kept",.ref h.length)]))[oa]?=a_ (.ins "Signs" [("kept",.ref h.length)]):=gU (Ext.app _ _ _ _ O.sg.1);have je:∀i ob,i≠oa->h[i]?=a_ ob->((h++[MO.dD (kvR Ro)]).set oa (.ins "Signs" [("kept",.ref h.length)]))[i]?=a_ ob:=λi ob hi e=>by rw[Zk (ZV hi)];exact Ext.app _ _ _ _ e
 have ll:h.length<=((h++[MO.dD (kvR Ro)]).set oa (.ins "Signs" [("kept",.ref h.length)])).length:=by simp
 generalize (h++[MO.dD (kvR Ro)]).set oa (.ins "Signs" [("kept",.ref h.length)])=h1 at e1 gd ga je ll;have m1:bA "fill" 1 mK (mUn (dS "signs") (mV 0)) (aA (mV 2) aD) [c_ o,a_ (.tup [.ref n4,.ref n6]),c_ n4,c_ n6] h=.ok .non h1:=by rw[Qe O.sg (f:=cG) (by rfl) rfl (by simp[O.f1])];simp[e1]
 rw[aQ];simp[m1];refine now ?_;have vx:=je _ _ (bQ kt ka nofun) O.tx;have vv:bY h1 om ol S2:=⟨je _ _ (bQ km ka nofun) O.mr.1,je _ _ (bQ (pV O.mr.2) ka nofun) O.mr.2⟩;have Yb:nQ h1 n6 S zs:=⟨r6.1,je _ _ (bQ (pV r6.2.1) ka nofun) r6.2.1,λz hz=>je _ _ (bQ (pV (r6.2.2 z hz)) ka nofun) (r6.2.2 z hz)⟩;let⟨v,h2,e2,l',rfl,t2,g8,b2⟩:=dY (Q8 lS vv Yb (λv h'=>∃cw,v=.non/\bY h' om cw S/\(∀n o,n≠om->h1[n]?=a_ o->h'[n]?=a_ o)/\h1.length<=cw) λh' cw t f b=>⟨cw,rfl,t,f,b⟩);have f2:dS "marks" (.ref o) h1=.ok (.ref om) h1:=pI vx (by rfl);have m2:bA "fill" 1 mL (mUn (dS "marks") (mV 0)) (aA (mV 3) aD) [c_ o,a_ (.tup [.ref n4,.ref n6]),c_ n4,c_ n6] h1=.ok .non h2:=by rw[Ae vv (f:=cO) (by rfl) nofun (by simp[f2])];simp[e2]
 simp[m2];have td:bW h1 h.length=a_ (kvR Ro):=by simp[bW,gd]
 have kD:=CH td;have k1:kd h1 om=2:=xK vv.1;refine k h2 h.length l' ⟨g8 _ _ (bQ (CG vx) k1 nofun) vx,lM (h:=h1) ⟨ga,td⟩ (λo=>g8 _ o (bQ kD k1 nofun)) (λo=>g8 _ o (bQ (C6 ga) k1 nofun)),t2⟩ (Zi _) ⋯ λi ob dm b7 e=>g8 _ _ b7 (je _ _ dm e)
end
section
variable{h h':PH}{t a d m l sa sd ma ml o oa od om ol ls:Nat}{R R1 R2 R3:k_ 0}{S S1 S2 S3:C_ Mrk}{Sp:C_ (C_ St)}
theorem cQ.frm(T:cQ h t a d m l R S)(fr:∀i ob,i=t\/i=a\/i=d\/i=m\/i=l->h[i]?=a_ ob->h'[i]?=a_ ob):cQ h' t a d m l R S:=⟨fr _ _ (by simp) T.tx,lM T.sg (λo=>fr _ o (by simp)) (λo=>fr _ o (by simp)),fr _ _ (by simp) T.mr.1,fr _ _ (by simp) T.mr.2⟩
theorem W3.fill(k:W3 h t a d m l R1 S1 sa sd ma ml R3 S3 o oa od om ol R2 S2 ls Sp)(O:cQ h' o oa aw om av Ro S')(b1:h.length<=aw)(b2:h.length<=av)(fr:∀i ob,i≠oa->i≠om->h[i]?=a_ ob->h'[i]?=a_ ob):W3 h' t a d m l R1 S1 sa sd ma ml R3 S3 o oa aw om av Ro S' ls Sp:=by
 have kA:=C6 k.O.sg.1;have kM:=xK k.O.mr.1;have k1:=CG k.T.tx;have k2:=C6 k.T.sg.1;have k3:=CH k.T.sg.2;have k4:=xK k.T.mr.1;have k5:=pV k.T.mr.2;have k6:=C6 k.sg.1;have k7:=CH k.sg.2;have k8:=xK k.mr.1;have k9:=pV k.mr.2;have yk:=pV k.gs;have l1:=(Zc.mp k.T.mr.2).1;have l2:=(Zc.mp k.mr.2).1;have l3:=(Zc.mp k.gs).1;have l4:=Im k.T.sg.2;have l5:=Im k.sg.2;let⟨n1,n2,n3,n4,n5,n6⟩:=k.nl;refine⟨k.T.frm λi ob hi e=>?_,lM k.sg (λo=>fr _ o (bQ k7 kA nofun) (bQ k7 kM nofun)) (λo=>fr _ o (ZV k.na.2) (bQ k6 kM nofun)),⟨fr _ _ (bQ k8 kA nofun) k.nm.2.2 k.mr.1,fr _ _ (bQ k9 kA nofun) (bQ k9 kM nofun) k.mr.2⟩,O,fr _ _ (bQ yk kA nofun) (bQ yk kM nofun) k.gs,⟨k.nd.1,⋯,⋯⟩,k.nm,⟨n1,⋯,⋯,n4,n5,⋯⟩,k.na⟩;rcases hi with rfl|rfl|rfl|rfl|rfl
 ·exact fr _ _ (bQ k1 kA nofun) (bQ k1 kM nofun) e
 ·exact fr _ _ (ZV k.na.1) (bQ k2 kM nofun) e
 ·exact fr _ _ (bQ k3 kA nofun) (bQ k3 kM nofun) e
 ·exact fr _ _ (bQ k4 kA nofun) k.nm.2.1 e
 ·exact fr _ _ (bQ k5 kA nofun) (bQ k5 kM nofun) e
theorem W3.wipe(k:W3 h t a d m l R1 S1 sa sd ma ml R3 S3 o oa od om ol R2 S2 ls Sp)(g:h[n]?=a_ (.lst xs))(n1:n≠l)(n2:n≠ml)(n3:n≠ol)(n4:n≠ls):W3 (h.set n (.lst [])) t a d m l R1 S1 sa sd ma ml R3 S3 o oa od om ol R2 S2 ls Sp:=by
 have kN:=pV g;have fr:∀i ob,i≠n->h[i]?=a_ ob->(h.set n (.lst []))[i]?=a_ ob:=λi ob hi e=>by rw[Zk (ZV hi)];exact e
 refine⟨k.T.frm λi ob hi e=>fr i ob ?_ e,lM k.sg (λo=>fr _ o (bQ (CH k.sg.2) kN nofun)) (λo=>fr _ o (bQ (C6 k.sg.1) kN nofun)),⟨fr _ _ (bQ (xK k.mr.1) kN nofun) k.mr.1,fr _ _ (ZV n2) k.mr.2⟩,k.O.frm λi ob hi e=>fr i ob ?_ e,fr _ _ (ZV n4) k.gs,k.nd,k.nm,k.nl,k.na⟩
 ·rcases hi with rfl|rfl|rfl|rfl|rfl
  ·exact bQ (CG k.T.tx) kN nofun
  ·exact bQ (C6 k.T.sg.1) kN nofun
  ·exact bQ (CH k.T.sg.2) kN nofun
  ·exact bQ (xK k.T.mr.1) kN nofun
  ·exact ZV n1
 ·rcases hi with rfl|rfl|rfl|rfl|rfl
  ·exact bQ (CG k.O.tx) kN nofun
  ·exact bQ (C6 k.O.sg.1) kN nofun
  ·exact bQ (CH k.O.sg.2) kN nofun
  ·exact bQ (xK k.O.mr.1) kN nofun
  ·exact ZV n3
def KQ(k:W3 h t a d m l R S sa sd ma ml R S o oa od om ol R2 S2 ls Sp)(ok:OKm U R S)(Q:PV->PH->Prop)(fin:∀h' aw av Ro,Ro.Perm R->W3 h' t a d m l R S sa sd ma ml R S o oa aw om av Ro S ls Sp->Q (.bl true) h'):(wU [.ref t,.ref o,.ref sa,.ref ma] h).W Q:=by
 let⟨Ro,p,s⟩:=EV k.sg ok.rk;have lS:=ok.lS;refine fW ?_;unfold BP;rw[qa_ 6 [PV.ref t,PV.ref o,PV.ref sa,PV.ref ma] [c_ t,c_ o,c_ sa,c_ ma,b_,b_]]
 let⟨h1,n4,x1,b1,g1,e1⟩:=pT (δ:=[c_ t,c_ o,c_ sa,c_ ma,b_,b_]) (h:=h) (tb:=sD) (mo:=mV 2) k.sg ok.rk p s (by rfl) (by simp);rw[aQ,qT,e1,iX];simp only[y0r,y0s];refine now ?_;have k1:=k.ext x1;let⟨h2,n6,zs,x2,b2,r2,o2,e2⟩:=C5 (δ:=[c_ t,c_ o,c_ sa,c_ ma,c_ n4,b_]) (h:=h1) (tb:=sE) (mo:=mV 3) k1.mr lS (by rfl) (by simp);rw[aQ];simp[e2];have k2:=k1.ext x2;have g2:=x2 _ _ g1;refine now ?_;rw[aQ];let⟨v3,h3,e3,aw,av,rfl,O3,b3,Y2,ja⟩:=dY (GD k2.O g2 (ok.rk.perm p).nd r2 lS (λv h'=>∃aw av,v=.non/\cQ h' o oa aw om av Ro S/\h2.length<=aw/\h2.length<=av/\∀i ob,i≠oa->i≠om->h2[i]?=a_ ob->h'[i]?=a_ ob) λh' aw av O b b' f=>⟨aw,av,rfl,O,b,b',f⟩);have m3:bA "fill" 1 sF (mV 1) (aA (mV 5) aD) [c_ t,c_ o,c_ sa,c_ ma,c_ n4,a_ (.tup [.ref n4,.ref n6])] h2=.ok .non h3:=by rw[eL (k:=o) (f:=eN) (by simp) k2.O.tx (by rfl) (by rfl)];simp[e3]
 simp[m3];have k3:=k2.fill O3 b3 Y2 ja;have kA:=C6 k2.O.sg.1;have kM:=xK k2.O.mr.1;have g3:=ja _ _ (bQ (pV g2) kA nofun) (bQ (pV g2) kM nofun) g2;have r3:nQ h3 n6 S zs:=⟨r2.1,ja _ _ (bQ (pV r2.2.1) kA nofun) (bQ (pV r2.2.1) kM nofun) r2.2.1,λz hz=>ja _ _ (bQ (pV (r2.2.2 z hz)) kA nofun) (bQ (pV (r2.2.2 z hz)) kM nofun) (r2.2.2 z hz)⟩;refine now ?_;rw[aQ,cH];let⟨h4,n7,x4,b4,g4,e4⟩:=pT (δ:=[c_ t,c_ o,c_ sa,c_ ma,c_ n4,a_ (.tup [.ref n4,.ref n6])]) (h:=h3) (tb:=sH) (mo:=mV 2) k3.sg ok.rk p s (by rfl) (by simp);have k4:=k3.ext x4;let⟨h5,n8,us,x5,b5,r5,o5,e5⟩:=C5 (δ:=[c_ t,c_ o,c_ sa,c_ ma,c_ n4,a_ (.tup [.ref n4,.ref n6])]) (h:=h4) (tb:=sG) (mo:=mV 3) k4.mr lS (by rfl) (by simp);have p8:=x4.trans x5;have q:Ez (.tup [.ref n4,.ref n6]) (.tup [.ref n7,.ref n8]) h5=.ok (.bl false) h5:=Iq (EW (pU (p8 _ _ g3) (x5 _ _ g4) (NH _) 2) (C3 (F:=mF) (G:=hF) R0 R5 (r3.1.trans r5.1.symm) (λz hz=>p8 _ _ (r3.2.2 z hz)) r5.2.2 (p8 _ _ r3.2.1) r5.2.1 0));simp[e4,e5,q];have k5:=k4.ext x5;have ln4:=(Zc.mp g1).1;have ln6:=(Zc.mp r2.2.1).1;have l1:=(Zc.mp k.T.mr.2).1;have l2:=(Zc.mp k.mr.2).1;have l3:=(Zc.mp k.gs).1;have l01:=x1.len;have zk:=x2.len;have g5:=p8 _ _ g3;have j6:=tQ g5;have YZ:=jX g5;have k6:=k5.wipe g5 ⋯ ⋯ ⋯ ⋯;have g6:(h5.set n4 (.lst []))[n6]?=a_ (.lst (zs.map rwV)):=by rw[Zk ⋯];exact p8 _ _ r3.2.1
 refine now ?_;rw[aQ];simp[YZ,j6];generalize h5.set n4 (MO.lst [])=h6 at k6 g6;have lh:=tQ g6;have u4:=jX g6;have k7:=k6.wipe g6 ⋯ ⋯ ⋯ ⋯;refine now ?_;rw[aQ];simp[u4,lh];generalize h6.set n6 (MO.lst [])=h7 at k7;refine now ?_;let⟨v8,h8,e8,rfl,x8⟩:=dY (xI k7.T k7.sg k7.mr ok (y0f _) (λv h'=>v=.bl true/\Ext h7 h') λh' x=>⟨rfl,x⟩);have k8:=k7.ext x8;let⟨v9,h9,e9,rfl,x9⟩:=dY (xI k8.O k8.sg k8.mr ok p (λv h'=>v=.bl true/\Ext h8 h') λh' x=>⟨rfl,x⟩);simp[e8,e9];exact fin h9 aw av Ro p (k8.ext x9)
end
def LI(ns:C_ Int)(c:Int)(hd:Str)(t a d m sa sd ma o oa om q:Nat)(δ:Ev)(h:PH):Prop:=∃l ml od ol R S R2 S2 ls Sp w x8 x9,W3 h t a d m l R S sa sd ma ml R S o oa od om ol R2 S2 ls Sp/\Iv q w Sp R S/\(c%16<(q:Int)->R2.Perm R/\S2=S)/\δ=[a_ (.fl (ns.map PV.int)),d_ c,a_ (.str hd),c_ t,c_ o,c_ sa,c_ ma,c_ ls,x8,x9]
def Qn{ns:C_ Int}{c:Int}{hd:Str}{t a d m sa sd ma o oa om q l ml od ol ls w:Nat}{R R2:k_ 0}{S S2:C_ Mrk}{Sp:C_ (C_ St)}{h:PH}(x9:D_ PV)(hq:q<16){y:Int}(hy:ns[q]?=a_ y)(k:W3 h t a d m l R S sa sd ma ml R S o oa od om ol R2 S2 ls Sp)(i:Iv q w Sp R S)(al:c%16<(q:Int)->R2.Perm R/\S2=S)(E:FE)(fin:∀δ h',LI ns c hd t a d m sa sd ma o oa om (q+1) δ h'->E.nx δ h'):
  (EJ [a_ (.fl (ns.map PV.int)),d_ c,a_ (.str hd),c_ t,c_ o,c_ sa,c_ ma,c_ ls,d_ (q:Int),x9] h).W E:=by
 have j3:Sp.length<=60:=by have:=i.spl;have:=i.wq;omega
 unfold EJ;let⟨v1,h1,e1,ac,rfl,x1,ob⟩:=dY (Tg y j3 k.gs (λv h'=>∃ac,v=acP ac/\Ext h h'/\okB Sp ac) λac h' x o=>⟨ac,rfl,x,o⟩);have va:∀h:PH,vIx (.fl (ns.map PV.int)) (.int (q:Int)) h=.ok (.int y) h:=λh=>by have:atI (ns.map PV.int) (q:Int)=d_ y:=B3 (by rw[Zr,hy];rfl);simp[this]
 rw[aQ];simp[va,e1];have k1:=k.ext x1;have xj:=okB.ok i ⋯ ob;have fr:∀m∈S,m.nm≠(hd,(q:Int)+3):=λm hm z=>by have:=i.nm m hm;rw[z]at this;exact absurd this (Int.lt_irrefl _)
 have ed:PV.tup [.tup [.str hd,.int ((q:Int)+3)],.tup [.tup [.str hd,.int ((q:Int)+2)]],acP ac]=dvP (hd,(q:Int)+3) [(hd,(q:Int)+2)] ac:=rfl;rw[ed];generalize yn:(hd,(q:Int)+3)=nm at fr;generalize [(hd,(q:Int)+2)]=sn;refine now ?_;rw[aQ];let⟨v2,h2,e2,l',rfl,n2⟩:=dY (AE k1.T (i.sm ⋯ (y0f _) k1.T.sg k1.T.mr) nm sn ac xj fr (λv h'=>∃l',v=.non/\New h1 h' a d m l l' (stR nm R ac) (stS nm sn S ac)) λh' l' n=>⟨l',rfl,n⟩);have m2:bA "hear" 1 BS (mV 3) (aA (mV 9) aD) [a_ (.fl (ns.map PV.int)),d_ c,a_ (.str hd),c_ t,c_ o,c_ sa,c_ ma,c_ ls,d_ (q:Int),a_ (dvP nm sn ac)] h1=.ok .non h2:=by rw[eL (k:=t) (f:=cU) (by simp) k1.T.tx (by rfl) (by rfl)];simp[e2]
 simp[m2];have k2:=k1.hear1 n2;refine now ?_;rw[aQ];let⟨v3,h3,e3,wz,rfl,n3⟩:=dY (NN (i.sm ⋯ (y0f _) k2.sg k2.mr) nm sn ac xj fr (λv h'=>∃l',v=.non/\New h2 h' sa sd ma ml l' (stR nm R ac) (stS nm sn S ac)) λh' l' n=>⟨l',rfl,n⟩);simp[e3];have k3:=k2.hear3 n3;obtain⟨Ro,p,s⟩:∃Ro,Ro.Perm (stR nm R ac)/\SRt Ro:=by
  have rk:Rk (stR nm R ac):=by subst yn;let⟨w',i'⟩:=i.step (hd:=hd) (sn:=sn) ob (y0f _);exact(i'.ok ⋯).rk
  exact EV k3.sg rk
 obtain⟨w',i'⟩:∃w',Iv (q+1) w' (spN Sp Ro) (stR nm R ac) (stS nm sn S ac):=by subst yn;exact i.step ob p
 have ie:=i'.ok ⋯;have yg:R2.Perm R->(stR nm R2 ac).Perm (stR nm R ac):=λz=>NO i.nd z ac;refine now ?_;rw[aQ];let⟨h4,n4,x4,b4,g4,e4⟩:=pT (δ:=[a_ (.fl (ns.map PV.int)),d_ c,a_ (.str hd),c_ t,c_ o,c_ sa,c_ ma,c_ ls,d_ (q:Int),a_ (dvP nm sn ac)]) (h:=h3) (tb:=wV) (mo:=mV 5) k3.sg ie.rk p s (by rfl) (by simp);have k4:=k3.ext x4;have Y3:Ro.length<=60:=by rw[p.length_eq];exact ie.rk.len
 have hc:=mB (m:=bA "rows" 0 wV (mV 5) aD) (n:=n4) (js:=[b_,b_,a_ 7]) (tg:=gTp 2 (gCn (gN 0) (gCn (gN 1) gNl))) (tst:=dQ (aG lJ (mV 0) (mV 2))) (elt:=mV 0) (δ:=[a_ (.fl (ns.map PV.int)),d_ c,a_ (.str hd),c_ t,c_ o,c_ sa,c_ ma,c_ ls,d_ (q:Int),a_ (dvP nm sn ac)]) (h:=h3) (h1:=h4) (ys:=Ro) (emb:=rwP)
  (λr=>if decide (r.1∉Sp)=true then a_ (pl r.1) else b_) e4 g4 ⋯ (λr hr=>⟨[a_ (pl r.1),a_ (.str ⟨#[r.2]⟩),c_ ls],by simp[kK,rwP],λh5 x5=>by
   have hn:=KN (x5 _ _ k4.gs) r.1;by_cases z:r.1∈Sp
   ·simp[hn,z]
   ·simp[hn,z]⟩)
 rw[Vp,show(Ro.filter λr=>decide (r.1∉Sp)).map (λr=>pl r.1)=((Ro.filter λr=>decide (r.1∉Sp)).map (·.1)).map pl by rw[Z7];rfl]at hc;have x5:Ext h4 (h4++[MO.lst (((Ro.filter λr=>decide (r.1∉Sp)).map (·.1)).map pl)]):=Ext.app _ _;have g5:(h4++[MO.lst (((Ro.filter λr=>decide (r.1∉Sp)).map (·.1)).map pl)])[h4.length]?=a_ (.lst (((Ro.filter λr=>decide (r.1∉Sp)).map (·.1)).map pl)):=aU;generalize h4++[MO.lst (((Ro.filter λr=>decide (r.1∉Sp)).map (·.1)).map pl)]=h5 at hc x5 g5;generalize h4.length=n5 at hc g5;have k5:=k4.ext x5;have lfl:=y1R (λr:C_ St×Nat=>decide (r.1∉Sp)) Ro;have vp:=tL k5.gs g5 (by simp only[Zg];omega);rw[<-Z4]at vp;have x6:Ext h5 (h5++[MO.lst ((Sp++(Ro.filter λr=>decide (r.1∉Sp)).map (·.1)).map pl)]):=Ext.app _ _;have g6:(h5++[MO.lst ((Sp++(Ro.filter λr=>decide (r.1∉Sp)).map (·.1)).map pl)])[h5.length]?=a_ (.lst ((spN Sp Ro).map pl)):=aU;have k6:=k5.spot x6 g6 (Zi _);generalize h5++[MO.lst ((Sp++(Ro.filter λr=>decide (r.1∉Sp)).map (·.1)).map pl)]=h6 at vp k6;generalize h5.length=cw at vp k6;simp[hc,vp];clear e1 e2 e3 m2 hc vp g5 g6 x5 x6 g4 e4 b4 ed;generalize stR nm R ac=R' at*;generalize b6:stS nm sn S ac=S' at*;have c0:=y26 c (b:=16) ⋯;refine now ?_;rw[aQ,cH]
 -- the last look at the text
 have last:∀(h7:PH)(aw av:Nat)(sh:k_ 0)(rn:C_ Mrk)(x9:D_ PV),W3 h7 t a d m l' R' S' sa sd ma wz R' S' o oa aw om av sh rn cw (spN Sp Ro)->(c%16<((q+1:Nat):Int)->sh.Perm R'/\rn=S')->(fV (wC (dQ (eW 3 nG (aA (mV 3) (aA (mV 5) (aA (mV 6) aD)))))) (dR (mC (.bl false))) iA [a_ (.fl (ns.map PV.int)),d_ c,a_ (.str hd),c_ t,c_ o,c_ sa,c_ ma,c_ cw,d_ (q:Int),x9] h7).W E:=λh7 aw av sh rn x9 k7 XI=>by rw[cH];let⟨v,h8,e8,rfl,x8⟩:=dY (xI k7.T k7.sg k7.mr ie (y0f _) (λv h'=>v=.bl true/\Ext h7 h') λh' x=>⟨rfl,x⟩);simp[e8];exact fin _ _ ⟨l',wz,aw,av,R',S',sh,rn,cw,spN Sp Ro,w',_,_,k7.ext x8,i',XI,rfl⟩
 rcases Int.lt_trichotomy (q:Int) (c%16) with z|z|z
 ·have z1:¬ (q:Int)=c%16:=⋯;have z2:¬ c%16<(q:Int):=⋯;simp(disch:=omega) [z1];refine now ?_;rw[aQ,cH];simp(disch:=omega) [z2];exact now (last _ _ _ _ _ _ k6 λy=>by omega)
 ·have z2:¬ c%16<(q:Int):=⋯;let⟨v7,h7,e7,aw,av,R4,rfl,p',k7⟩:=dY (KQ k6 ie (λv h'=>∃aw av R4,v=.bl true/\R4.Perm R'/\W3 h' t a d m l' R' S' sa sd ma wz R' S' o oa aw om av R4 S' cw (spN Sp Ro)) λh' aw av R4 p k=>⟨aw,av,R4,rfl,p,k⟩);have z3:((q:Int)=c%16)=True:=eq_true z;simp(disch:=omega) [z3,e7];refine now ?_;rw[aQ,cH];simp(disch:=omega) [z2];exact now (last _ _ _ _ _ _ k7 λ_=>⟨p',rfl⟩)
 ·have z1:¬ (q:Int)=c%16:=⋯;have z2:c%16<(q:Int):=⋯;simp(disch:=omega) [z1];refine now ?_;rw[aQ,cH];let⟨p2,eS⟩:=al z2;subst eS;let⟨v7,h7,e7,l7,rfl,n7⟩:=dY (AE k6.O (i.sm ⋯ p2 k6.O.sg k6.O.mr) nm sn ac xj fr (λv h'=>∃l',v=.non/\New h6 h' oa od om ol l' (stR nm R2 ac) (stS nm sn S2 ac)) λh' l' n=>⟨l',rfl,n⟩);rw[b6]at n7;have k7:=k6.hear2 n7;have m7:bA "hear" 1 BU (mV 4) (aA (mV 9) aD) [a_ (.fl (ns.map PV.int)),d_ c,a_ (.str hd),c_ t,c_ o,c_ sa,c_ ma,c_ cw,d_ (q:Int),a_ (dvP nm sn ac)] h6=.ok .non h7:=by rw[eL (k:=o) (f:=cU) (by simp) k6.O.tx (by rfl) (by rfl)];simp[e7]
  let⟨v8,h8,e8,rfl,x8⟩:=dY (xI k7.O k7.sg k7.mr ie (yg p2) (λv h'=>v=.bl true/\Ext h7 h') λh' x=>⟨rfl,x⟩);simp(disch:=omega) [z2];rw[aQ];simp[m7];refine now ?_;rw[cH];simp[e8];exact now (last _ _ _ _ _ _ (k7.ext x8) λ_=>⟨yg p2,rfl⟩)
def R7(δ:Ev)(h:PH):∃h',nF "Signs" 0 bZ aD δ h=.ok (.ref h.length) h'/\Ext h h'/\kR h' h.length (h.length+1) []/\h'.length=h.length+2:=by
 have s1:(h++[MO.ins "Signs" []])[h.length]?=a_ (.ins "Signs" []):=aU;have e1:=NJ s1;have ll:(h++[MO.ins "Signs" []]).length=h.length+1:=by simp
 have d1:(h++[MO.ins "Signs" []]++[MO.dK []])[(h++[MO.ins "Signs" []]).length]?=a_ (.dK []):=aU;have x1:Ext h (h++[MO.ins "Signs" []]++[MO.dK []]):=(Ext.app _ _).trans (Ext.app _ _);have s2:=Ext.app _ [MO.dK []] _ _ s1;have l2:(h++[MO.ins "Signs" []]++[MO.dK []]).length=h.length+2:=by simp
 have em:nF "Signs" 0 bZ aD δ h=.ok (.ref h.length) ((h++[MO.ins "Signs" []]++[MO.dK []]).set h.length (.ins "Signs" [("kept",.ref (h++[MO.ins "Signs" []]).length)])):=by rw[Bz,fE,Rs.bind_ok,if_pos (by rfl),e1,Rs.bind_ok]
 rw[ll]at d1 em;refine⟨_,em,x1.setN (Zi _),⟨gU s2,?_⟩,by rw[y05,l2]⟩;have g:((h++[MO.ins "Signs" []]++[MO.dK []]).set h.length (.ins "Signs" [("kept",.ref (h.length+1))]))[h.length+1]?=a_ (.dK []):=by rw[Zk ⋯];exact d1
 simp[bW,g,kvR]
def R8(δ:Ev)(h:PH):∃h',nF "Marks" 0 cA aD δ h=.ok (.ref h.length) h'/\Ext h h'/\bY h' h.length (h.length+1) []/\h'.length=h.length+2:=by
 have s1:(h++[MO.ins "Marks" []])[h.length]?=a_ (.ins "Marks" []):=aU;have e1:=Q7 s1;have ll:(h++[MO.ins "Marks" []]).length=h.length+1:=by simp
 have d1:(h++[MO.ins "Marks" []]++[MO.lst []])[(h++[MO.ins "Marks" []]).length]?=a_ (.lst []):=aU;have x1:Ext h (h++[MO.ins "Marks" []]++[MO.lst []]):=(Ext.app _ _).trans (Ext.app _ _);have s2:=Ext.app _ [MO.lst []] _ _ s1;have l2:(h++[MO.ins "Marks" []]++[MO.lst []]).length=h.length+2:=by simp
 have em:nF "Marks" 0 cA aD δ h=.ok (.ref h.length) ((h++[MO.ins "Marks" []]++[MO.lst []]).set h.length (.ins "Marks" [("standing",.ref (h++[MO.ins "Marks" []]).length)])):=by rw[Bz,fE,Rs.bind_ok,if_pos (by rfl),e1,Rs.bind_ok]
 rw[ll]at d1 em;refine⟨_,em,x1.setN (Zi _),⟨gU s2,?_⟩,by rw[y05,l2]⟩;rw[Zk ⋯];exact d1
def R9(δ:Ev)(h:PH):∃h',nF "Text" 0 cT aD δ h=.ok (.ref h.length) h'/\Ext h h'/\cQ h' h.length (h.length+1) (h.length+2) (h.length+3) (h.length+4) [] []/\h'.length=h.length+5:=by
 have g0:(h++[MO.ins "Text" []])[h.length]?=a_ (.ins "Text" []):=aU;have x0:Ext h (h++[MO.ins "Text" []]):=Ext.app _ _;have l0:(h++[MO.ins "Text" []]).length=h.length+1:=by simp
 let⟨h1,e1,x1,s1,l1⟩:=R7 [c_ h.length] (h++[MO.ins "Text" []]);have g1:=x1 _ _ g0;have wm:=mD (f:="signs") (p:=.ref (h++[MO.ins "Text" []]).length) g1 (by simp);have g2:=gU (o':=MO.ins "Text" (lK "signs" (.ref (h++[MO.ins "Text" []]).length) [])) g1;have uw:Ext h (h1.set h.length (MO.ins "Text" (lK "signs" (.ref (h++[MO.ins "Text" []]).length) []))):=(x0.trans x1).setN (Zi _);have l2:(h1.set h.length (MO.ins "Text" (lK "signs" (.ref (h++[MO.ins "Text" []]).length) []))).length=h.length+3:=by rw[y05,l1,l0]
 have g8:∀i ob,i≠h.length->h1[i]?=a_ ob->(h1.set h.length (MO.ins "Text" (lK "signs" (.ref (h++[MO.ins "Text" []]).length) [])))[i]?=a_ ob:=λi ob hi e=>by rw[Zk (ZV hi)];exact e
 rw[l0]at e1 s1;rw[l0]at wm g2 uw l2 g8;generalize hh2:h1.set h.length (MO.ins "Text" (lK "signs" (.ref (h.length+1)) []))=h2 at wm g2 uw l2 g8;let⟨h3,e3,x3,m3,l3⟩:=R8 [c_ h.length] h2;have g3:=x3 _ _ g2;have yo:=mD (f:="marks") (p:=.ref h2.length) g3 (by simp[lK]);have g4:=gU (o':=MO.ins "Text" (lK "marks" (.ref h2.length) (lK "signs" (.ref (h.length+1)) []))) g3;rw[l2]at e3 m3 yo g4;have w:(cT [.ref h.length] (h++[MO.ins "Text" []])).W λv h'=>v=.non/\h'=h3.set h.length (MO.ins "Text" (lK "marks" (.ref (h.length+3)) (lK "signs" (.ref (h.length+1)) []))):=by
  refine fW ?_;unfold kO;rw[qa_ 1 [PV.ref h.length] [c_ h.length],aQ,MR,e1,iX,show mV 0 [c_ h.length] h1=.ok (.ref h.length) h1 from rfl,iX]
  refine⟨h2,wm,now ?_⟩;rw[MR,e3,iX,show mV 0 [c_ h.length] h3=.ok (.ref h.length) h3 from rfl,iX]
  exact⟨_,yo,rfl,rfl⟩
 let⟨v,h4,e4,rfl,rfl⟩:=dY w;have em:nF "Text" 0 cT aD δ h=.ok (.ref h.length) (h3.set h.length (MO.ins "Text" (lK "marks" (.ref (h.length+3)) (lK "signs" (.ref (h.length+1)) [])))):=by rw[Bz,fE,Rs.bind_ok,if_pos (by rfl),e4,Rs.bind_ok]
 have rg:∀i ob,i≠h.length->h3[i]?=a_ ob->(h3.set h.length (MO.ins "Text" (lK "marks" (.ref (h.length+3)) (lK "signs" (.ref (h.length+1)) []))))[i]?=a_ ob:=λi ob hi e=>by rw[Zk (ZV hi)];exact e
 refine⟨_,em,(uw.trans x3).setN (Zi _),⟨g4,lM (lM (h:=h1) s1 (λo=>g8 _ o ⋯) (λo=>g8 _ o ⋯) |>.ext x3) (λo=>rg _ o ⋯) (λo=>rg _ o ⋯),rg _ _ ⋯ m3.1,rg _ _ ⋯ m3.2⟩,by rw[y05,l3,l2]⟩
def xM:("gone" : Str).length=4/\Asc "gone" := ⟨by decide +kernel,λc hc=>by
 have:∀c∈("gone" : Str).cps.toList,c<128:=by decide +kernel
 exact this c hc⟩
def Qo(hd:Str):Rk (stR (hd,1) [] (.wr [] 1 "gone")):=by
 let⟨f1,f2⟩:=zF (gX [] 1 hd 1 "gone") [] (by simp);have l1:=DP (gX [] 1 hd 1 "gone") [];have l2:(gX [] 1 hd 1 "gone").length<=4:=by unfold gX;rw[List.length_zip,wZ,xM.1];omega
 refine⟨f1,λr hr=>?_,?_⟩
 ·rcases f2 r.1 (Zu.mpr ⟨r,hr,rfl⟩) with z|z
  ·simp at z
  ·let⟨j,hj,e⟩:=Zu.mp (DR z);rw[<-e,xH];have:=y2i.mp hj;have:=xM.1;simp;omega
 ·show((gX [] 1 hd 1 "gone").foldl kQ []).length<=60
  have:([]:k_ 0).length=0:=rfl;omega
def iv0:Iv 0 0 [] [] []:=⟨by simp,λp hp=>by simp at hp,λp hp=>by simp at hp,by simp,by simp,Zi _,λs hs=>by simp[spS]at hs,λm hm=>by simp at hm,by simp,λz=>absurd rfl z,λm hm=>by simp at hm⟩
theorem cQ.lt{h:PH}(T:cQ h t a d m l R S):t<h.length/\a<h.length/\d<h.length/\m<h.length/\l<h.length:=⟨(Zc.mp T.tx).1,(Zc.mp T.sg.1).1,Im T.sg.2,(Zc.mp T.mr.1).1,(Zc.mp T.mr.2).1⟩
def main(ns:C_ Int)(hl:ns.length<=63):∃h,Nh [.fl (ns.map PV.int)] []=.ok (.bl true) h:=by
 have w:(Nh [.fl (ns.map PV.int)] []).W λp _=>p=.bl true:=by
  refine fW ?_;unfold Ng;rw[qa_ 10 [PV.fl (ns.map PV.int)] [a_ (.fl (ns.map PV.int)),b_,b_,b_,b_,b_,b_,b_,b_,b_]]
  rw[aQ];simp;refine now ?_;rw[aQ];obtain⟨c,hif⟩:∃c:Int,∀E:FE,E.nx [a_ (.fl (ns.map PV.int)),d_ c,b_,b_,b_,b_,b_,b_,b_,b_] []->(fV (dQ (aG vGt (mCB pB (aA (mV 0) aD)) (q_ 0))) (cY 1 (aG vAt (mV 0) (q_ 0))) iA [a_ (.fl (ns.map PV.int)),d_ 0,b_,b_,b_,b_,b_,b_,b_,b_] []).W E:=by
   by_cases e:0<ns.length
   ·obtain⟨c,hc⟩:∃c,atI (ns.map PV.int) 0=d_ c:=⟨ns[0],B3 (i:=0) (by rw[Zr,Z9 e];rfl)⟩;exact⟨c,λE k=>by simp[e,hc];exact k⟩
   ·exact⟨0,λE k=>by simp[e];exact k⟩
  refine hif _ ?_;refine now ?_;rw[aQ];simp;refine Q9 (mixed c 2) [] _ λhd hd1 hd8 _=>?_;refine now ?_;rw[aQ,qT];let⟨h1,e1,x1,T1,l1⟩:=R9 [a_ (.fl (ns.map PV.int)),d_ c,a_ (.str hd),b_,b_,b_,b_,b_,b_,b_] [];rw[e1,iX];simp only[y0r,y0s];generalize y1C ([]:PH)=t at T1 l1 e1;refine now ?_;rw[aQ,qT];let⟨h2,e2,x2,O2,l2⟩:=R9 [a_ (.fl (ns.map PV.int)),d_ c,a_ (.str hd),c_ t,b_,b_,b_,b_,b_,b_] h1;rw[e2,iX];simp only[y0r,y0s];have T2:=T1.ext x2;have tl:=T1.lt;generalize ho:h1.length=o at O2 l2 e2 tl;refine now ?_;rw[aQ];let⟨v3,h3,e3,l3,rfl,n3⟩:=dY (AE O2 (iv0.sm ⋯ (y0f _) O2.sg O2.mr) (hd,1) [] (.wr [] 1 "gone") ⟨by simp,by rw[xM.1];omega,by rw[xM.1];omega,xM.2⟩ (λm hm=>by simp at hm) (λv h'=>∃l',v=.non/\New h2 h' (o+1) (o+2) (o+3) (o+4) l' (stR (hd,1) [] (.wr [] 1 "gone")) (stS (hd,1) [] [] (.wr [] 1 "gone"))) λh' l' n=>⟨l',rfl,n⟩);have m3:∀ms:Ma,ms [a_ (.fl (ns.map PV.int)),d_ c,a_ (.str hd),c_ t,c_ o,b_,b_,b_,b_,b_] h2=.ok [dvP (hd,1) [] (.wr [] 1 "gone")] h2->bA "hear" 1 BQ (mV 4) ms [a_ (.fl (ns.map PV.int)),d_ c,a_ (.str hd),c_ t,c_ o,b_,b_,b_,b_,b_] h2=.ok .non h3:=λms em=>by rw[eL (k:=o) (f:=cU) (by simp) O2.tx (by rfl) (by rfl),em,Rs.bind_ok,if_pos (by rfl)];exact e3
  have T3:cQ h3 t (t+1) (t+2) (t+3) (t+4) [] []:=T2.frm λi ob hi e=>n3.fr i ob ⋯ ⋯ ⋯ e;have O3:cQ h3 o (o+1) (o+2) (o+3) l3 (stR (hd,1) [] (.wr [] 1 "gone")) []:=⟨n3.fr _ _ ⋯ ⋯ ⋯ O2.tx,n3.sg,n3.mr⟩;have bl3:o+4<=l3:=by rcases n3.ls with z|z <;> omega
  have za:=Qo hd;generalize stR (hd,1) [] (.wr [] 1 "gone")=R3 at O3 za;rw[Mf,m3 _ (by simp;rfl),iX];clear e3 m3 n3;refine now ?_;rw[aQ];let⟨v4,h4,e4,l4,rfl,n4⟩:=dY (AE O3 ⟨O3.sg,O3.mr,za,by simp,λm hm=>by simp at hm⟩ (hd,2) [(hd,1)] (.mk [⟨1,hd,1,0⟩] [⟨1,hd,1,0⟩] "gone") trivial (λm hm=>by simp at hm) (λv h'=>∃l',v=.non/\New h3 h' (o+1) (o+2) (o+3) l3 l' R3 (stS (hd,2) [(hd,1)] [] (.mk [⟨1,hd,1,0⟩] [⟨1,hd,1,0⟩] "gone"))) λh' l' n=>⟨l',rfl,n⟩);have m4:∀ms:Ma,ms [a_ (.fl (ns.map PV.int)),d_ c,a_ (.str hd),c_ t,c_ o,b_,b_,b_,b_,b_] h3=.ok [dvP (hd,2) [(hd,1)] (.mk [⟨1,hd,1,0⟩] [⟨1,hd,1,0⟩] "gone")] h3->bA "hear" 1 BR (mV 4) ms [a_ (.fl (ns.map PV.int)),d_ c,a_ (.str hd),c_ t,c_ o,b_,b_,b_,b_,b_] h3=.ok .non h4:=λms em=>by rw[eL (k:=o) (f:=cU) (by simp) O3.tx (by rfl) (by rfl),em,Rs.bind_ok,if_pos (by rfl)];exact e4
  have ol3:=O3.lt;have T4:cQ h4 t (t+1) (t+2) (t+3) (t+4) [] []:=T3.frm λi ob hi e=>n4.fr i ob ⋯ ⋯ ⋯ e;have O4:cQ h4 o (o+1) (o+2) (o+3) l4 R3 (stS (hd,2) [(hd,1)] [] (.mk [⟨1,hd,1,0⟩] [⟨1,hd,1,0⟩] "gone")):=⟨n4.fr _ _ ⋯ ⋯ ⋯ O3.tx,n4.sg,n4.mr⟩;have bl4:o+4<=l4:=by rcases n4.ls with z|z <;> omega
  generalize stS (hd,2) [(hd,1)] [] (.mk [⟨1,hd,1,0⟩] [⟨1,hd,1,0⟩] "gone")=S4 at O4;rw[Mf,m4 _ (by simp;rfl),iX];clear e4 m4 n4;refine now ?_;rw[aQ,qT];let⟨h5,e5,x5,s5,l5⟩:=R7 [a_ (.fl (ns.map PV.int)),d_ c,a_ (.str hd),c_ t,c_ o,b_,b_,b_,b_,b_] h4;rw[e5,iX];simp only[y0r,y0s];have YK:=O4.lt;generalize h4.length=sa at s5 l5 e5 YK;refine now ?_;rw[aQ,qT];let⟨h6,e6,x6,m6,l6⟩:=R8 [a_ (.fl (ns.map PV.int)),d_ c,a_ (.str hd),c_ t,c_ o,c_ sa,b_,b_,b_,b_] h5;rw[e6,iX];simp only[y0r,y0s];generalize h5.length=ma at m6 l6 e6 l5;refine now ?_;rw[aQ];simp;have x7:Ext h6 (h6++[MO.lst []]):=Ext.app _ _;have g7:(h6++[MO.lst []])[h6.length]?=a_ (.lst ((([]:C_ (C_ St))).map pl)):=aU;have k7:W3 (h6++[MO.lst []]) t (t+1) (t+2) (t+3) (t+4) [] [] sa (sa+1) ma (ma+1) [] [] o (o+1) (o+2) (o+3) l4 R3 S4 h6.length []:=⟨T4.ext (x5.trans (x6.trans x7)),s5.ext (x6.trans x7),m6.ext x7,O4.ext (x5.trans (x6.trans x7)),g7,⟨⋯,⋯,⋯⟩,⟨⋯,⋯,⋯⟩,⟨⋯,⋯,⋯,⋯,⋯,⋯⟩,⋯,⋯⟩;generalize h6++[MO.lst []]=h7 at k7;generalize h6.length=ls at k7;refine now ?_;rw[aQ];refine Mm (j:=((min ns.length 16:Nat):Int)) (λq δ h'=>LI ns c hd t (t+1) (t+2) (t+3) sa (sa+1) ma o (o+1) (o+3) q δ h') ?_ ⋯ ⟨_,_,_,_,_,_,_,_,_,_,0,_,_,k7,iv0,λz=>?_,rfl⟩ ?_ ?_
  ·simp;omega
  ·have:=y26 c (b:=16) ⋯;omega
  ·rintro q δ h' hq ⟨l,ml,od,ol,R,S,R2,S2,ls,Sp,w,x8,x9,k,i,al,rfl⟩;have hq:q<ns.length/\q<16:=⋯;exact Qn x9 hq.2 (Z9 hq.1) k i al _ λδ h' li=>li
  ·rintro δ h' ⟨l,ml,od,ol,R,S,R2,S2,ls,Sp,w,x8,x9,k,i,al,rfl⟩;refine now ?_;rw[aQ];have xa:Ext h' (h'++[MO.lst []]):=Ext.app _ _;have ga:(h'++[MO.lst []])[h'.length]?=a_ (.lst (([]:k_ 0).map rwP)):=aU;have xb:Ext (h'++[MO.lst []]) (h'++[MO.lst []]++[MO.lst []]):=Ext.app _ _;have gb:(h'++[MO.lst []]++[MO.lst []])[(h'++[MO.lst []]).length]?=a_ (.lst (([]:C_ (Mrk×Nat)).map rwV)):=aU;have ea:bH (aA (eY aD) (aA (eY aD) aD)) [a_ (.fl (ns.map PV.int)),d_ c,a_ (.str hd),c_ t,c_ o,c_ sa,c_ ma,c_ ls,x8,x9] h'=.ok (.tup [.ref h'.length,.ref (h'++[MO.lst []]).length]) (h'++[MO.lst []]++[MO.lst []]):=by simp
   have ga:=xb _ _ ga;have Xk:=xa.trans xb;clear xa xb;generalize h'++[MO.lst []]++[MO.lst []]=hb at Xk ga gb ea;generalize (h'++[MO.lst []]).length=nb at gb ea;have kb:=k.ext Xk;let⟨v1,hc,e1,aw,av,rfl,Oc⟩:=dY (GD kb.O ga (by simp) (S:=[]) (zs:=[]) ⟨rfl,gb,λz hz=>by simp at hz⟩ (by simp) (λv h'=>∃aw av,v=.non/\cQ h' o (o+1) aw (o+3) av [] []/\h'[t]?=a_ (.ins "Text" [("signs",.ref (t+1)),("marks",.ref (t+3))])) λh' aw av O b b' f=>⟨aw,av,rfl,O,f _ _ (bQ (CG kb.T.tx) (C6 kb.O.sg.1) nofun) (bQ (CG kb.T.tx) (xK kb.O.mr.1) nofun) kb.T.tx⟩);let⟨Oc,tc⟩:=Oc;have em:aA (bH (aA (eY aD) (aA (eY aD) aD))) aD [a_ (.fl (ns.map PV.int)),d_ c,a_ (.str hd),c_ t,c_ o,c_ sa,c_ ma,c_ ls,x8,x9] h'=.ok [.tup [.ref h'.length,.ref nb]] hb:=by rw[Bm,ea,Rs.bind_ok,fE,Rs.bind_ok]
   have m1:bA "fill" 1 BV (mV 4) (aA (bH (aA (eY aD) (aA (eY aD) aD))) aD) [a_ (.fl (ns.map PV.int)),d_ c,a_ (.str hd),c_ t,c_ o,c_ sa,c_ ma,c_ ls,x8,x9] h'=.ok .non hc:=by rw[eL (k:=o) (f:=eN) (by simp) k.O.tx (by rfl) (by rfl),em,Rs.bind_ok,if_pos (by rfl)];exact e1
   rw[Mf,m1,iX];refine now ?_;have Xp:OKm [] [] []:=iv0.ok ⋯;have s0:SRt []:=y1y;have ic:G6 wW (.ref t) hc=.ok (.bl true) hc:=Py tc (by rfl);let⟨v2,hD,e2,n,rfl,x2,g2⟩:=dY (Js Oc Xp (y0f _) s0 (λv h'=>∃n,v=.ref n/\Ext hc h'/\h'[n]?=a_ (.lst [])) λn h' zs x b ez g oz=>⟨n,rfl,x,by rw[List.map_eq_nil_iff.mp ez]at g;exact g⟩);have eT:aG I0 (bA "told" 0 BX (mV 4) aD) (eY aD) [a_ (.fl (ns.map PV.int)),d_ c,a_ (.str hd),c_ t,c_ o,c_ sa,c_ ma,c_ ls,x8,x9] hc=.ok (.bl true) (hD++[MO.lst []]):=by rw[wH,eL (k:=o) (f:=eO) (by simp) Oc.tx (by rfl) (by rfl),fE,Rs.bind_ok,if_pos (by rfl),e2,Rs.bind_ok];simp only[Em,fE,Rs.bind_ok];exact NL (pU (Ext.app _ _ _ _ g2) aU rfl 3)
   have OE:=(Oc.ext x2).ext (Ext.app hD [MO.lst []]);generalize hD++[MO.lst []]=hE at eT OE;let⟨v3,ki,e3,n1,n2,rfl,g3,g4⟩:=dY (C4 OE Xp.rk (by simp) (y0f _) s0 (λv h'=>∃n1 n2,v=.tup [.ref n1,.ref n2]/\h'[n1]?=a_ (.lst [])/\h'[n2]?=a_ (.lst [])) λn1 n2 h' zs x b b' g r o=>⟨n1,n2,rfl,g,by rw[r.2.1,List.map_eq_nil_iff.mp r.1];rfl⟩);have y1:Ext ki (ki++[MO.lst []]):=Ext.app _ _;have y2:Ext (ki++[MO.lst []]) (ki++[MO.lst []]++[MO.lst []]):=Ext.app _ _;have eC:aG I0 (bA "content" 0 BW (mV 4) aD) (bH (aA (eY aD) (aA (eY aD) aD))) [a_ (.fl (ns.map PV.int)),d_ c,a_ (.str hd),c_ t,c_ o,c_ sa,c_ ma,c_ ls,x8,x9] hE=.ok (.bl true) (ki++[MO.lst []]++[MO.lst []]):=by rw[wH,eL (k:=o) (f:=cP) (by simp) OE.tx (by rfl) (by rfl),fE,Rs.bind_ok,if_pos (by rfl),e3,Rs.bind_ok];simp only[J7,Bm,Em,fE,Rs.bind_ok];exact NL (EW (pU (y2 _ _ (y1 _ _ g3)) (y2 _ _ aU) rfl 2) (pU (y2 _ _ (y1 _ _ g4)) aU rfl 2))
   generalize ki++[MO.lst []]++[MO.lst []]=hG at eC;have i0:mUn (G6 wW) (mV 3) [a_ (.fl (ns.map PV.int)),d_ c,a_ (.str hd),c_ t,c_ o,c_ sa,c_ ma,c_ ls,x8,x9] hc=.ok (.bl true) hc:=by simp[ic]
   simp only[Bl,Mh,i0,Rs.bind_ok,eT,eC];simp
 let⟨p,h,e,rfl⟩:=dY w;exact⟨h,e⟩
def top(i:Nat):B_:=PySem.Challenge.pw_copymeet_k45_a_text.main.body.getD i (.Pass ⟨0,0,0,0⟩)
abbrev bsL:C_ Str:=["range","len","zip","sorted","tuple","dict","list","any","set","enumerate","isinstance","min"]
abbrev cC(w:y_)(K:Zf)(cl:Str->D_ u_):MC:=⟨K,cl,bsL,λ_ _ _=>False,w⟩
abbrev clF(aP aW dI:u_):Str->D_ u_:=λz=>if z=("Marks" : Str) then a_ aP else if z=("Signs" : Str) then a_ aW else if z=("Text" : Str) then a_ dI else b_
def FnX(K:Zf)(f:u_)(nm qual:Str)(st:B_):Prop:=∃oc kV doc pm cdv ct od an osl,K.lookup f=a_ ⟨oc,od,.func (y08 nm qual (iC st) (fU st) (aK st) .none kV doc pm an cdv ct),osl⟩/\y2O K cdv qual=true/\y0G K (.ref f)=true
def MtX(K:Zf)(A:u_)(nm qual:Str)(st:B_):Prop:=∃f,ZF K (.ref A) nm=a_ (c_ f)/\PySem.W.isFn K (.ref f)=true/\FnX K f nm qual st
def DfX(K:Zf)(nm:Str)(st:B_):Prop:=∃f,y20 K y0t nm=a_ (c_ f)/\FnX K f nm nm st
def BdX(nm qual:Str)(st:B_)(ps:C_ Str):Prop:=∀(kV doc pm:s_)(an:D_ u_)(cdv ct:s_)(us:C_ s_),us.length=ps.length->bindArgs (y08 nm qual (iC st) (fU st) (aK st) .none kV doc pm an cdv ct) ⟨us,[]⟩=pure (ps.zip us)
abbrev tMt(P:z_)(w:y_)(K:Zf)(mg:o_ 0)(base:x_)(cl:Str->D_ u_)(j:Nat)(A:u_)(nm:Str)(ps:C_ Str)(n:Nat)(m:Fn):Prop:=∃g fd,DY K A nm g/\bR P w K mg base CX0 j g fd ps (spM (cC w K cl) n m)/\Binds K fd ps []
abbrev tMk(P:z_)(w:y_)(K:Zf)(mg:o_ 0)(base:x_)(cl:Str->D_ u_)(j:Nat)(A:u_)(nm:Str)(ps:C_ Str)(n:Nat)(m:Fn):Prop:=∃g fd,DY K A nm g/\bR P w K mg base CX0 j g fd ps (spM (cC w K cl) n m)/\Binds K fd ps []/\Mk K A g
abbrev EX:B_:=top 22
def pX:bF ["_law_number","_law_some","_law_word","_law_rest","_law_k"] ["_law_number"] (aK EX):=jn 0
abbrev jJ:B_:=inClass (top 17) 0
def xN:bF ["self"] ["self"] (aK jJ):=jn 0
abbrev jK:B_:=inClass (top 15) 0
def xO:bF ["self"] ["self"] (aK jK):=jn 0
abbrev kT:B_:=inClass (top 19) 0
def zG:bF ["self"] ["self"] (aK kT):=jn 0
abbrev pY:B_:=top 8
def kG:bF ["spot","name","under","side","hand","n"] ["spot","name"] (aK pY):=jn 0
abbrev nH:B_:=top 9
def cE:bF ["deed","name","seen","act","word","thing","under","side","signs","hand","n","places","k"] ["deed"] (aK nH):=jn 0
abbrev nR:B_:=inClass (top 17) 1
def iQ:bF ["self","deed","signs","place","sign"] ["self","deed"] (aK nR):=jn 0
abbrev tS:B_:=top 6
def Iu:bF ["place"] ["place"] (aK tS):=jn 0
abbrev pZ:B_:=top 7
def GE:bF ["row"] ["row"] (aK pZ):=jn 0
abbrev sI:B_:=inClass (top 17) 2
def qA:bF ["self","places","gone","place"] ["self","places"] (aK sI):=jn 0
abbrev qB:B_:=inClass (top 15) 1
def jZ:bF ["self","deed","name","seen","act"] ["self","deed"] (aK qB):=jn 0
abbrev qX:C_ Str:=["mark"]
def zH:(qX).Nodup:=by decide +kernel
abbrev xP:B_:=top 2
def zI:bF ["seen","name","hand","n"] ["seen","name"] (aK xP):=jn 0
abbrev AF:B_:=top 14
def iR:bF ["mark","deed","name","first","last","word","holes","clear_name","seen","act"] ["mark","deed"] (aK AF):=jn 0
abbrev nS:B_:=inClass (top 15) 2
def C7:bF ["self","deed"] ["self","deed"] (aK nS):=jn 0
abbrev oP:C_ Str:=["mark","deed"]
def xQ:(oP).Nodup:=by decide +kernel
abbrev sJ:B_:=inClass (top 19) 1
def xR:bF ["self","deed","word"] ["self","deed"] (aK sJ):=jn 0
abbrev qC:B_:=inClass (top 15) 7
def CI:bF ["self","rows"] ["self","rows"] (aK qC):=jn 0
abbrev qY:C_ Str:=["row"]
def zJ:(qY).Nodup:=by decide +kernel
abbrev qD:B_:=inClass (top 17) 5
def CJ:bF ["self","rows"] ["self","rows"] (aK qD):=jn 0
abbrev sL:B_:=inClass (top 19) 6
def qE:bF ["self","content","sign_rows","mark_rows"] ["self","content"] (aK sL):=jn 0
abbrev AG:B_:=top 21
def GF:bF ["_law_cell","_law_k","_law_number"] ["_law_cell","_law_k"] (aK AG):=jn 0
abbrev AH:B_:=top 24
def GG:bF ["_law_signs","_law_marks","_law_deed","_law_word"] ["_law_signs","_law_marks","_law_deed"] (aK AH):=jn 0
abbrev Ju:B_:=top 23
def sM:bF ["_law_cell","_law_spots","_law_number","_law_way","_law_under","_law_side","_law_one","_law_other"] ["_law_cell","_law_spots"] (aK Ju):=jn 0
abbrev qF:B_:=inClass (top 15) 6
def CK:bF ["self"] ["self"] (aK qF):=jn 0
abbrev qZ:C_ Str:=["mark"]
def zK:(qZ).Nodup:=by decide +kernel
abbrev qG:B_:=inClass (top 17) 4
def CL:bF ["self"] ["self"] (aK qG):=jn 0
abbrev qH:B_:=top 12
def sN:bF ["places","numbers","place"] ["places"] (aK qH):=jn 0
abbrev qI:B_:=top 11
def GH:bF ["mark"] ["mark"] (aK qI):=jn 0
abbrev qJ:B_:=inClass (top 15) 5
def gR:bF ["self","found","mark","first","last"] ["self"] (aK qJ):=jn 0
abbrev AI:B_:=top 13
def GI:bF ["spans","number","inside"] ["spans","number"] (aK AI):=jn 0
abbrev C8:C_ Str:=["first","last","number"]
def Ag:(C8).Nodup:=by decide +kernel
abbrev gM:B_:=inClass (top 15) 4
def cD:bF ["self","places","numbers","marks","mark","words","place","number"] ["self","places"] (aK gM):=jn 0
abbrev iS:C_ Str:=["first","last","numbers"]
def gY:(iS).Nodup:=by decide +kernel
abbrev iT:C_ Str:=["word","spans","number"]
def gZ:(iT).Nodup:=by decide +kernel
abbrev nT:B_:=inClass (top 19) 3
def C9:bF ["self"] ["self"] (aK nT):=jn 0
abbrev oQ:C_ Str:=["place","sign"]
def nI:(oQ).Nodup:=by decide +kernel
abbrev sO:B_:=inClass (top 19) 4
def xT:bF ["self","words"] ["self"] (aK sO):=jn 0
abbrev sP:C_ Str:=["k","row","words"]
def rA:(sP).Nodup:=by decide +kernel
abbrev mS:B_:=inClass (top 19) 5
def Au:bF ["self"] ["self"] (aK mS):=jn 0
abbrev jL:B_:=inClass (top 15) 3
def xU:bF ["self","place"] ["self","place"] (aK jL):=jn 0
abbrev AJ:B_:=top 25
def mT:bF ["_law_text","_law_signs","_law_marks","_law_rows","_law_due","_law_found","_law_kept","_law_row"] ["_law_text","_law_signs","_law_marks"] (aK AJ):=jn 0
abbrev Ca:C_ Str:=["_law_place","_law_sign","_law_marks"]
def Ah:(Ca).Nodup:=by decide +kernel
abbrev xV:B_:=top 26
def zL:bF ["_law_text","_law_other","_law_signs","_law_marks","_law_rows","_law_handed"] ["_law_text","_law_other","_law_signs","_law_marks"] (aK xV):=jn 0
abbrev xW:B_:=top 27
def kU:bF ["_law_script","_law_cell","_law_hand_here","_law_text","_law_other","_law_signs","_law_marks","_law_spots","_law_k","_law_deed"] ["_law_script"] (aK xW):=jn 0
abbrev GJ:C_ Str:=["_law_place","_law_sign","_law_spots"]
def DU:(GJ).Nodup:=by decide +kernel
def Cb:("range" : Str)∈bsL:=(.head _)
def vD:("len" : Str)∈bsL:=(.tail _ (.head _))
def tT:("sorted" : Str)∈bsL:=(.tail _ (.tail _ (.tail _ (.head _))))
def Cc:("tuple" : Str)∈bsL:=(.tail _ (.tail _ (.tail _ (.tail _ (.head _)))))
def AK:("list" : Str)∈bsL:=(.tail _ (.tail _ (.tail _ (.tail _ (.tail _ (.tail _ (.head _)))))))
def nU:("isinstance" : Str)∈bsL:=(.tail _ (.tail _ (.tail _ (.tail _ (.tail _ (.tail _ (.tail _ (.tail _ (.tail _ (.tail _ (.head _)))))))))))
section
variable{P:z_}{w:y_}{K:Zf}{mg:o_ 0}{base:x_}{cl:Str->D_ u_}
variable(P w K mg base cl)
abbrev Jv:Prop:=∃a fd,Def K mg "_law_hand" EX a fd ["_law_number"]/\bR P w K mg base CX0 1 a fd ["_law_number"] (spM (cC w K cl) 1 EC)
abbrev Ai:Prop:=∃a fd,Def K mg "place_of" pY a fd ["spot","name"]/\bR P w K mg base CX0 1 a fd ["spot","name"] (spM (cC w K cl) 2 mE)
abbrev xX:Prop:=∃a fd,Def K mg "places_of" nH a fd ["deed"]/\bR P w K mg base CX0 2 a fd ["deed"] (spM (cC w K cl) 1 kE)
abbrev vE:Prop:=∃a fd,Def K mg "rank_of" tS a fd ["place"]/\bR P w K mg base CX0 1 a fd ["place"] (spM (cC w K cl) 1 gW)
abbrev sQ:Prop:=∃a fd,Def K mg "row_rank" pZ a fd ["row"]/\bR P w K mg base CX0 2 a fd ["row"] (spM (cC w K cl) 1 fS)
abbrev DV:Prop:=∃a fd,Def K mg "covers" xP a fd ["seen","name"]/\bR P w K mg base CX0 1 a fd ["seen","name"] (spM (cC w K cl) 2 rX)
abbrev GK:Prop:=∃a fd,Def K mg "holed" AF a fd ["mark","deed"]/\bR P w K mg base CX0 2 a fd ["mark","deed"] (spM (cC w K cl) 2 tO)
abbrev Cd:Prop:=∃a fd,Def K mg "_law_mixed" AG a fd ["_law_cell","_law_k"]/\bR P w K mg base CX0 1 a fd ["_law_cell","_law_k"] (spM (cC w K cl) 2 tP)
abbrev GL:Prop:=∃a fd,Def K mg "_law_apart" AH a fd ["_law_signs","_law_marks","_law_deed"]/\bR P w K mg base CX0 6 a fd ["_law_signs","_law_marks","_law_deed"] (spM (cC w K cl) 3 AD)
abbrev NS:Prop:=∃a fd,Def K mg "_law_act" Ju a fd ["_law_cell","_law_spots"]/\bR P w K mg base CX0 2 a fd ["_law_cell","_law_spots"] (spM (cC w K cl) 2 Jj)
abbrev Aj:Prop:=∃a fd,Def K mg "numbered" qH a fd ["places"]/\bR P w K mg base CX0 4 a fd ["places"] (spM (cC w K cl) 1 pQ)
abbrev sR:Prop:=∃a fd,Def K mg "spans_of" qI a fd ["mark"]/\bR P w K mg base CX0 1 a fd ["mark"] (spM (cC w K cl) 1 eP)
abbrev GM:Prop:=∃a fd,Def K mg "bears" AI a fd ["spans","number"]/\bR P w K mg base CX0 1 a fd ["spans","number"] (spM (cC w K cl) 2 wR)
abbrev Ce:Prop:=∃a fd,Def K mg "_law_right" AJ a fd ["_law_text","_law_signs","_law_marks"]/\bR P w K mg base CX0 8 a fd ["_law_text","_law_signs","_law_marks"] (spM (cC w K cl) 3 nG)
abbrev DW:Prop:=∃a fd,Def K mg "_law_filled" xV a fd ["_law_text","_law_other","_law_signs","_law_marks"]/\bR P w K mg base CX0 9 a fd ["_law_text","_law_other","_law_signs","_law_marks"] (spM (cC w K cl) 4 wU)
variable{P w K mg base cl}
def tZ{j:Nat}{A:u_}{nm qual:Str}{st:B_}{ps:C_ Str}{sp:Sp}(x:MtX K A nm qual st)(b:BdX nm qual st ps)(h:∀{f:u_}{fd:ZL},Fun K nm qual st f fd->bR P w K mg base CX0 j f fd ps sp):∃g fd,DY K A nm g/\bR P w K mg base CX0 j g fd ps sp/\Binds K fd ps []:=by let⟨f,a,i,_,_,_,_,_,_,_,_,_,l,c,k⟩:=x;have F:=AW (st:=st) l c k;exact⟨f,_,⟨a,i,k⟩,h F,F.binds (ps:=ps) b⟩
def Th{j:Nat}{A:u_}{qual:Str}{st:B_}{ps:C_ Str}{sp:Sp}(x:MtX K A "__init__" qual st)(mk:y12 K A=true)(kc:y0G K (.ref A)=true)(b:BdX "__init__" qual st ps)(h:∀{f:u_}{fd:ZL},Fun K "__init__" qual st f fd->bR P w K mg base CX0 j f fd ps sp):∃g fd,DY K A "__init__" g/\bR P w K mg base CX0 j g fd ps sp/\Binds K fd ps []/\Mk K A g:=by let⟨f,a,i,_,_,_,_,_,_,_,_,_,l,c,k⟩:=x;have F:=AW (st:=st) l c k;exact⟨f,_,⟨a,i,k⟩,h F,F.binds (ps:=ps) b,mk,a,i,kc⟩
def vF{j:Nat}{nm:Str}{st:B_}{ps:C_ Str}{sp:Sp}{hh:x_}(X:K.In hh)(G:hh.Ns y0t mg)(x:DfX K nm st)(b:BdX nm nm st ps)(h:∀{f:u_}{fd:ZL},Fun K nm nm st f fd->bR P w K mg base CX0 j f fd ps sp):∃a fd,Def K mg nm st a fd ps/\bR P w K mg base CX0 j a fd ps sp:=by let⟨f,a,_,_,_,_,_,_,_,_,_,l,c,k⟩:=x;have D:=Def.mk' X G a l c k b;exact⟨f,_,D,h D.fn⟩
def Qp{f:u_}{fd:ZL}(hbn:∀x∈bsL,mg x=b_)(F:Fun K "_law_hand" "_law_hand" EX f fd):bR P w K mg base CX0 1 f fd ["_law_number"] (spM (cC w K cl) 1 EC):=
 cZ (C:=cC w K cl) (k:=0) (N:=["_law_number","_law_some","_law_word","_law_rest","_law_k"]) (body:=Ii) (λ_ _ _ h=>h) hbn F pX λcdv A outer s H E=>
 (aF (cJ (i:=1) pX.nd cM)
 (aF (cJ (i:=2) pX.nd cM)
 (aF (cJ (i:=3) pX.nd (bP wB (aC 0) aJ))
 (aF (oK (M4 (aB (bP eI aJ (bP iE (aC 0) aJ)) aE) (hb:=Cb)) (aV pX.nd)
  (aF (cJ (i:=2) pX.nd (bP eI (aC 2) (dG (aC 1) (bP iE (aC 3) aJ))))
  (aN (cJ (i:=3) pX.nd (bP eI (bP wB (aC 3) aJ) (bP FS aJ (aC 4)))))))
 (aN (cX (aC 2)))))))
def xY{f:u_}{fd:ZL}(hbn:∀x∈bsL,mg x=b_)(F:Fun K "__init__" "Signs.__init__" jJ f fd)(eU:iB (cC w K cl) "kept"):bR P w K mg base CX0 1 f fd ["self"] (spM (cC w K cl) 1 bZ):=
 cZ (C:=cC w K cl) (k:=0) (N:=["self"]) (body:=jG) (λ_ _ _ h=>h) hbn F xN λcdv A outer s H E=>
 (aN (Bx eU Ei (aC 0)))
def xZ{f:u_}{fd:ZL}(hbn:∀x∈bsL,mg x=b_)(F:Fun K "__init__" "Marks.__init__" jK f fd)(aZ:iB (cC w K cl) "standing"):bR P w K mg base CX0 1 f fd ["self"] (spM (cC w K cl) 1 cA):=
 cZ (C:=cC w K cl) (k:=0) (N:=["self"]) (body:=jH) (λ_ _ _ h=>h) hbn F xO λcdv A outer s H E=>
 (aN (Bx aZ (iF aE) (aC 0)))
def zM{f:u_}{fd:ZL}(hbn:∀x∈bsL,mg x=b_)(F:Fun K "__init__" "Text.__init__" kT f fd){aP:u_}(aO:cl "Marks" = a_ aP)(aL:Cls K aP){aW:u_}(aT:cl "Signs" = a_ aW)(aS:Cls K aW)(dW:tMk P w K mg base cl 1 aP "__init__" ["self"] 1 cA)(dX:tMk P w K mg base cl 1 aW "__init__" ["self"] 1 bZ)(oR:mg "Marks" = c_ aP)(oS:mg "Signs" = c_ aW)(dF:iB (cC w K cl) "marks")(cR:iB (cC w K cl) "signs"):bR P w K mg base CX0 3 f fd ["self"] (spM (cC w K cl) 1 cT):=
 let ⟨_,_,yA,jM,jN,Cf⟩:=dW;let ⟨_,_,yB,jO,jP,Cg⟩:=dX;cZ (C:=cC w K cl) (k:=2) (N:=["self"]) (body:=kO) (λ_ _ _ h=>h) hbn F zG λcdv A outer s H E=>
 (aF (Bx cR (tM aT Cg jO oS jP) (aC 0))
 (aN (Bx dF (tM aO Cf jM oR jN) (aC 0))))
def GN{f:u_}{fd:ZL}(hbn:∀x∈bsL,mg x=b_)(F:Fun K "place_of" "place_of" pY f fd):bR P w K mg base CX0 1 f fd ["spot","name"] (spM (cC w K cl) 2 mE):=
 cZ (C:=cC w K cl) (k:=0) (N:=["spot","name","under","side","hand","n"]) (body:=uS) (λ_ _ _ h=>h) hbn F kG λcdv A outer s H E=>
 (aF (wD (aC 0) (iI (bI (aV kG.nd) (bI (aV kG.nd) iH))))
 (aF (wD (aC 1) (iI (bI (aV kG.nd) (bI (aV kG.nd) iH))))
 (aN (cX (bP eI (aC 2) (bG (aB (bG (aB (aC 3) (aB (aC 4) (aB (aC 5) (aB aJ aE))))) aE)))))))
def EY{f:u_}{fd:ZL}(hbn:∀x∈bsL,mg x=b_)(F:Fun K "places_of" "places_of" nH f fd)(vG:Ai P w K mg base cl):bR P w K mg base CX0 2 f fd ["deed"] (spM (cC w K cl) 1 kE):=
 let ⟨_,_,Iw,Iy⟩:=vG;cZ (C:=cC w K cl) (k:=1) (N:=["deed","name","seen","act","word","thing","under","side","signs","hand","n","places","k"]) (body:=rV) (λ_ _ _ h=>h) hbn F cE λcdv A outer s H E=>
 (aF (wD (aC 0) (iI (bI (aV cE.nd) (bI (aV cE.nd) (bI (aV cE.nd) iH)))))
 (aF (wD (aC 3) (iI (bI (aV cE.nd) (bI (aV cE.nd) (bI (aV cE.nd) (bI (aV cE.nd) (bI (aV cE.nd) iH)))))))
 (aF (wD (aC 1) (iI (bI (aV cE.nd) (bI (aV cE.nd) iH))))
 (aF (cJ (i:=11) cE.nd (iF (aB (s_call Iw Iy (aB (bG (aB (aC 6) (aB (aC 7) aE))) (aB (aC 1) aE))) aE)))
 (aF (oK (Sn (aB aJ (aB (iG Bj PyProof.Rows.Boot.«len» (aB (aC 8) aE) (hb:=vD)) aE)) (hb:=Cb)) (aV cE.nd)
  (aN (eJ (HG Z6 y0B y0C lZ (aC 11) (aB (bP eI (dG (aC 11) (bP QS (aC 12) aJ)) (bG (aB (bG (aB aJ (aB (aC 9) (aB (aC 10) (aB (aC 12) aE))))) aE))) aE)))))
 (aN (cX (aC 11))))))))
def Ci{f:u_}{fd:ZL}(hbn:∀x∈bsL,mg x=b_)(F:Fun K "write" "Signs.write" nR f fd)(sS:xX P w K mg base cl)(eU:iB (cC w K cl) "kept"):bR P w K mg base CX0 3 f fd ["self","deed"] (spM (cC w K cl) 2 dO):=
 let ⟨_,_,GO,GP⟩:=sS;cZ (C:=cC w K cl) (k:=2) (N:=["self","deed","signs","place","sign"]) (body:=nM) (λ_ _ _ h=>h) hbn F iQ λcdv A outer s H E=>
 (aF (cJ (i:=2) iQ.nd (dG (dG (aC 1) aJ) aJ))
 (aN (oK (Vi (aB (s_call GO GP (aB (aC 1) aE)) (aB (aC 2) aE)) (hb:=(.tail _ (.tail _ (.head _))))) (iI (bI (aV iQ.nd) (bI (aV iQ.nd) iH)))
  (aN (HS (aC 4) (gQ eU (aC 0)) (aC 3))))))
def Iz{f:u_}{fd:ZL}(hbn:∀x∈bsL,mg x=b_)(F:Fun K "rank_of" "rank_of" tS f fd):bR P w K mg base CX0 1 f fd ["place"] (spM (cC w K cl) 1 gW):=
 cZ (C:=cC w K cl) (k:=0) (N:=["place"]) (body:=zB) (λ_ _ _ h=>h) hbn F Iu λcdv A outer s H E=>
 (aN (cX (bP eI (aC 0) (bG (aB (bG (aB aJ aE)) aE)))))
def GQ{f:u_}{fd:ZL}(hbn:∀x∈bsL,mg x=b_)(F:Fun K "row_rank" "row_rank" pZ f fd)(lQ:vE P w K mg base cl):bR P w K mg base CX0 2 f fd ["row"] (spM (cC w K cl) 1 fS):=
 let ⟨_,_,zN,zO⟩:=lQ;cZ (C:=cC w K cl) (k:=1) (N:=["row"]) (body:=uT) (λ_ _ _ h=>h) hbn F GE λcdv A outer s H E=>
 (aN (cX (s_call zN zO (aB (dG (aC 0) aJ) aE))))
def EZ{f:u_}{fd:ZL}(hbn:∀x∈bsL,mg x=b_)(F:Fun K "cut" "Signs.cut" sI f fd)(jQ:sQ P w K mg base cl)(eU:iB (cC w K cl) "kept"):bR P w K mg base CX0 5 f fd ["self","places"] (spM (cC w K cl) 2 fB):=
 let ⟨_,_,vH,vI⟩:=jQ;cZ (C:=cC w K cl) (k:=4) (N:=["self","places","gone","place"]) (body:=rW) (λ_ _ _ h=>h) hbn F qA λcdv A outer s H E=>
 (aF (cJ (i:=2) qA.nd (iF aE))
 (aF (oK (iJ (aC 1)) (aV qA.nd)
  (aN (kI (fH V1 (aC 3) (gQ eU (aC 0)))
   (aN (eJ (HG Z6 y0B y0C lZ (aC 2) (aB (bG (aB (aC 3) (aB (V2 PySem.F.plainAttrs_dict PySem.F.slot_dict_pop PySem.F.type_dict_pop SR (gQ eU (aC 0)) (aB (aC 3) aE)) aE))) aE))))
   eG)))
 (aN (cX (BH vH vI (aC 2) (hb:=tT))))))
def CM{f:u_}{fd:ZL}(hbn:∀x∈bsL,mg x=b_)(F:Fun K "mark" "Marks.mark" qB f fd)(aZ:iB (cC w K cl) "standing"):bR P w K mg base CX0 1 f fd ["self","deed"] (spM (cC w K cl) 2 eM):=
 cZ (C:=cC w K cl) (k:=0) (N:=["self","deed","name","seen","act"]) (body:=pL) (λ_ _ _ h=>h) hbn F jZ λcdv A outer s H E=>
 (aF (wD (aC 1) (iI (bI (aV jZ.nd) (bI (aV jZ.nd) (bI (aV jZ.nd) iH)))))
 (aN (kI (fH FX (aC 2) (pD (js:=[b_]) (N:=qX) rfl rfl (by rfl) (iJ (gQ aZ (aC 0))) (λ_ _ _ _=>(aV zH)) (λ_ _ _ _=>pC) (λ_ _ _ _=>(dG (aC 0) aJ))))
  (aN (eJ (HG Z6 y0B y0C lZ (gQ aZ (aC 0)) (aB (bG (aB (aC 2) (aB (dG (aC 4) aJ) (aB (dG (aC 4) aJ) (aB (dG (aC 4) aJ) (aB (bG aE) aE)))))) aE))))
  eG)))
def KR{f:u_}{fd:ZL}(hbn:∀x∈bsL,mg x=b_)(F:Fun K "covers" "covers" xP f fd):bR P w K mg base CX0 1 f fd ["seen","name"] (spM (cC w K cl) 2 rX):=
 cZ (C:=cC w K cl) (k:=0) (N:=["seen","name","hand","n"]) (body:=BM) (λ_ _ _ h=>h) hbn F zI λcdv A outer s H E=>
 (aF (oK (iJ (aC 0)) (iI (bI (aV zI.nd) (bI (aV zI.nd) iH)))
  (aN (kI (fH uL (aC 2) (dG (aC 1) aJ))
   (aN (cX (LN Sh (dG (aC 1) aJ) (aC 3))))
   eG)))
 (aN (cX CC)))
def NT{f:u_}{fd:ZL}(hbn:∀x∈bsL,mg x=b_)(F:Fun K "holed" "holed" AF f fd)(Cj:DV P w K mg base cl):bR P w K mg base CX0 2 f fd ["mark","deed"] (spM (cC w K cl) 2 tO):=
 let ⟨_,_,NU,NV⟩:=Cj;cZ (C:=cC w K cl) (k:=1) (N:=["mark","deed","name","first","last","word","holes","clear_name","seen","act"]) (body:=EE) (λ_ _ _ h=>h) hbn F iR λcdv A outer s H E=>
 (aF (wD (aC 0) (iI (bI (aV iR.nd) (bI (aV iR.nd) (bI (aV iR.nd) (bI (aV iR.nd) (bI (aV iR.nd) iH)))))))
 (aF (wD (aC 1) (iI (bI (aV iR.nd) (bI (aV iR.nd) (bI (aV iR.nd) iH)))))
 (aF (kI (SW.t (w_or (fH Uy (aC 5) (dG (aC 9) aJ)) (LV (Dw (Bg (s_call NU NV (aB (aC 8) (aB (aC 2) aE))))))))
  (aN (cX (aC 0)))
  eG)
 (aN (cX (bG (aB (aC 2) (aB (aC 3) (aB (aC 4) (aB (aC 5) (aB (bP eI (aC 6) (bG (aB (bG (aB (dG (aC 9) aJ) (aB (dG (aC 9) aJ) aE))) aE))) aE)))))))))))
def Ck{f:u_}{fd:ZL}(hbn:∀x∈bsL,mg x=b_)(F:Fun K "clear" "Marks.clear" nS f fd)(F0:GK P w K mg base cl)(aZ:iB (cC w K cl) "standing"):bR P w K mg base CX0 3 f fd ["self","deed"] (spM (cC w K cl) 2 dP):=
 let ⟨_,_,Qq,Qr⟩:=F0;cZ (C:=cC w K cl) (k:=2) (N:=["self","deed"]) (body:=nO) (λ_ _ _ h=>h) hbn F C7 λcdv A outer s H E=>
 (aN (Bx aZ (pD (js:=[b_,a_ 1]) (N:=oP) rfl rfl (by rfl) (iJ (gQ aZ (aC 0))) (λ_ _ _ _=>(aV xQ)) (λ_ _ _ _=>pC) (λ_ _ _ _=>(s_call Qq Qr (aB (aC 0) (aB (aC 1) aE))))) (aC 0)))
def F1{f:u_}{fd:ZL}(hbn:∀x∈bsL,mg x=b_)(F:Fun K "hear" "Text.hear" sJ f fd){aP:u_}(aO:cl "Marks" = a_ aP)(aL:Cls K aP){aW:u_}(aT:cl "Signs" = a_ aW)(aS:Cls K aW)(fI:tMt P w K mg base cl 3 aP "clear" ["self","deed"] 2 dP)(fZ:tMt P w K mg base cl 1 aP "mark" ["self","deed"] 2 eM)(hV:tMt P w K mg base cl 5 aW "cut" ["self","places"] 2 fB)(fJ:tMt P w K mg base cl 3 aW "write" ["self","deed"] 2 dO)(dF:iB (cC w K cl) "marks")(cR:iB (cC w K cl) "signs"):bR P w K mg base CX0 6 f fd ["self","deed"] (spM (cC w K cl) 2 cU):=
 let ⟨_,_,mU,nV,nW⟩:=fI;let ⟨_,_,nX,qK,qL⟩:=fZ;let ⟨_,_,qM,sT,sU⟩:=hV;let ⟨_,_,mW,nY,nZ⟩:=fJ;cZ (C:=cC w K cl) (k:=5) (N:=["self","deed","word"]) (body:=rY) (λ_ _ _ h=>h) hbn F xR λcdv A outer s H E=>
 (aF (cJ (i:=2) xR.nd (dG (dG (aC 1) aJ) aJ))
 (aN (kI (fH uL (aC 2) cM)
  (aN (eJ (fF (tb:=mG) (aR aT aS mW nofun nY nZ cB) (gQ cR (aC 0)) (aB (aC 1) aE))))
  (aN (kI (fH uL (aC 2) cM)
   (aN (eJ (fF (tb:=mH) (aR aT aS qM nofun sT sU cB) (gQ cR (aC 0)) (aB (dG (dG (aC 1) aJ) aJ) aE))))
   (aN (kI (fH uL (aC 2) cM)
    (aN (eJ (fF (tb:=mI) (aR aO aL nX nofun qK qL cB) (gQ dF (aC 0)) (aB (aC 1) aE))))
    (aN (kI (fH uL (aC 2) cM)
     (aN (eJ (fF (tb:=mJ) (aR aO aL mU nofun nV nW cB) (gQ dF (aC 0)) (aB (aC 1) aE))))
     eG)))))))))
def CN{f:u_}{fd:ZL}(hbn:∀x∈bsL,mg x=b_)(F:Fun K "fill" "Marks.fill" qC f fd)(aZ:iB (cC w K cl) "standing"):bR P w K mg base CX0 1 f fd ["self","rows"] (spM (cC w K cl) 2 cO):=
 cZ (C:=cC w K cl) (k:=0) (N:=["self","rows"]) (body:=pM) (λ_ _ _ h=>h) hbn F CI λcdv A outer s H E=>
 (aN (Bx aZ (pD (js:=[b_]) (N:=qY) rfl rfl (by rfl) (iJ (aC 1)) (λ_ _ _ _=>(aV zJ)) (λ_ _ _ _=>pC) (λ_ _ _ _=>(bP eI (LY (aC 0) Eh (yT aJ)) (bG (aB (oJ J1 PyProof.Rows.Boot.«tuple» (aB (dG (aC 0) aJ) aE) (hb:=Cc)) aE))))) (aC 0)))
def CO{f:u_}{fd:ZL}(hbn:∀x∈bsL,mg x=b_)(F:Fun K "fill" "Signs.fill" qD f fd)(eU:iB (cC w K cl) "kept"):bR P w K mg base CX0 1 f fd ["self","rows"] (spM (cC w K cl) 2 cG):=
 cZ (C:=cC w K cl) (k:=0) (N:=["self","rows"]) (body:=pN) (λ_ _ _ h=>h) hbn F CJ λcdv A outer s H E=>
 (aN (Bx eU (oJ PR PyProof.Rows.Boot.«dict» (aB (aC 1) aE) (hb:=(.tail _ (.tail _ (.tail _ (.tail _ (.tail _ (.head _)))))))) (aC 0)))
def F2{f:u_}{fd:ZL}(hbn:∀x∈bsL,mg x=b_)(F:Fun K "fill" "Text.fill" sL f fd){aP:u_}(aO:cl "Marks" = a_ aP)(aL:Cls K aP){aW:u_}(aT:cl "Signs" = a_ aW)(aS:Cls K aW)(dJ:tMt P w K mg base cl 1 aP "fill" ["self","rows"] 2 cO)(dM:tMt P w K mg base cl 1 aW "fill" ["self","rows"] 2 cG)(dF:iB (cC w K cl) "marks")(cR:iB (cC w K cl) "signs"):bR P w K mg base CX0 2 f fd ["self","content"] (spM (cC w K cl) 2 eN):=
 let ⟨_,_,fK,gF,gG⟩:=dJ;let ⟨_,_,fL,gH,gI⟩:=dM;cZ (C:=cC w K cl) (k:=1) (N:=["self","content","sign_rows","mark_rows"]) (body:=rZ) (λ_ _ _ h=>h) hbn F qE λcdv A outer s H E=>
 (aF (wD (aC 1) (iI (bI (aV qE.nd) (bI (aV qE.nd) iH))))
 (aF (eJ (fF (tb:=mK) (aR aO aL fK nofun gF gG (aR aT aS fL nofun gH gI cB)) (gQ cR (aC 0)) (aB (aC 2) aE)))
 (aN (eJ (fF (tb:=mL) (aR aO aL fK nofun gF gG (aR aT aS fL nofun gH gI cB)) (gQ dF (aC 0)) (aB (aC 3) aE))))))
def NW{f:u_}{fd:ZL}(hbn:∀x∈bsL,mg x=b_)(F:Fun K "_law_mixed" "_law_mixed" AG f fd):bR P w K mg base CX0 1 f fd ["_law_cell","_law_k"] (spM (cC w K cl) 2 tP):=
 cZ (C:=cC w K cl) (k:=0) (N:=["_law_cell","_law_k","_law_number"]) (body:=EF) (λ_ _ _ h=>h) hbn F GF λcdv A outer s H E=>
 (aF (cJ (i:=2) GF.nd (bP iE (bP FS (bP eI (bP eI (aC 0) (bP FS aJ (aC 1))) aJ) aJ) aJ))
 (aN (cX (bP iE (bP FS (aC 2) (bP eI (bP wB (aC 2) aJ) aJ)) aJ))))
def NX{f:u_}{fd:ZL}(hbn:∀x∈bsL,mg x=b_)(F:Fun K "_law_apart" "_law_apart" AH f fd){aP:u_}(aO:cl "Marks" = a_ aP)(aL:Cls K aP){aW:u_}(aT:cl "Signs" = a_ aW)(aS:Cls K aW)(fI:tMt P w K mg base cl 3 aP "clear" ["self","deed"] 2 dP)(fZ:tMt P w K mg base cl 1 aP "mark" ["self","deed"] 2 eM)(hV:tMt P w K mg base cl 5 aW "cut" ["self","places"] 2 fB)(fJ:tMt P w K mg base cl 3 aW "write" ["self","deed"] 2 dO):bR P w K mg base CX0 6 f fd ["_law_signs","_law_marks","_law_deed"] (spM (cC w K cl) 3 AD):=
 let ⟨_,_,mU,nV,nW⟩:=fI;let ⟨_,_,nX,qK,qL⟩:=fZ;let ⟨_,_,qM,sT,sU⟩:=hV;let ⟨_,_,mW,nY,nZ⟩:=fJ;cZ (C:=cC w K cl) (k:=5) (N:=["_law_signs","_law_marks","_law_deed","_law_word"]) (body:=EG) (λ_ _ _ h=>h) hbn F GG λcdv A outer s H E=>
 (aF (cJ (i:=3) GG.nd (dG (dG (aC 2) aJ) aJ))
 (aF (kI (fH uL (aC 3) cM)
  (aN (eJ (fF (tb:=uU) (aR aT aS mW nofun nY nZ cB) (aC 0) (aB (aC 2) aE))))
  eG)
 (aF (kI (fH uL (aC 3) cM)
  (aN (eJ (fF (tb:=uV) (aR aT aS qM nofun sT sU cB) (aC 0) (aB (dG (dG (aC 2) aJ) aJ) aE))))
  eG)
 (aF (kI (fH uL (aC 3) cM)
  (aN (eJ (fF (tb:=uW) (aR aO aL nX nofun qK qL cB) (aC 1) (aB (aC 2) aE))))
  eG)
 (aN (kI (fH uL (aC 3) cM)
  (aN (eJ (fF (tb:=uX) (aR aO aL mU nofun nV nW cB) (aC 1) (aB (aC 2) aE))))
  eG))))))
def Ti{f:u_}{fd:ZL}(hbn:∀x∈bsL,mg x=b_)(F:Fun K "_law_act" "_law_act" Ju f fd)(tU:Cd P w K mg base cl):bR P w K mg base CX0 2 f fd ["_law_cell","_law_spots"] (spM (cC w K cl) 2 Jj):=
 let ⟨_,_,F3,F4⟩:=tU;cZ (C:=cC w K cl) (k:=1) (N:=["_law_cell","_law_spots","_law_number","_law_way","_law_under","_law_side","_law_one","_law_other"]) (body:=Nf) (λ_ _ _ h=>h) hbn F sM λcdv A outer s H E=>
 (aF (cJ (i:=2) sM.nd (s_call F3 F4 (aB (aC 0) (aB aJ aE))))
 (aF (cJ (i:=3) sM.nd (bP iE (aC 0) aJ))
 (aF (kI (SW.t (w_or (fH Uw (aC 3) aJ) (LV (fH uL (aC 1) (iF aE)))))
  (aF (cJ (i:=4) sM.nd (dG (bP eI (iF (aB (bG aE) aE)) (aC 1)) (bP iE (bP wB (aC 2) aJ) (bP eI (iG Bj PyProof.Rows.Boot.«len» (aB (aC 1) aE) (hb:=vD)) aJ))))
  (aF (cJ (i:=5) sM.nd (bP QS (bP FS (bP iE (aC 2) aJ) aJ) aJ))
  (aF (kI (fH uL (aC 4) (bG aE))
   (aN (cJ (i:=5) sM.nd aJ))
   eG)
  (aN (cX (bG (aB cM (aB (bG (aB cM (aB aJ aE))) (aB (aC 4) (aB (aC 5) (aB (LY cM (yT (bP iE (bP wB (aC 2) aJ) aJ)) (yT (bP eI (bP eI (bP iE (bP wB (aC 2) aJ) aJ) aJ) (bP iE (bP wB (aC 2) aJ) aJ)))) aE)))))))))))
  eG)
 (aF (cJ (i:=6) sM.nd (dG (aC 1) (bP iE (bP wB (aC 2) aJ) (iG Bj PyProof.Rows.Boot.«len» (aB (aC 1) aE) (hb:=vD)))))
 (aF (cJ (i:=7) sM.nd (dG (aC 1) (bP iE (bP wB (aC 2) aJ) (iG Bj PyProof.Rows.Boot.«len» (aB (aC 1) aE) (hb:=vD)))))
 (aF (kI (fH uL (aC 3) aJ)
  (aN (cX (bG (aB cM (aB (bG (aB cM (aB aJ aE))) (aB (oJ J1 PyProof.Rows.Boot.«tuple» (aB (LY (iF (aB (aC 6) (aB (aC 7) aE))) Eh (yT (bP eI aJ (bP iE (aC 2) aJ)))) aE) (hb:=Cc)) aE))))))
  eG)
 (aF (kI (fH Uw (aC 3) aJ)
  (aN (cX (bG (aB cM (aB (bG (aB cM (aB aJ aE))) (aB (aC 6) (aB (aC 7) (aB (dG (iF (aB cM (aB cM (aB cM aE)))) (bP iE (aC 2) aJ)) aE))))))))
  eG)
 (aF (kI (fH uL (aC 3) aJ)
  (aN (cX (bG (aB cM (aB (bG (aB cM (aB aJ aE))) (aB (aC 6) (aB (aC 7) (aB (dG (iF (aB cM (aB cM (aB cM aE)))) (bP iE (aC 2) aJ)) aE))))))))
  eG)
 (aN (cX (dG (iF (aB (bG (aB cM (aB (bG (aB cM (aB aJ aE))) (aB aJ aE)))) (aB (bG (aB cM (aB (bG (aB cM (aB aJ aE))) (aB (bP iE (aC 0) (bP Uv aJ aJ)) aE)))) (aB (bG (aB cM aE)) (aB (bG (aB cM (aB (bG (aB cM (aB aJ aE))) (aB aJ aE)))) aE))))) (bP iE (aC 2) aJ))))))))))))
def CP{f:u_}{fd:ZL}(hbn:∀x∈bsL,mg x=b_)(F:Fun K "rows" "Marks.rows" qF f fd)(aZ:iB (cC w K cl) "standing"):bR P w K mg base CX0 1 f fd ["self"] (spM (cC w K cl) 1 aY):=
 cZ (C:=cC w K cl) (k:=0) (N:=["self"]) (body:=pO) (λ_ _ _ h=>h) hbn F CK λcdv A outer s H E=>
 (aN (cX (pD (js:=[b_]) (N:=qZ) rfl rfl (by rfl) (iJ (gQ aZ (aC 0))) (λ_ _ _ _=>(aV zK)) (λ_ _ _ _=>pC) (λ_ _ _ _=>(bP eI (LY (aC 0) Eh (yT aJ)) (bG (aB (oJ BC PyProof.Rows.Boot.«list» (aB (dG (aC 0) aJ) aE) (hb:=AK)) aE)))))))
def CQ{f:u_}{fd:ZL}(hbn:∀x∈bsL,mg x=b_)(F:Fun K "rows" "Signs.rows" qG f fd)(jQ:sQ P w K mg base cl)(eU:iB (cC w K cl) "kept"):bR P w K mg base CX0 5 f fd ["self"] (spM (cC w K cl) 1 aX):=
 let ⟨_,_,vH,vI⟩:=jQ;cZ (C:=cC w K cl) (k:=4) (N:=["self"]) (body:=pP) (λ_ _ _ h=>h) hbn F CL λcdv A outer s H E=>
 (aN (cX (BH vH vI (V3 PySem.F.plainAttrs_dict PySem.F.slot_dict_items PySem.F.type_dict_items MZ (gQ eU (aC 0))) (hb:=tT))))
def GR{f:u_}{fd:ZL}(hbn:∀x∈bsL,mg x=b_)(F:Fun K "numbered" "numbered" qH f fd)(lQ:vE P w K mg base cl):bR P w K mg base CX0 4 f fd ["places"] (spM (cC w K cl) 1 pQ):=
 let ⟨_,_,zN,zO⟩:=lQ;cZ (C:=cC w K cl) (k:=3) (N:=["places","numbers","place"]) (body:=uY) (λ_ _ _ h=>h) hbn F sN λcdv A outer s H E=>
 (aF (cJ (i:=1) sN.nd Ei)
 (aF (oK (iJ (BH zN zO (aC 0) (hb:=tT))) (aV sN.nd)
  (aN (eJ (V2 PySem.F.plainAttrs_dict y2p PySem.F.type_dict_setdefault Er (aC 1) (aB (aC 2) (aB (iG SH PyProof.Rows.Boot.«len» (aB (aC 1) aE) (hb:=vD)) aE))))))
 (aN (cX (aC 1)))))
def GS{f:u_}{fd:ZL}(hbn:∀x∈bsL,mg x=b_)(F:Fun K "spans_of" "spans_of" qI f fd):bR P w K mg base CX0 1 f fd ["mark"] (spM (cC w K cl) 1 eP):=
 cZ (C:=cC w K cl) (k:=0) (N:=["mark"]) (body:=uZ) (λ_ _ _ h=>h) hbn F GH λcdv A outer s H E=>
 (aN (cX (bP eI (iF (aB (bG (aB (dG (aC 0) aJ) (aB (dG (aC 0) aJ) aE))) aE)) (oJ BC PyProof.Rows.Boot.«list» (aB (dG (aC 0) aJ) aE) (hb:=AK)))))
def CS{f:u_}{fd:ZL}(hbn:∀x∈bsL,mg x=b_)(F:Fun K "ends" "Marks.ends" qJ f fd)(jR:sR P w K mg base cl)(aZ:iB (cC w K cl) "standing"):bR P w K mg base CX0 2 f fd ["self"] (spM (cC w K cl) 1 fG):=
 let ⟨_,_,vJ,vK⟩:=jR;cZ (C:=cC w K cl) (k:=1) (N:=["self","found","mark","first","last"]) (body:=pR) (λ_ _ _ h=>h) hbn F gR λcdv A outer s H E=>
 (aF (cJ (i:=1) gR.nd Ei)
 (aF (oK (iJ (gQ aZ (aC 0))) (aV gR.nd)
  (aN (oK (iJ (s_call vJ vK (aB (aC 2) aE))) (iI (bI (aV gR.nd) (bI (aV gR.nd) iH)))
   (aF (HS CC (aC 1) (aC 3))
   (aN (HS CC (aC 1) (aC 4)))))))
 (aN (cX (oJ BC PyProof.Rows.Boot.«list» (aB (aC 1) aE) (hb:=AK))))))
def NY{f:u_}{fd:ZL}(hbn:∀x∈bsL,mg x=b_)(F:Fun K "bears" "bears" AI f fd):bR P w K mg base CX0 1 f fd ["spans","number"] (spM (cC w K cl) 2 wR):=
 cZ (C:=cC w K cl) (k:=0) (N:=["spans","number","inside"]) (body:=EH) (λ_ _ _ h=>h) hbn F GI λcdv A outer s H E=>
 (aF (Dx (i:=2) GI.nd rfl rfl (js:=[b_,b_,a_ 1]) (N:=C8) rfl rfl (by rfl) (iJ (aC 0)) (λ_ _ _ _=>(iI (bI (aV Ag) (bI (aV Ag) iH)))) (λ_ _ _ _=>pC) (λ_ _ _ _=>(Uz Sh Sh (aC 0) (aC 2) (aC 1))))
 (aN (cX (IZ (dG (aC 2) aJ) (LW (UA (iG V0 PyProof.Rows.Boot.«any» (aB (LY (aC 2) (yT aJ) Eh) aE) (hb:=(.tail _ (.tail _ (.tail _ (.tail _ (.tail _ (.tail _ (.tail _ (.head _))))))))))))))))
def sV{f:u_}{fd:ZL}(hbn:∀x∈bsL,mg x=b_)(F:Fun K "words_along" "Marks.words_along" gM f fd)(vL:Aj P w K mg base cl)(jR:sR P w K mg base cl)(F5:GM P w K mg base cl){aP:u_}(aO:cl "Marks" = a_ aP)(aL:Cls K aP)(qN:tMt P w K mg base cl 2 aP "ends" ["self"] 1 fG)(aZ:iB (cC w K cl) "standing"):bR P w K mg base CX0 5 f fd ["self","places"] (spM (cC w K cl) 2 bB):=
 let ⟨_,_,IA,IB⟩:=vL;let ⟨_,_,vJ,vK⟩:=jR;let ⟨_,_,Qs,Qt⟩:=F5;let ⟨_,_,CT,F6,F7⟩:=qN;cZ (C:=cC w K cl) (k:=4) (N:=["self","places","numbers","marks","mark","words","place","number"]) (body:=gL) (λ_ _ _ h=>h) hbn F cD λcdv A outer s H E=>
 (aF (cJ (i:=2) cD.nd (s_call IA IB (aB (bP eI (aC 1) (eK (tb:=dH) (aR aO aL CT nofun F6 F7 cB) (aC 0))) aE)))
 (aF (cJ (i:=3) cD.nd (iF aE))
 (aF (oK (iJ (gQ aZ (aC 0))) (aV cD.nd)
  (aN (eJ (HG Z6 y0B y0C lZ (aC 3) (aB (bG (aB (dG (aC 4) aJ) (aB (pD (js:=[b_,b_,a_ 2]) (N:=iS) rfl rfl (by rfl) (iJ (s_call vJ vK (aB (aC 4) aE))) (λ_ _ _ _=>(iI (bI (aV gY) (bI (aV gY) iH)))) (λ_ _ _ _=>pC) (λ_ _ _ _=>(bG (aB (dG (aC 2) (aC 0)) (aB (dG (aC 2) (aC 1)) aE))))) aE))) aE)))))
 (aF (cJ (i:=5) cD.nd (iF aE))
 (aF (oK (iJ (aC 1)) (aV cD.nd)
  (aF (cJ (i:=7) cD.nd (dG (aC 2) (aC 6)))
  (aN (eJ (HG Z6 y0B y0C lZ (aC 5) (aB (HZ (pD (js:=[b_,b_,a_ 7]) (N:=iT) rfl rfl (by rfl) (iJ (aC 3)) (λ_ _ _ _=>(iI (bI (aV gZ) (bI (aV gZ) iH)))) (λ_ _ _ _=>(M5 (Bg (s_call Qs Qt (aB (aC 1) (aB (aC 2) aE)))))) (λ_ _ _ _=>(aC 0))) tT (.tail _ (.tail _ (.tail _ (.tail _ (.tail _ (.tail _ (.tail _ (.tail _ (.head _)))))))))) aE))))))
 (aN (cX (aC 5))))))))
def Cm{f:u_}{fd:ZL}(hbn:∀x∈bsL,mg x=b_)(F:Fun K "places" "Text.places" nT f fd){aP:u_}(aO:cl "Marks" = a_ aP)(aL:Cls K aP){aW:u_}(aT:cl "Signs" = a_ aW)(aS:Cls K aW)(bJ:tMt P w K mg base cl 1 aP "rows" ["self"] 1 aY)(bK:tMt P w K mg base cl 5 aW "rows" ["self"] 1 aX)(cR:iB (cC w K cl) "signs"):bR P w K mg base CX0 6 f fd ["self"] (spM (cC w K cl) 1 eQ):=
 let ⟨_,_,bL,bS,bT⟩:=bJ;let ⟨_,_,bM,bU,bV⟩:=bK;cZ (C:=cC w K cl) (k:=5) (N:=["self"]) (body:=nP) (λ_ _ _ h=>h) hbn F C9 λcdv A outer s H E=>
 (aN (cX (pD (js:=[b_,b_]) (N:=oQ) rfl rfl (by rfl) (iJ (eK (tb:=fY) (aR aO aL bL nofun bS bT (aR aT aS bM nofun bU bV cB)) (gQ cR (aC 0)))) (λ_ _ _ _=>(iI (bI (aV nI) (bI (aV nI) iH)))) (λ_ _ _ _=>pC) (λ_ _ _ _=>(aC 0)))))
def F8{f:u_}{fd:ZL}(hbn:∀x∈bsL,mg x=b_)(F:Fun K "told" "Text.told" sO f fd){aP:u_}(aO:cl "Marks" = a_ aP)(aL:Cls K aP){aW:u_}(aT:cl "Signs" = a_ aW)(aS:Cls K aW){dI:u_}(cW:cl "Text" = a_ dI)(cI:Cls K dI)(bJ:tMt P w K mg base cl 1 aP "rows" ["self"] 1 aY)(cS:tMt P w K mg base cl 5 aP "words_along" ["self","places"] 2 bB)(bK:tMt P w K mg base cl 5 aW "rows" ["self"] 1 aX)(oA:tMt P w K mg base cl 6 dI "places" ["self"] 1 eQ)(dF:iB (cC w K cl) "marks")(cR:iB (cC w K cl) "signs"):bR P w K mg base CX0 7 f fd ["self"] (spM (cC w K cl) 1 eO):=
 let ⟨_,_,bL,bS,bT⟩:=bJ;let ⟨_,_,fT,gO,gP⟩:=cS;let ⟨_,_,bM,bU,bV⟩:=bK;let ⟨_,_,Cn,CU,CV⟩:=oA;cZ (C:=cC w K cl) (k:=6) (N:=["self","words"]) (body:=sC) (λ_ _ _ h=>h) hbn F xT λcdv A outer s H E=>
 (aF (cJ (i:=1) xT.nd (fF (tb:=mN) (aR aO aL fT nofun gO gP cB) (gQ dF (aC 0)) (aB (eK (tb:=iL) (aR cW cI Cn nofun CU CV cB) (aC 0)) aE)))
 (aN (cX (pD (js:=[b_,b_,a_ 1]) (N:=sP) rfl rfl (by rfl) (SX (aB (eK (tb:=iM) (aR aO aL bL nofun bS bT (aR aT aS bM nofun bU bV cB)) (gQ cR (aC 0))) aE) (hb:=(.tail _ (.tail _ (.tail _ (.tail _ (.tail _ (.tail _ (.tail _ (.tail _ (.tail _ (.head _)))))))))))) (λ_ _ _ _=>(iI (bI (aV rA) (bI (aV rA) iH)))) (λ_ _ _ _=>pC) (λ_ _ _ _=>(bG (aB (dG (aC 1) aJ) (aB (dG (aC 1) aJ) (aB (dG (aC 2) (aC 0)) aE)))))))))
def Av{f:u_}{fd:ZL}(hbn:∀x∈bsL,mg x=b_)(F:Fun K "content" "Text.content" mS f fd){aP:u_}(aO:cl "Marks" = a_ aP)(aL:Cls K aP){aW:u_}(aT:cl "Signs" = a_ aW)(aS:Cls K aW)(bJ:tMt P w K mg base cl 1 aP "rows" ["self"] 1 aY)(bK:tMt P w K mg base cl 5 aW "rows" ["self"] 1 aX)(dF:iB (cC w K cl) "marks")(cR:iB (cC w K cl) "signs"):bR P w K mg base CX0 6 f fd ["self"] (spM (cC w K cl) 1 cP):=
 let ⟨_,_,bL,bS,bT⟩:=bJ;let ⟨_,_,bM,bU,bV⟩:=bK;cZ (C:=cC w K cl) (k:=5) (N:=["self"]) (body:=mO) (λ_ _ _ h=>h) hbn F Au λcdv A outer s H E=>
 (aN (cX (bG (aB (eK (tb:=iO) (aR aO aL bL nofun bS bT (aR aT aS bM nofun bU bV cB)) (gQ cR (aC 0))) (aB (eK (tb:=iN) (aR aO aL bL nofun bS bT (aR aT aS bM nofun bU bV cB)) (gQ dF (aC 0))) aE)))))
def yC{f:u_}{fd:ZL}(hbn:∀x∈bsL,mg x=b_)(F:Fun K "words_at" "Marks.words_at" jL f fd){aP:u_}(aO:cl "Marks" = a_ aP)(aL:Cls K aP)(cS:tMt P w K mg base cl 5 aP "words_along" ["self","places"] 2 bB):bR P w K mg base CX0 6 f fd ["self","place"] (spM (cC w K cl) 2 dU):=
 let ⟨_,_,fT,gO,gP⟩:=cS;cZ (C:=cC w K cl) (k:=5) (N:=["self","place"]) (body:=jI) (λ_ _ _ h=>h) hbn F xU λcdv A outer s H E=>
 (aN (cX (dG (fF (tb:=eR) (aR aO aL fT nofun gO gP cB) (aC 0) (aB (iF (aB (aC 1) aE)) aE)) aJ)))
def NZ{f:u_}{fd:ZL}(hbn:∀x∈bsL,mg x=b_)(F:Fun K "_law_right" "_law_right" AJ f fd){aP:u_}(aO:cl "Marks" = a_ aP)(aL:Cls K aP){aW:u_}(aT:cl "Signs" = a_ aW)(aS:Cls K aW){dI:u_}(cW:cl "Text" = a_ dI)(cI:Cls K dI)(bJ:tMt P w K mg base cl 1 aP "rows" ["self"] 1 aY)(jS:tMt P w K mg base cl 6 aP "words_at" ["self","place"] 2 dU)(bK:tMt P w K mg base cl 5 aW "rows" ["self"] 1 aX)(eX:tMt P w K mg base cl 6 dI "content" ["self"] 1 cP)(hW:tMt P w K mg base cl 7 dI "told" ["self"] 1 eO):bR P w K mg base CX0 8 f fd ["_law_text","_law_signs","_law_marks"] (spM (cC w K cl) 3 nG):=
 let ⟨_,_,bL,bS,bT⟩:=bJ;let ⟨_,_,yD,zP,zQ⟩:=jS;let ⟨_,_,bM,bU,bV⟩:=bK;let ⟨_,_,kW,mX,mY⟩:=eX;let ⟨_,_,qO,sW,sX⟩:=hW;cZ (C:=cC w K cl) (k:=7) (N:=["_law_text","_law_signs","_law_marks","_law_rows","_law_due","_law_found","_law_kept","_law_row"]) (body:=EI) (λ_ _ _ h=>h) hbn F mT λcdv A outer s H E=>
 (aF (cJ (i:=3) mT.nd (eK (tb:=vA) (aR aO aL bL nofun bS bT (aR aT aS bM nofun bU bV cB)) (aC 1)))
 (aF (Dx (i:=4) mT.nd rfl rfl (js:=[b_,b_,a_ 2]) (N:=Ca) rfl rfl (by rfl) (iJ (aC 3)) (λ_ _ _ _=>(iI (bI (aV Ah) (bI (aV Ah) iH)))) (λ_ _ _ _=>pC) (λ_ _ _ _=>(bG (aB (aC 0) (aB (aC 1) (aB (fF (tb:=pS) (aR aO aL yD nofun zP zQ cB) (aC 2) (aB (aC 0) aE)) aE))))))
 (aF (cJ (i:=5) mT.nd (eK (tb:=BN) (aR cW cI qO nofun sW sX cB) (aC 0)))
 (aF (cJ (i:=6) mT.nd (eK (tb:=BO) (aR cW cI kW nofun mX mY cB) (aC 0)))
 (aF (kI (SW.t (w_or (Dw (Bg (iG wG PyProof.Rows.Boot.«isinstance» (aB (aC 5) (aB (LM (n:="list") PyProof.Rows.Boot.«list» (hb:=AK)) aE)) (hb:=nU)))) (w_or (fH Ib (aC 5) (aC 4)) (LV (Dw (Bg (iG wG PyProof.Rows.Boot.«isinstance» (aB (aC 6) (aB (LM (n:="tuple") PyProof.Rows.Boot.«tuple» (hb:=Cc)) aE)) (hb:=nU))))))))
  (aN (cX CC))
  eG)
 (aF (kI (fH Ib (aC 6) (bG (aB (aC 3) (aB (eK (tb:=vB) (aR aO aL bL nofun bS bT (aR aT aS bM nofun bU bV cB)) (aC 2)) aE))))
  (aN (cX CC))
  eG)
 (aF (oK (iJ (aC 5)) (aV mT.nd)
  (aN (eJ (HG Z6 y0B y0C lZ (dG (aC 7) aJ) (aB cM aE)))))
 (aF (eJ (J6 Z6 y2e y2f AA (aC 5)))
 (aF (oK (iJ (dG (aC 6) aJ)) (aV mT.nd)
  (aN (eJ (HG Z6 y0B y0C lZ (dG (aC 7) aJ) (aB (bG (aB (aC 3) (aB (aC 3) aE))) aE)))))
 (aF (eJ (J6 Z6 y2e y2f AA (dG (aC 6) aJ)))
 (aN (cX CC))))))))))))
def KS{f:u_}{fd:ZL}(hbn:∀x∈bsL,mg x=b_)(F:Fun K "_law_filled" "_law_filled" xV f fd)(tW:Ce P w K mg base cl){aP:u_}(aO:cl "Marks" = a_ aP)(aL:Cls K aP){aW:u_}(aT:cl "Signs" = a_ aW)(aS:Cls K aW){dI:u_}(cW:cl "Text" = a_ dI)(cI:Cls K dI)(dJ:tMt P w K mg base cl 1 aP "fill" ["self","rows"] 2 cO)(bJ:tMt P w K mg base cl 1 aP "rows" ["self"] 1 aY)(dM:tMt P w K mg base cl 1 aW "fill" ["self","rows"] 2 cG)(bK:tMt P w K mg base cl 5 aW "rows" ["self"] 1 aX)(hZ:tMt P w K mg base cl 2 dI "fill" ["self","content"] 2 eN):bR P w K mg base CX0 9 f fd ["_law_text","_law_other","_law_signs","_law_marks"] (spM (cC w K cl) 4 wU):=
 let ⟨_,_,yE,yF⟩:=tW;let ⟨_,_,fK,gF,gG⟩:=dJ;let ⟨_,_,bL,bS,bT⟩:=bJ;let ⟨_,_,fL,gH,gI⟩:=dM;let ⟨_,_,bM,bU,bV⟩:=bK;let ⟨_,_,qP,sY,sZ⟩:=hZ;cZ (C:=cC w K cl) (k:=8) (N:=["_law_text","_law_other","_law_signs","_law_marks","_law_rows","_law_handed"]) (body:=BP) (λ_ _ _ h=>h) hbn F zL λcdv A outer s H E=>
 (aF (cJ (i:=4) zL.nd (eK (tb:=sD) (aR aO aL bL nofun bS bT (aR aT aS bM nofun bU bV cB)) (aC 2)))
 (aF (cJ (i:=5) zL.nd (bG (aB (aC 4) (aB (eK (tb:=sE) (aR aO aL bL nofun bS bT (aR aT aS bM nofun bU bV cB)) (aC 3)) aE))))
 (aF (eJ (fF (tb:=sF) (aR aO aL fK nofun gF gG (aR aT aS fL nofun gH gI (aR cW cI qP nofun sY sZ cB))) (aC 1) (aB (aC 5) aE)))
 (aF (kI (fH Ib (aC 5) (bG (aB (eK (tb:=sH) (aR aO aL bL nofun bS bT (aR aT aS bM nofun bU bV cB)) (aC 2)) (aB (eK (tb:=sG) (aR aO aL bL nofun bS bT (aR aT aS bM nofun bU bV cB)) (aC 3)) aE))))
  (aN (cX CC))
  eG)
 (aF (eJ (J6 Z6 y2e y2f AA (aC 4)))
 (aF (eJ (J6 Z6 y2e y2f AA (dG (aC 5) aJ)))
 (aN (cX (IZ (s_call yE yF (aB (aC 0) (aB (aC 2) (aB (aC 3) aE)))) (LW (s_call yE yF (aB (aC 1) (aB (aC 2) (aB (aC 3) aE))))))))))))))
def Tj{f:u_}{fd:ZL}(hbn:∀x∈bsL,mg x=b_)(F:Fun K "law" "law" xW f fd)(IC:Jv P w K mg base cl)(tU:Cd P w K mg base cl)(F9:GL P w K mg base cl)(O0:NS P w K mg base cl)(tW:Ce P w K mg base cl)(Co:DW P w K mg base cl){aP:u_}(aO:cl "Marks" = a_ aP)(aL:Cls K aP){aW:u_}(aT:cl "Signs" = a_ aW)(aS:Cls K aW){dI:u_}(cW:cl "Text" = a_ dI)(cI:Cls K dI)(dW:tMk P w K mg base cl 1 aP "__init__" ["self"] 1 cA)(dJ:tMt P w K mg base cl 1 aP "fill" ["self","rows"] 2 cO)(bJ:tMt P w K mg base cl 1 aP "rows" ["self"] 1 aY)(dX:tMk P w K mg base cl 1 aW "__init__" ["self"] 1 bZ)(dM:tMt P w K mg base cl 1 aW "fill" ["self","rows"] 2 cG)(bK:tMt P w K mg base cl 5 aW "rows" ["self"] 1 aX)(kX:tMk P w K mg base cl 3 dI "__init__" ["self"] 1 cT)(eX:tMt P w K mg base cl 6 dI "content" ["self"] 1 cP)(hZ:tMt P w K mg base cl 2 dI "fill" ["self","content"] 2 eN)(tB:tMt P w K mg base cl 6 dI "hear" ["self","deed"] 2 cU)(hW:tMt P w K mg base cl 7 dI "told" ["self"] 1 eO)(oR:mg "Marks" = c_ aP)(oS:mg "Signs" = c_ aW)(AL:mg "Text" = c_ dI)(Fb:mg "Leaf" = c_ Tn)(qQ:Pw K dI Tn true):bR P w K mg base CX0 10 f fd ["_law_script"] (spM (cC w K cl) 1 Nh):=
 let ⟨_,_,To,Tp⟩:=IC;let ⟨_,_,F3,F4⟩:=tU;let ⟨_,_,Qu,Qv⟩:=F9;let ⟨_,_,Vr,Vs⟩:=O0;let ⟨_,_,yE,yF⟩:=tW;let ⟨_,_,O1,O5⟩:=Co;let ⟨_,_,yA,jM,jN,Cf⟩:=dW;let ⟨_,_,fK,gF,gG⟩:=dJ;let ⟨_,_,bL,bS,bT⟩:=bJ;let ⟨_,_,yB,jO,jP,Cg⟩:=dX;let ⟨_,_,fL,gH,gI⟩:=dM;let ⟨_,_,bM,bU,bV⟩:=bK;let ⟨_,_,KU,rB,rC,Jw⟩:=kX;let ⟨_,_,kW,mX,mY⟩:=eX;let ⟨_,_,qP,sY,sZ⟩:=hZ;let ⟨_,_,lN,nJ,nK⟩:=tB;let ⟨_,_,qO,sW,sX⟩:=hW;cZ (C:=cC w K cl) (k:=9) (N:=["_law_script","_law_cell","_law_hand_here","_law_text","_law_other","_law_signs","_law_marks","_law_spots","_law_k","_law_deed"]) (body:=Ng) (λ_ _ _ h=>h) hbn F kU λcdv A outer s H E=>
 (aF (cJ (i:=1) kU.nd aJ)
 (aF (kI (fH Ux (iG Bj PyProof.Rows.Boot.«len» (aB (aC 0) aE) (hb:=vD)) aJ)
  (aN (cJ (i:=1) kU.nd (dG (aC 0) aJ)))
  eG)
 (aF (cJ (i:=2) kU.nd (s_call To Tp (aB (s_call F3 F4 (aB (aC 1) (aB aJ aE))) aE)))
 (aF (cJ (i:=3) kU.nd (tM cW Jw rB AL rC))
 (aF (cJ (i:=4) kU.nd (tM cW Jw rB AL rC))
 (aF (eJ (fF (tb:=BQ) (aR cW cI lN nofun nJ nK cB) (aC 4) (aB (bG (aB (bG (aB (aC 2) (aB aJ aE))) (aB (bG aE) (aB (bG (aB cM (aB (bG (aB cM (aB aJ aE))) (aB (bG aE) (aB aJ (aB cM aE)))))) aE)))) aE)))
 (aF (eJ (fF (tb:=BR) (aR cW cI lN nofun nJ nK cB) (aC 4) (aB (bG (aB (bG (aB (aC 2) (aB aJ aE))) (aB (bG (aB (bG (aB (aC 2) (aB aJ aE))) aE)) (aB (bG (aB cM (aB (bG (aB cM (aB aJ aE))) (aB (bG (aB (bG (aB aJ (aB (aC 2) (aB aJ (aB aJ aE))))) aE)) (aB (bG (aB (bG (aB aJ (aB (aC 2) (aB aJ (aB aJ aE))))) aE)) (aB cM aE)))))) aE)))) aE)))
 (aF (cJ (i:=5) kU.nd (tM aT Cg jO oS jP))
 (aF (cJ (i:=6) kU.nd (tM aO Cf jM oR jN))
 (aF (cJ (i:=7) kU.nd (iF aE))
 (aF (oK (M4 (aB (iG UF PyProof.Rows.Boot.«min» (aB (iG Bj PyProof.Rows.Boot.«len» (aB (aC 0) aE) (hb:=vD)) (aB aJ aE)) (hb:=(.tail _ (.tail _ (.tail _ (.tail _ (.tail _ (.tail _ (.tail _ (.tail _ (.tail _ (.tail _ (.tail _ (.head _)))))))))))))) aE) (hb:=Cb)) (aV kU.nd)
  (aF (cJ (i:=9) kU.nd (bG (aB (bG (aB (aC 2) (aB (bP eI (aC 8) aJ) aE))) (aB (bG (aB (bG (aB (aC 2) (aB (bP eI (aC 8) aJ) aE))) aE)) (aB (s_call Vr Vs (aB (dG (aC 0) (aC 8)) (aB (aC 7) aE))) aE)))))
  (aF (eJ (fF (tb:=BS) (aR cW cI lN nofun nJ nK cB) (aC 3) (aB (aC 9) aE)))
  (aF (eJ (s_call Qu Qv (aB (aC 5) (aB (aC 6) (aB (aC 9) aE)))))
  (aF (cJ (i:=7) kU.nd (bP eI (aC 7) (pD (js:=[b_,b_,a_ 7]) (N:=GJ) rfl rfl (by rfl) (iJ (eK (tb:=wV) (aR aO aL bL nofun bS bT (aR aT aS bM nofun bU bV cB)) (aC 5))) (λ_ _ _ _=>(iI (bI (aV DU) (bI (aV DU) iH)))) (λ_ _ _ _=>(M5 (fH FX (aC 0) (aC 2)))) (λ_ _ _ _=>(aC 0)))))
  (aF (kI (SW.t (w_and (fH uL (aC 8) (bP iE (aC 1) aJ)) (Sj (Dw (Bg (s_call O1 O5 (aB (aC 3) (aB (aC 4) (aB (aC 5) (aB (aC 6) aE))))))))))
   (aN (cX CC))
   eG)
  (aF (kI (fH Ux (aC 8) (bP iE (aC 1) aJ))
   (aF (eJ (fF (tb:=BU) (aR cW cI lN nofun nJ nK cB) (aC 4) (aB (aC 9) aE)))
   (aN (kI (Dw (Bg (s_call yE yF (aB (aC 4) (aB (aC 5) (aB (aC 6) aE))))))
    (aN (cX CC))
    eG)))
   eG)
  (aN (kI (Dw (Bg (s_call yE yF (aB (aC 3) (aB (aC 5) (aB (aC 6) aE))))))
   (aN (cX CC))
   eG)))))))))
 (aF (eJ (fF (tb:=BV) (aR aO aL fK nofun gF gG (aR aT aS fL nofun gH gI (aR cW cI qP nofun sY sZ cB))) (aC 4) (aB (bG (aB (iF aE) (aB (iF aE) aE))) aE)))
 (aN (cX (IZ (Vg (tb:=wW) (N0 cW cI qQ Px) (aC 3) Fb (hb:=nU)) (IZ (LN N5 (eK (tb:=BX) (aR cW cI qO nofun sW sX cB) (aC 4)) (iF aE)) (LW (LN N5 (eK (tb:=BW) (aR cW cI kW nofun mX mY cB) (aC 4)) (bG (aB (iF aE) (aB (iF aE) aE)))))))))))))))))))))
end
def spL(K:Zf):Sp:=λvs H Q _=>∃(a:u_)(ns:C_ Int),vs=[.ref a]/\Ll H/\SqL K H a (ns.map V.int)/\ns.length<=63/\∀H',Q (.bl true) H'
@[elab_as_elim]theorem vM{P:C_ s_->Prop}(us:C_ s_)(hl:us.length=1)(h:∀a0,P [a0]):P us:=by
 cases us with
 |nil=>cases hl
 |cons a0 us=>
  cases us with
  |nil=>exact h a0
  |cons b us=>simp only[ZY]at hl;omega
@[elab_as_elim]theorem uA{P:C_ s_->Prop}(us:C_ s_)(hl:us.length=2)(h:∀a0 a1,P [a0,a1]):P us:=by
 cases us with
 |nil=>cases hl
 |cons a0 us=>
  cases us with
  |nil=>cases hl
  |cons a1 us=>
   cases us with
   |nil=>exact h a0 a1
   |cons b us=>simp only[ZY]at hl;omega
@[elab_as_elim]theorem Vt{P:C_ s_->Prop}(us:C_ s_)(hl:us.length=3)(h:∀a0 a1 a2,P [a0,a1,a2]):P us:=by
 cases us with
 |nil=>cases hl
 |cons a0 us=>
  cases us with
  |nil=>cases hl
  |cons a1 us=>
   cases us with
   |nil=>cases hl
   |cons a2 us=>
    cases us with
    |nil=>exact h a0 a1 a2
    |cons b us=>simp only[ZY]at hl;omega
@[elab_as_elim]theorem WX{P:C_ s_->Prop}(us:C_ s_)(hl:us.length=4)(h:∀a0 a1 a2 a3,P [a0,a1,a2,a3]):P us:=by
 cases us with
 |nil=>cases hl
 |cons a0 us=>
  cases us with
  |nil=>cases hl
  |cons a1 us=>
   cases us with
   |nil=>cases hl
   |cons a2 us=>
    cases us with
    |nil=>cases hl
    |cons a3 us=>
     cases us with
     |nil=>exact h a0 a1 a2 a3
     |cons b us=>simp only[ZY]at hl;omega
def all_mk{l:PySem.W.OpenLaw}{w:y_}{K:Zf}{h:x_}{mg:o_ 0}{fa aH aI aM zR O6:u_}(X:K.In h)(G:h.Ns y0t mg)(XM:mg "law" = c_ fa)(hbn:∀x∈bsL,mg x=b_)
  (Qw:y20 K y0t "Marks" = a_ (c_ aH))
  (O7:y1H K aH Str.empty=true)
  (O8:y11 K aH=true)
  (O9:y2H K aH=true)
  (Oa:ZF K (.ref aH) "__setattr__" = a_ (a_ (.builtin "object.__setattr__")))
  (Ob:y12 K aH=true)
  (Od:y0G K (.ref aH)=true)
  (CW:ZF K (.ref aH) "kept" = a_ b_)
  (Cp:ZF K (.ref aH) "marks" = a_ b_)
  (Cq:ZF K (.ref aH) "signs" = a_ b_)
  (yG:ZF K (.ref aH) "standing" = a_ b_)
  (Qx:y20 K y0t "Signs" = a_ (c_ aI))
  (Oe:y1H K aI Str.empty=true)
  (Of:y11 K aI=true)
  (Og:y2H K aI=true)
  (Oh:ZF K (.ref aI) "__setattr__" = a_ (a_ (.builtin "object.__setattr__")))
  (Oi:y12 K aI=true)
  (Oj:y0G K (.ref aI)=true)
  (CY:ZF K (.ref aI) "kept" = a_ b_)
  (Cr:ZF K (.ref aI) "marks" = a_ b_)
  (Cs:ZF K (.ref aI) "signs" = a_ b_)
  (yH:ZF K (.ref aI) "standing" = a_ b_)
  (Tq:y20 K y0t "Text" = a_ (c_ aM))
  (Qy:y1H K aM Str.empty=true)
  (Qz:y11 K aM=true)
  (QA:y2H K aM=true)
  (QB:ZF K (.ref aM) "__setattr__" = a_ (a_ (.builtin "object.__setattr__")))
  (QC:y12 K aM=true)
  (QD:y0G K (.ref aM)=true)
  (Fc:ZF K (.ref aM) "kept" = a_ b_)
  (CZ:ZF K (.ref aM) "marks" = a_ b_)
  (D0:ZF K (.ref aM) "signs" = a_ b_)
  (zS:ZF K (.ref aM) "standing" = a_ b_)
  (Yj:PySem.W.specialIn K (.builtin "object.__class__") "__get__" = a_ (a_ (.builtin "getset_descriptor.__get__")))
  (ic3:PySem.W.takesIn K (.builtin "object.__class__")=a_ true)
  (Tr:y20 K y0t "Leaf" = a_ (c_ zR))
  (Ol:ZF K (.ref aM) "__class__" = a_ (a_ (.builtin "object.__class__")))
  (Om:PySem.W.mroIn K aM (.type "object")=a_ true)
  (D3:PySem.W.subIn K (.ref aM) (.ref zR)=a_ true)
  (On:PySem.W.isClsIn K zR=true)
  (Oo:PySem.W.typeIn K (.ref zR)=a_ (.type "type"))
  (zT:MtX K aH "__init__" "Marks.__init__" jK)
  (D4:MtX K aH "clear" "Marks.clear" nS)
  (Fd:MtX K aH "ends" "Marks.ends" qJ)
  (Fe:MtX K aH "fill" "Marks.fill" qC)
  (Ff:MtX K aH "mark" "Marks.mark" qB)
  (Fg:MtX K aH "rows" "Marks.rows" qF)
  (uB:MtX K aH "words_along" "Marks.words_along" gM)
  (zU:MtX K aH "words_at" "Marks.words_at" jL)
  (zV:MtX K aI "__init__" "Signs.__init__" jJ)
  (GT:MtX K aI "cut" "Signs.cut" sI)
  (Fh:MtX K aI "fill" "Signs.fill" qD)
  (Fi:MtX K aI "rows" "Signs.rows" qG)
  (D5:MtX K aI "write" "Signs.write" nR)
  (Aw:MtX K aM "__init__" "Text.__init__" kT)
  (Ct:MtX K aM "content" "Text.content" mS)
  (GU:MtX K aM "fill" "Text.fill" sL)
  (GV:MtX K aM "hear" "Text.hear" sJ)
  (D6:MtX K aM "places" "Text.places" nT)
  (GW:MtX K aM "told" "Text.told" sO)
  (Ts:DfX K "_law_hand" EX)
  (ID:DfX K "place_of" pY)
  (GX:DfX K "places_of" nH)
  (KW:DfX K "rank_of" tS)
  (IE:DfX K "row_rank" pZ)
  (Oq:DfX K "covers" xP)
  (QE:DfX K "holed" AF)
  (QF:DfX K "_law_mixed" AG)
  (QG:DfX K "_law_apart" AH)
  (Vu:DfX K "_law_act" Ju)
  (IF:DfX K "numbered" qH)
  (IG:DfX K "spans_of" qI)
  (QH:DfX K "bears" AI)
  (QI:DfX K "_law_right" AJ)
  (Os:DfX K "_law_filled" xV)
  (Vv:y20 K y0t "law" = a_ (c_ O6))
  {Tt Ot Jx Ou Fj Ov:s_} {Tu Ow:D_ u_} {QJ:n_ 0}
  (Vw:K.lookup O6=a_ ⟨Tt,Tu,.func (y08 "law" "law" (iC xW) (fU xW) (aK xW) .none Ot Jx Ou Ow Fj Ov),QJ⟩)
  (Vx:y2O K Fj "law" = true)
  (Vy:y0G K (.ref O6)=true)
  : ∃fd:ZL,(∀(s:t_)(v:s_),BindsTo s fd ⟨[v],[]⟩ [("_law_script",v)])/\∀base:x_,K.In base->base.Ns y0t mg->bR l.prog w K mg base CX0 10 fa fd ["_law_script"] (spL K):=by
 have e:=XM.symm.trans (y25 X G Vv);cases e
 have aO:(clF aH aI aM) "Marks" = a_ aH:=(if_pos rfl);have aL:Cls K aH:=⟨O7,O8,O9,Oa⟩;have oR:mg "Marks" = c_ aH:=y25 X G Qw;have aT:(clF aH aI aM) "Signs" = a_ aI:=((if_neg nofun).trans (if_pos rfl));have aS:Cls K aI:=⟨Oe,Of,Og,Oh⟩;have oS:mg "Signs" = c_ aI:=y25 X G Qx;have cW:(clF aH aI aM) "Text" = a_ aM:=((if_neg nofun).trans ((if_neg nofun).trans (if_pos rfl)));have cI:Cls K aM:=⟨Qy,Qz,QA,QB⟩;have AL:mg "Text" = c_ aM:=y25 X G Tq;have qQ:Pw K aM zR true:=⟨Ol,Yj,ic3,Om,SN On Oo D3⟩;have Fb:mg "Leaf" = c_ zR:=y25 X G Tr;have eU:iB (cC w K (clF aH aI aM)) "kept" := λc a hc=>by
  have ae:(clF aH aI aM) c=a_ a:=hc;dsimp only[clF]at ae;by_cases iU:c="Marks"
  ·rw[if_pos iU]at ae;cases ae
   exact⟨aL,CW⟩
  rw[if_neg iU]at ae;by_cases iV:c="Signs"
  ·rw[if_pos iV]at ae;cases ae
   exact⟨aS,CY⟩
  rw[if_neg iV]at ae;by_cases mZ:c="Text"
  ·rw[if_pos mZ]at ae;cases ae
   exact⟨cI,Fc⟩
  rw[if_neg mZ]at ae;cases ae
 have dF:iB (cC w K (clF aH aI aM)) "marks" := λc a hc=>by
  have ae:(clF aH aI aM) c=a_ a:=hc;dsimp only[clF]at ae;by_cases iU:c="Marks"
  ·rw[if_pos iU]at ae;cases ae
   exact⟨aL,Cp⟩
  rw[if_neg iU]at ae;by_cases iV:c="Signs"
  ·rw[if_pos iV]at ae;cases ae
   exact⟨aS,Cr⟩
  rw[if_neg iV]at ae;by_cases mZ:c="Text"
  ·rw[if_pos mZ]at ae;cases ae
   exact⟨cI,CZ⟩
  rw[if_neg mZ]at ae;cases ae
 have cR:iB (cC w K (clF aH aI aM)) "signs" := λc a hc=>by
  have ae:(clF aH aI aM) c=a_ a:=hc;dsimp only[clF]at ae;by_cases iU:c="Marks"
  ·rw[if_pos iU]at ae;cases ae
   exact⟨aL,Cq⟩
  rw[if_neg iU]at ae;by_cases iV:c="Signs"
  ·rw[if_pos iV]at ae;cases ae
   exact⟨aS,Cs⟩
  rw[if_neg iV]at ae;by_cases mZ:c="Text"
  ·rw[if_pos mZ]at ae;cases ae
   exact⟨cI,D0⟩
  rw[if_neg mZ]at ae;cases ae
 have aZ:iB (cC w K (clF aH aI aM)) "standing" := λc a hc=>by
  have ae:(clF aH aI aM) c=a_ a:=hc;dsimp only[clF]at ae;by_cases iU:c="Marks"
  ·rw[if_pos iU]at ae;cases ae
   exact⟨aL,yG⟩
  rw[if_neg iU]at ae;by_cases iV:c="Signs"
  ·rw[if_pos iV]at ae;cases ae
   exact⟨aS,yH⟩
  rw[if_neg iV]at ae;by_cases mZ:c="Text"
  ·rw[if_pos mZ]at ae;cases ae
   exact⟨cI,zS⟩
  rw[if_neg mZ]at ae;cases ae
 refine⟨y08 "law" "law" (iC xW) (fU xW) (aK xW) .none Ot Jx Ou Ow Fj Ov,λs v=>.of_eq rfl,λbase _ _=>?_⟩;have IC:Jv l.prog w K mg base (clF aH aI aM):=vF X G Ts (λ_ _ _ _ _ _ us hl=>vM us hl λ_=>rfl) λF=>Qp hbn F;have dX:tMk l.prog w K mg base (clF aH aI aM) 1 aI "__init__" ["self"] 1 bZ:=Th zV Oi Oj (λ_ _ _ _ _ _ us hl=>vM us hl λ_=>rfl) λF=>xY hbn F eU;have dW:tMk l.prog w K mg base (clF aH aI aM) 1 aH "__init__" ["self"] 1 cA:=Th zT Ob Od (λ_ _ _ _ _ _ us hl=>vM us hl λ_=>rfl) λF=>xZ hbn F aZ;have kX:tMk l.prog w K mg base (clF aH aI aM) 3 aM "__init__" ["self"] 1 cT:=Th Aw QC QD (λ_ _ _ _ _ _ us hl=>vM us hl λ_=>rfl) λF=>zM hbn F aO aL aT aS dW dX oR oS dF cR;have vG:Ai l.prog w K mg base (clF aH aI aM):=vF X G ID (λ_ _ _ _ _ _ us hl=>uA us hl λ_ _=>rfl) λF=>GN hbn F;have sS:xX l.prog w K mg base (clF aH aI aM):=vF X G GX (λ_ _ _ _ _ _ us hl=>vM us hl λ_=>rfl) λF=>EY hbn F vG;have fJ:tMt l.prog w K mg base (clF aH aI aM) 3 aI "write" ["self","deed"] 2 dO:=tZ D5 (λ_ _ _ _ _ _ us hl=>uA us hl λ_ _=>rfl) λF=>Ci hbn F sS eU;have lQ:vE l.prog w K mg base (clF aH aI aM):=vF X G KW (λ_ _ _ _ _ _ us hl=>vM us hl λ_=>rfl) λF=>Iz hbn F;have jQ:sQ l.prog w K mg base (clF aH aI aM):=vF X G IE (λ_ _ _ _ _ _ us hl=>vM us hl λ_=>rfl) λF=>GQ hbn F lQ;have hV:tMt l.prog w K mg base (clF aH aI aM) 5 aI "cut" ["self","places"] 2 fB:=tZ GT (λ_ _ _ _ _ _ us hl=>uA us hl λ_ _=>rfl) λF=>EZ hbn F jQ eU;have fZ:tMt l.prog w K mg base (clF aH aI aM) 1 aH "mark" ["self","deed"] 2 eM:=tZ Ff (λ_ _ _ _ _ _ us hl=>uA us hl λ_ _=>rfl) λF=>CM hbn F aZ;have Cj:DV l.prog w K mg base (clF aH aI aM):=vF X G Oq (λ_ _ _ _ _ _ us hl=>uA us hl λ_ _=>rfl) λF=>KR hbn F;have F0:GK l.prog w K mg base (clF aH aI aM):=vF X G QE (λ_ _ _ _ _ _ us hl=>uA us hl λ_ _=>rfl) λF=>NT hbn F Cj;have fI:tMt l.prog w K mg base (clF aH aI aM) 3 aH "clear" ["self","deed"] 2 dP:=tZ D4 (λ_ _ _ _ _ _ us hl=>uA us hl λ_ _=>rfl) λF=>Ck hbn F F0 aZ;have tB:tMt l.prog w K mg base (clF aH aI aM) 6 aM "hear" ["self","deed"] 2 cU:=tZ GV (λ_ _ _ _ _ _ us hl=>uA us hl λ_ _=>rfl) λF=>F1 hbn F aO aL aT aS fI fZ hV fJ dF cR;have dJ:tMt l.prog w K mg base (clF aH aI aM) 1 aH "fill" ["self","rows"] 2 cO:=tZ Fe (λ_ _ _ _ _ _ us hl=>uA us hl λ_ _=>rfl) λF=>CN hbn F aZ;have dM:tMt l.prog w K mg base (clF aH aI aM) 1 aI "fill" ["self","rows"] 2 cG:=tZ Fh (λ_ _ _ _ _ _ us hl=>uA us hl λ_ _=>rfl) λF=>CO hbn F eU;have hZ:tMt l.prog w K mg base (clF aH aI aM) 2 aM "fill" ["self","content"] 2 eN:=tZ GU (λ_ _ _ _ _ _ us hl=>uA us hl λ_ _=>rfl) λF=>F2 hbn F aO aL aT aS dJ dM dF cR;have tU:Cd l.prog w K mg base (clF aH aI aM):=vF X G QF (λ_ _ _ _ _ _ us hl=>uA us hl λ_ _=>rfl) λF=>NW hbn F;have F9:GL l.prog w K mg base (clF aH aI aM):=vF X G QG (λ_ _ _ _ _ _ us hl=>Vt us hl λ_ _ _=>rfl) λF=>NX hbn F aO aL aT aS fI fZ hV fJ;have O0:NS l.prog w K mg base (clF aH aI aM):=vF X G Vu (λ_ _ _ _ _ _ us hl=>uA us hl λ_ _=>rfl) λF=>Ti hbn F tU;have bJ:tMt l.prog w K mg base (clF aH aI aM) 1 aH "rows" ["self"] 1 aY:=tZ Fg (λ_ _ _ _ _ _ us hl=>vM us hl λ_=>rfl) λF=>CP hbn F aZ;have bK:tMt l.prog w K mg base (clF aH aI aM) 5 aI "rows" ["self"] 1 aX:=tZ Fi (λ_ _ _ _ _ _ us hl=>vM us hl λ_=>rfl) λF=>CQ hbn F jQ eU;have vL:Aj l.prog w K mg base (clF aH aI aM):=vF X G IF (λ_ _ _ _ _ _ us hl=>vM us hl λ_=>rfl) λF=>GR hbn F lQ;have jR:sR l.prog w K mg base (clF aH aI aM):=vF X G IG (λ_ _ _ _ _ _ us hl=>vM us hl λ_=>rfl) λF=>GS hbn F;have qN:tMt l.prog w K mg base (clF aH aI aM) 2 aH "ends" ["self"] 1 fG:=tZ Fd (λ_ _ _ _ _ _ us hl=>vM us hl λ_=>rfl) λF=>CS hbn F jR aZ;have F5:GM l.prog w K mg base (clF aH aI aM):=vF X G QH (λ_ _ _ _ _ _ us hl=>uA us hl λ_ _=>rfl) λF=>NY hbn F;have cS:tMt l.prog w K mg base (clF aH aI aM) 5 aH "words_along" ["self","places"] 2 bB:=tZ uB (λ_ _ _ _ _ _ us hl=>uA us hl λ_ _=>rfl) λF=>sV hbn F vL jR F5 aO aL qN aZ;have oA:tMt l.prog w K mg base (clF aH aI aM) 6 aM "places" ["self"] 1 eQ:=tZ D6 (λ_ _ _ _ _ _ us hl=>vM us hl λ_=>rfl) λF=>Cm hbn F aO aL aT aS bJ bK cR;have hW:tMt l.prog w K mg base (clF aH aI aM) 7 aM "told" ["self"] 1 eO:=tZ GW (λ_ _ _ _ _ _ us hl=>vM us hl λ_=>rfl) λF=>F8 hbn F aO aL aT aS cW cI bJ cS bK oA dF cR;have eX:tMt l.prog w K mg base (clF aH aI aM) 6 aM "content" ["self"] 1 cP:=tZ Ct (λ_ _ _ _ _ _ us hl=>vM us hl λ_=>rfl) λF=>Av hbn F aO aL aT aS bJ bK dF cR;have jS:tMt l.prog w K mg base (clF aH aI aM) 6 aH "words_at" ["self","place"] 2 dU:=tZ zU (λ_ _ _ _ _ _ us hl=>uA us hl λ_ _=>rfl) λF=>yC hbn F aO aL cS;have tW:Ce l.prog w K mg base (clF aH aI aM):=vF X G QI (λ_ _ _ _ _ _ us hl=>Vt us hl λ_ _ _=>rfl) λF=>NZ hbn F aO aL aT aS cW cI bJ jS bK eX hW;have Co:DW l.prog w K mg base (clF aH aI aM):=vF X G Os (λ_ _ _ _ _ _ us hl=>WX us hl λ_ _ _ _=>rfl) λF=>KS hbn F tW aO aL aT aS cW cI dJ bJ dM bK hZ;refine(Tj (cl:=clF aH aI aM) hbn (AW (st:=xW) Vw Vx Vy) IC tU F9 O0 tW Co aO aL aT aS cW cI dW dJ bJ dX dM bK kX eX hZ tB hW oR oS AL Fb qQ).imp λvs H Q E hh=>?_;let⟨a,ns,rfl,hO,hS,hl,hq⟩:=hh;exact So (C:=cC w K (clF aH aI aM)) hO hS (main ns hl) hq
def walk{l:PySem.W.OpenLaw}{q:z_}{loose:C_ Str}{XP:(o_ 0)->x_->Prop}{YP:y_->x_->Prop}{d:DefRec}{K:Params->Zf}(hn:l.most=a_ 63)(m8:d.params.defaults=[])
  (hY:∀(w:y_)(h:x_),YP w h->(K w.params).In h)
  (F:∀(w:y_)(mg:o_ 0)(fa:u_)(h:x_),(K w.params).In h->h.Ns y0t mg->mg d.name=c_ fa->
   ∃fd:ZL,(∀(s:t_)(u:s_),BindsTo s fd ⟨[u],[]⟩ [("_law_script",u)])/\∀base:x_,(K w.params).In base->base.Ns y0t mg->bR l.prog w (K w.params) mg base CX0 10 fa fd ["_law_script"] (spL (K w.params))):
  PySem.W.WalkO q loose XP YP l.row.toRowW d [] (λf vs=>PySem.call f vs):=
 L2.walk_of (n:=63) (k:=10) (x:="_law_script") (CX:=λ_=>CX0) (sp:=λw=>spL (K w.params)) hn nofun m8 ⟨rfl,nofun,nofun⟩ hY F (λw H a ns hl hO hS=>⟨a,ns,rfl,hO,hS,hl,λ_=>rfl⟩) λ_ _ _ _ _ z=>z
end K45
open PySem PySem.W PyProof.Rows
set_option maxRecDepth 100000 in
set_option maxHeartbeats 0 in
inductive PySem.W.Fast|tw16284169029594885882|tw12629933327899320845|tw1083834908306736007|tw13876106488747052089|tw8615169032229947352|tw17144772158536746184|tw16704280421676851524|tw10878476115352168980|tw11105309593356947134|tw10209762019166091360|tw14671464078790140236|tw11772492516911248855|tw13803583155880333016|tw10059447757404287285|tw9380014313789452811|tw15802626477811962468|tw13402738671643035948|tw2498389851633896543|tw8633196958108414952|tw3266907956529354227|tw14227857628437140816|tw3404785547626145790|tw10715857933038786025|tw10828320599156322314|tw2429086520076442297|tw10180198163217614758|tw5020679240854566744|tw8911529971428755024|tw10526488193233653654|tw9063209826056923782|tw18203108949353788411|tw859273862232498693|tw8198839489853834377|tw2800694415687679682|tw6187804390090577936|tw8910278546285376859|tw10636860249954323333|tw4549557243572958940|tw1071565814391369717|tw4378969449504874444|tw16890930322834638641|tw17456135228199477653|tw13728090194504300139|tw4437094420922124631|tw14057621050266758684|tw3132175815557152147|tw15023232522939773219|tw9542554646354428385|tw16100143260922648747|tw11664300243154983871|tw2583905376029836681|tw9738520231524222111|tw13530930795325177432|tw4138019845349702503|tw12442035225837842089|tw11806433328753782283|tw9459488120510144118|tw10143557115481795469|tw10823182528868323857|tw5998484112188326424|tw2884891600006454673|tw3067553640505721232|tw15128772923050878041|tw11236286092271441742|tw1124700491930273432|tw9592259302837478273|tw6620407771479436393|tw14984325651467427403|tw8277213175112822886|tw5118031919070889207|tw10539919806075580349|tw16591610871406040626|tw3771546727471186448|tw17072706094697741611|tw1712559169351813518|tw6520420646173790324|tw7001077652107139668|tw15301886024109330290|tw4279062953547573257|tw3422720909622010147|tw6405223755257619453|tw9215541421279940528|tw9292518530481105914|tw12394658658839834147|tw12483931224207554235|tw5154796358306912961|tw12772280870568993073|tw17839410188167294169|tw2955594404133216700|tw5919713501168591613|tw5062080989457105007|tw17425383402671936114|tw16763100777084561689|tw12270065701670639768|tw6871940305108626113|tw8700736279840544082|tw6107206331947575438|tw995422918667899238|tw7170597808178070740|tw8810350417193495965|tw8768659909334197118|tw15241355828286965054|tw12473618729940838942|tw12061418240850902751|tw17154671509460072370|tw1428335363433566605|tw13230752799346413295|tw12385690394681725152|tw10163782380320467322|tw14129562344434698744|tw15173211833609812277|tw10571180826100982745
theorem PySem.Challenge.cw_copymeet_k45_a_text_holds : PySem.Challenge.rw_copymeet_k45_a_text.Holds := by
 w_on; o_law; k_head; (case hw=>w_witness2)
 k_fill
 refine K45.walk (l:=PySem.Challenge.rw_copymeet_k45_a_text) rfl rfl (fun w h Y=>PySem.W.kIn_of Y) ?F
 case F=>
  intro w mg fa h KX G hmg
  have hbn:∀ x∈K45.bsL,mg x=none:=fun x hx=>by
   rcases List.mem_cons.mp hx with rfl | hx
   ·exact PySem.W.mg_none_of KX G (by k_is)
   rcases List.mem_cons.mp hx with rfl | hx
   ·exact PySem.W.mg_none_of KX G (by k_is)
   rcases List.mem_cons.mp hx with rfl | hx
   ·exact PySem.W.mg_none_of KX G (by k_is)
   rcases List.mem_cons.mp hx with rfl | hx
   ·exact PySem.W.mg_none_of KX G (by k_is)
   rcases List.mem_cons.mp hx with rfl | hx
   ·exact PySem.W.mg_none_of KX G (by k_is)
   rcases List.mem_cons.mp hx with rfl | hx
   ·exact PySem.W.mg_none_of KX G (by k_is)
   rcases List.mem_cons.mp hx with rfl | hx
   ·exact PySem.W.mg_none_of KX G (by k_is)
   rcases List.mem_cons.mp hx with rfl | hx
   ·exact PySem.W.mg_none_of KX G (by k_is)
   rcases List.mem_cons.mp hx with rfl | hx
   ·exact PySem.W.mg_none_of KX G (by k_is)
   rcases List.mem_cons.mp hx with rfl | hx
   ·exact PySem.W.mg_none_of KX G (by k_is)
   rcases List.mem_cons.mp hx with rfl | hx
   ·exact PySem.W.mg_none_of KX G (by k_is)
   rcases List.mem_cons.mp hx with rfl | hx
   ·exact PySem.W.mg_none_of KX G (by k_is)
   cases hx
  refine' K45.all_mk KX G hmg hbn ?h0 ?h1 ?h2 ?h3 ?h4 ?h5 ?h6 ?h7 ?h8 ?h9 ?h10 ?h11 ?h12 ?h13 ?h14 ?h15 ?h16 ?h17 ?h18 ?h19 ?h20 ?h21 ?h22 ?h23 ?h24 ?h25 ?h26 ?h27 ?h28 ?h29 ?h30 ?h31 ?h32 ?h33 ?h34 ?h35 ?h36 ?h37 ?h38 ?h39 ?h40 ?h41 ?h42 ?h43 ?h44 ?h45 ?h46 ?h47 ?h48 ?h49 ?h50 ?h51 ?h52 ?h53 ?h54 ?h55 ?h56 ?h57 ?h58 ?h59 ?h60 ?h61 ?h62 ?h63 ?h64 ?h65 ?h66 ?h67 ?h68 ?h69 ?h70 ?h71 ?h72 ?h73 ?h74 ?h75 ?h76 ?h77 ?h78
  (case h0=>k_is)
  (case h1=>k_is)
  (case h2=>k_is)
  (case h3=>k_is)
  (case h4=>k_is)
  (case h5=>k_is)
  (case h6=>k_is)
  (case h7=>k_is)
  (case h8=>k_is)
  (case h9=>k_is)
  (case h10=>k_is)
  (case h11=>k_is)
  (case h12=>k_is)
  (case h13=>k_is)
  (case h14=>k_is)
  (case h15=>k_is)
  (case h16=>k_is)
  (case h17=>k_is)
  (case h18=>k_is)
  (case h19=>k_is)
  (case h20=>k_is)
  (case h21=>k_is)
  (case h22=>k_is)
  (case h23=>k_is)
  (case h24=>k_is)
  (case h25=>k_is)
  (case h26=>k_is)
  (case h27=>k_is)
  (case h28=>k_is)
  (case h29=>k_is)
  (case h30=>k_is)
  (case h31=>k_is)
  (case h32=>k_is)
  (case h33=>k_is)
  (case h34=>k_is)
  (case h35=>k_is)
  (case h36=>k_is)
  (case h37=>k_is)
  (case h38=>k_is)
  (case h39=>k_is)
  (case h40=>k_is)
  (case h41=>exact qb_ 0)
  (case h42=>exact qb_ 0)
  (case h43=>exact qb_ 0)
  (case h44=>exact qb_ 0)
  (case h45=>exact qb_ 0)
  (case h46=>exact qb_ 0)
  (case h47=>exact qb_ 0)
  (case h48=>exact qb_ 0)
  (case h49=>exact qb_ 0)
  (case h50=>exact qb_ 0)
  (case h51=>exact qb_ 0)
  (case h52=>exact qb_ 0)
  (case h53=>exact qb_ 0)
  (case h54=>exact qb_ 0)
  (case h55=>exact qb_ 0)
  (case h56=>exact qb_ 0)
  (case h57=>exact qb_ 0)
  (case h58=>exact qb_ 0)
  (case h59=>exact qb_ 0)
  (case h60=>exact qc_ 0)
  (case h61=>exact qc_ 0)
  (case h62=>exact qc_ 0)
  (case h63=>exact qc_ 0)
  (case h64=>exact qc_ 0)
  (case h65=>exact qc_ 0)
  (case h66=>exact qc_ 0)
  (case h67=>exact qc_ 0)
  (case h68=>exact qc_ 0)
  (case h69=>exact qc_ 0)
  (case h70=>exact qc_ 0)
  (case h71=>exact qc_ 0)
  (case h72=>exact qc_ 0)
  (case h73=>exact qc_ 0)
  (case h74=>exact qc_ 0)
  (case h75=>k_is)
  (case h76=>k_is)
  (case h77=>k_is)
  (case h78=>k_is)
