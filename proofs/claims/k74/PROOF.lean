import PyProof.Rows.All
import Wide.All
import OpenK.AllK
import Wide.FinOn
import Lean
import PyProof.EqAt
import PyProof.EqKinds
import PyProof.TupleCall
import PyProof.NeKinds
import KE.KDictOf
import PyProof.AttrMissHeap
import PyProof.WalksMore
import PyProof.MeetsDict
import KE.KDictList
import KE.KRevIter
import PyProof.DictItemsLoops
import PyProof.DictWalks
import KE.KSortTup
import KE.KDictSum
import PyProof.SumAny
import PyProof.Conv_int_bool
import PyProof.Conv_int
import KE.KRevSl
import PyProof.MeetsStr
import PyProof.StrCalls3
import PyProof.Rows.TupDisplay
import PyProof.ZipIter
import PyProof.Draws
import PyProof.EnumMake
import PySem.Challenge.RW_copymeet_k74_written_and_cut
set_option compiler.extract_closed false
open PySem renaming wpAny_bind->SB,wpAny_pure->SL,sizeLine->UG,starEach->UL,wpAny_newObj_type->U0,wpAny_callSpecial?_slot->U6,Spec->U7,compareOp->Vc,wpAny_call_entry->Vd,wpAny_typeNameOfWhole_itemiter->Vg,wpAny_dictEntries->Vi,wpAny_typeNameOf_itemiter->Vr,sizeLine_eq->Vs,wpAny_field->Vy,cellsFrom->VD,mainGlobals->VI,sysModules->VM,DictEntry->VQ,wpAny_Call_Name_kw->VS,wpAny_dictEpoch->VX,wpAny_holding->VY,foldedSetIterable->V2,binaryOp->V6,FuncData->V7,wpAny_isOneOf_itemiter->Wj,wpAny_attempt->Wp,wpAny_setField->Wq,wpAny_typeNameOfWhole_valiter->WA,wpAny_typeNameOfWhole_keyiter->WC,call_meetsIn->WG,wpAny_mono->WH,assignEach->WR,bootBuiltins->WV,tupleKind_room_in1->WX,wpAny_notOrdered_dict->WY,wpAny_setField_rec->W0,wpAny_fieldsOf->W3,firstArgMember->W4,wpAny_seqItems->W5,wpAny_typeNameOf_valiter->W9,wpAny_typeNameOf_keyiter->Xc,attributeBase->Xe,mem_of_lookup->Xf,wpAny_isInstance->Xk,wpAny_rule->Xo,NameKind->Xq,wpAny_letGo->Xy,swapsWith->XX
open List renaming getElem?_eq_some_iff->SC,mem_append_right->Ut,length_map->Uu,mem_cons_of_mem->Uw,prefix_rfl->Ux,mem_cons_self->Uy,size_toArray->UC,getElem?_map->UD,mem_cons->UF,map_cons->UJ,all_eq_true->UK,mem_append->UN,mem_map->UO,mem_of_getElem?->UP,lookup_cons->UU,mem_singleton->UX,map_append->UZ,length_set->U2,mem_append_left->U8,range->U9,pairwise_cons->Vh,map_map->Vk,getElem?_eq_getElem->Vl,length_append->Vm,prefix_append->Vo,cons_lt_cons_iff->Vp,getElem?_append_left->Vq,length_cons->VA,nodup_cons->VC,length_take->VE,getElem?_set_ne->VH,getElem?_cons_succ->VN,pairwise_map->VP,getElem?_set_self->VU,map_congr_left->VZ,nodup_append->V4,take_add_one->V5,getD_eq_getElem?_getD->Wh,append_nil->Ws,find?_cons->Wt,getElem?_eq_none->Wx,not_mem_nil->WB,pairwise_singleton->WE,mem_filter->WJ,getElem?_append_right->WQ,length_drop->WS,cons_append->WT,take_length->WU,all_cons->WW,length_filter_le->WZ,getElem?_zip_eq_some->W2,ext_getElem?->W8,toArray->Xd,any_cons->Xg,not_lt->Xi,map_eq_nil_iff->Xj,eq_nil_of_length_eq_zero->Xl,filter_cons->Xm,replicate->Xn,zip_cons_cons->Xs,all_map->Xu,mem_iff_getElem?->Xx,pairwise_reverse->Xz,append_assoc->XD,reverse_perm->XE,mem_of_mem_take->XI,length_pos_iff->XR,filter_eq_self->XS,filter_sublist->XT,map_nil->XW,lookup->XZ
open PySem.Heap renaming get?_push_of_some->SZ,get?_push_size->Uz,lt_size->UE,get?_update_self->Vf,size_push->VL,SameBut->V1,get?_update_other->Wi
open PySem.W renaming Frag->Us,findIn->Vu,kia_one->VB,emptyDict->V3,fnOf->We,keepIn->Wo,mg_of->WD,instObj->WI,katRev->XM,plainGet->XO,codeIn->X0,nsIn->X1
open Nat renaming le_refl->Uv,lt_of_lt_of_le->UM,ne_of_lt->UR,le_trans->U1,zero_le->U5,le_succ->Vb,ne_of_gt->Vv,lt_irrefl->Vx,le_of_lt->VR,lt_or_eq_of_le->Wa,min_eq_left->Wy
open PySem.Str renaming ofString->UB
open Bool renaming false_ne_true->UH,and_eq_true->UQ,false_eq_true->UV,eq_iff_iff->Wc,beq_eq_decide_eq->XA
open Option renaming map_eq_some_iff->UI,isSome_map->Wm,isSome_iff_exists->Wz,map_some->Xb,isSome_some->Xr
open PySem.Value renaming ref->US,none->UT,type->XU
open Option.some renaming inj->UW
open PySem.Heap.SameBut renaming update->UY
open PySem.F renaming slot_dict_itemiterator_next->U3,slot_dict_get->Vw,slot_dict_valueiterator_next->VT,entry_dict_get->VW,slot_dict_keyiterator_next->V8,plainAttrs_dict->Wd,args_dict_itemiterator_next_1->Wn,plain_extend_loop->Wr,entry_dict_itemiterator_next->Ww,args_dict_get_2->Xh,slot_dict_pop->XB,slot_zip_next->XC
open PySem.Builtin.Dict_items renaming ownsTuple->U4,pairFromOwner->Wg,ownedTupleIsFree->WL
open Ne renaming symm->Va
open PySem.Paired renaming length->Ve
open PySem.Obj renaming mapSeq->Vj,mapFields->Vz,data_mapFields->Wb,isFreed_of_fields->Wu
open PySem.NameKind renaming free->Vn,cell->XY
open PyProof.Rows renaming slot_tuple_getitem->Vt,callWith_type1->WK,mirror_perm->Xw
open Array renaming getElem?_eq_getElem->VF,getElem?_eq_none->VJ,length_toList->XQ
open PySem.Builtin.Tuple renaming tupleHashOf->VG,tupleExact->W7,tupleItemsOf->XF
open Int renaming toNat_natCast->VO
open False renaming elim->VV
open PySem.Builtin.SmallTypes renaming ownedTupleIsFree->V0,nextOf->W6,ownedTupleHandOut->XN
open Classical renaming propDecidable->V9
open True renaming intro->Wl
open PySem.Builtin.Dict renaming showsAll->Wv,takeOut->XH
open PySem.Builtin.List renaming listExtendWith->WM
open Prod renaming fst->WN
open Sum renaming inr->WO
open PySem.Builtin.Slice renaming slicePlaces->W1,sliceAdjust->XJ
open List.Perm renaming eq_of_pairwise->Xa
open PySem.Calls renaming callWith_builtin->Xp
open PySem.Builtin.Str renaming strSliceIndices->Xt
open Array.Perm renaming refl->Xv
open PySem PySem.Spec PyProof.Rows
open Option renaming some->a_,none->b_
open PySem renaming Value->q_,Shared->r_,Addr->s_,Around->t_,Heap->u_,World->ve,Program->vj,Expr->v_,Stmt->w_

local macro_rules|`(tactic|omega)=>`(tactic|lia)
local macro_rules|`(c_ $x)=>`(some (.ref $x))
local macro_rules|`(d_ $x)=>`(some (.int $x))
local macro_rules|`(g_ $x)=>`(PySem.model ($x).prog ($x).w)
local macro_rules|`(e_ $x)=>`(($x).heap.objs.size)
local macro_rules|`(f_ 0)=>`(PySem.Value->PySem.Shared->Prop)
local macro_rules|`(gV 0)=>`(List (PySem.Addr×PySem.Obj))
local macro_rules|`(jn $x)=>`($x->PySem.Shared->Prop)
local macro_rules|`(k_ $p $w $x*)=>`(PySem.wpAny (PySem.model $p $w) $x*)
local macro_rules|`(ke $x)=>`(by simpa using $x)
local macro_rules|`(⋯)=>`(by omega)
local macro_rules|`(l_ 0)=>`(Array (Option PySem.Value))
local macro_rules|`(m_ 0)=>`(PySem.Str->Option PySem.Value)
open Lean Parser Tactic in
def n_:Nat->Syntax->MacroM (TSyntax `rcasesPat)
|n+1,s=>match s with
 |`($x:ident)=>`(rcasesPat|$x:ident)
 |`(⟨$xs,*⟩)=>do
  let ys<-xs.getElems.mapM λx=>do`(rcasesPatLo|$(<-n_ n x):rcasesPat)
  `(rcasesPat|⟨$ys,*⟩)
 |_=>`(rcasesPat|_)
|_,_=>Macro.throwUnsupported
open Lean Parser Tactic in
local macro_rules|`(tactic|let $p:term:=$e)=>do let q<-`(rcasesPatMed|$(<-n_ 9 p):rcasesPat);`(tactic|obtain $q:rcasesPatMed:=$e)
local macro_rules|`(x_ $x)=>`(List $x)
local macro_rules|`(y_ $x)=>`(Option $x)
set_option bootstrap.genMatcherCode false
set_option Elab.async false
set_option linter.all false
set_option maxRecDepth 1000000
set_option maxHeartbeats 4000000
set_option hygiene false
noncomputable section
set_option genSizeOf false
local macro_rules|`(tactic|let $x:ident:=$e)=>`(tactic|have $x:ident:=$e)
local macro_rules|`(tactic|let $x:ident : $t :=$e)=>`(tactic|have $x:ident : $t :=$e)
local macro_rules|`(tactic|show $e)=>`(tactic|exact $e)
set_option hygiene false
local macro_rules|`(h_ $x*)=>`(Inv X td σ $x*)
local macro_rules|`(i_ $x*)=>`(aB vAt $x*)
local macro_rules|`(j_ $x*)=>`(RV C φ H $x*)
local macro_rules|`(p_ $x*)=>`(k_ prog w A $x*)
local macro_rules|`(z_ $x*)=>`(Ext.app _ $x*)
local macro_rules|`(A_ $x*)=>`(tC P w K mg base cl $x*)
local macro_rules|`(B_ $x*)=>`(wpAny _ _ $x*)
local macro_rules|`(C_ $x*)=>`(RVs C φ H $x*)
local macro_rules|`(D_ $x*)=>`(SE C k X $x*)
local macro_rules|`(E_ $x*)=>`(cB X.prog X.w C.K X.mg X.base CX0 j $x*)
local macro_rules|`(FR $x*)=>`(RH C φ H $x*)
local macro_rules|`(F_ $x*)=>`(evT lt $x*)
local macro_rules|`(G_ $x*)=>`(cB X.prog X.w X.K X.mg X.base $x*)
local macro_rules|`(H_ $x*)=>`(h_ H $x*)
local macro_rules|`(I_ $x*)=>`(post C φ H $x*)
local macro_rules|`(J_ $x*)=>`(tM P w K mg base cl $x*)
local macro_rules|`(K_ $x*)=>`(po.val rh $x*)
local macro_rules|`(L_ 0)=>`(X.env.cells.lookup x)
local macro_rules|`(M_ 0)=>`(s.heap.get? b)
local macro_rules|`(N_ $x*)=>`(X.comp sc $x*)
local macro_rules|`(O_ 0)=>`(re.mono p1 t1)
local macro_rules|`(P_ $x*)=>`(gR X.env.cells sc.names $x*)
local macro_rules|`(Q_ $x*)=>`(aM os $x*)
local macro_rules|`(R_ $x*)=>`(upd H $x*)
local macro_rules|`(S_ 0)=>`(eval e X.env)
local macro_rules|`(T_ 0)=>`(X.env.scope.names.lookup x)
local macro_rules|`(U_ 0)=>`(UL es X.env)
local macro_rules|`(V_ 0)=>`(D.depths ds)
local macro_rules|`(W_ $x*)=>`(HT.sIx xs.length $x*)
local macro_rules|`(X2 0)=>`(if_pos rfl)
local macro_rules|`(X3 $x*)=>`(EP X td σ $x*)
local macro_rules|`(X4 $x*)=>`(sIx items.size $x*)
local macro_rules|`(X5 $x*)=>`(Ext h $x*)
local macro_rules|`(X6 $x*)=>`(FS h l lt lm lf ll b $x*)
local macro_rules|`(X7 $x*)=>`(Cxt C k $x*)
local macro_rules|`(X8 0)=>`(aT d.act)
local macro_rules|`(X9 0)=>`(x_ PV)
local macro_rules|`(X_ 0)=>`(pv d.nm)
local macro_rules|`(Ya 0)=>`(Array q_)
local macro_rules|`(Yb $x*)=>`(rh.at' n a _ ha $x*)
local macro_rules|`(Yc $x*)=>`(backTo pos $x*)
local macro_rules|`(Yd $x*)=>`(katRev b $x*)
local macro_rules|`(Ye 0)=>`(ns.map PV.int)
local macro_rules|`(Yf $x*)=>`(pa' p $x*)
local macro_rules|`(Yg $x*)=>`(OpR X $x*)
local macro_rules|`(Yh $x*)=>`(aB vEq $x*)
local macro_rules|`(Yi 0)=>`(RE C φ H δ σ)
local macro_rules|`(Yj $x*)=>`(bM X.prog X.w $x*)
local macro_rules|`(Yk $x*)=>`(s.heap.update it $x*)
local macro_rules|`(Yl 0)=>`(RH C φ1 H1 h1)
local macro_rules|`(Ym $x*)=>`(h td s σ H $x*)
local macro_rules|`(Yn $x*)=>`(RH C φ' H' $x*)
local macro_rules|`(Yo 0)=>`(Uz _ rfl)
local macro_rules|`(Yp 0)=>`(sc.names.lookup x)
local macro_rules|`(Yq $x*)=>`(OpS C k X $x*)
local macro_rules|`(Yr $x*)=>`(h.set n $x*)
local macro_rules|`(Ys 0)=>`(s.heap.get? dc)
local macro_rules|`(Yt $x*)=>`(Tk ts h n c $x*)
local macro_rules|`(Yu 0)=>`(nO I c.K c.w rh ha ht)
local macro_rules|`(Yv 0)=>`(DecidableEq κ)
local macro_rules|`(tactic|rfl')=>`(tactic|refine now ?_)
local macro_rules|`(def $i:declId $s:optDeclSig $v:declVal)=>do let t:Lean.TSyntax ``Lean.Parser.Command.declSig:=⟨.node .none ``Lean.Parser.Command.declSig #[s.raw[0],s.raw[1][0]]⟩;let c<-`(theorem $i:declId $t $v:declVal);pure (c.raw.rewriteBottomUp (·.setInfo .none))
local macro_rules|`(abbrev $i:declId $s:optDeclSig $v:declVal)=>do let c<-`(noncomputable def $i:declId $s:optDeclSig $v:declVal);pure (c.raw.rewriteBottomUp (·.setInfo .none))
set_option tactic.hygienic false
namespace L2
@[reducible]def Key:=Sum Int Str
abbrev uR:Key->q_->Bool
 |.inl k,v=>Value.isInt k v
 |.inr x,v=>Value.isStrOf x v
abbrev LF(w:ve):Key->Int
 |.inl k=>hashInt k
 |.inr x=>hashStr w x
def bK:∀{k:Key}{v:q_},uR k v=true->(∃i t,k=Sum.inl i/\v=Value.int i t)\/(∃x t,k=WO x/\v=Value.str x t)
 |.inl i,v,h=>by let⟨t,e⟩:=Value.isInt_shape (k:=i) (v:=v) h;show .inl ⟨i,t,rfl,e⟩
 |.inr x,v,h=>by let⟨t,e⟩:=Value.isStrOf_shape (x:=x) (v:=v) h;show .inr ⟨x,t,rfl,e⟩
def Eg(i:Int)(t:Tok):uR (.inl i) (.int i t)=true:=by simp[uR,Value.isInt]
def Eh(x:Str)(t:Tok):uR (.inr x) (.str x t)=true:=by simp[uR,Value.isStrOf]
def LG(a b:Int):decide ((Sum.inl a:Key)=Sum.inl b)=(a == b):=by
 by_cases e:a=b
 ·subst e;simp
 ·let h:¬ (Sum.inl a:Key)=Sum.inl b:=λq=>e<|Sum.inl.inj q;rw[decide_eq_false h];show(beq_eq_false_iff_ne.mpr e).symm
def LH(a b:Str):decide ((WO a:Key)=WO b)=decide (a=b):=by
 by_cases e:a=b
 ·subst e;simp
 ·let h:¬ (WO a:Key)=WO b:=λq=>e<|Sum.inr.inj q;rw[decide_eq_false h,decide_eq_false e]
def LI(a:Int)(b:Str):decide ((Sum.inl a:Key)=WO b)=false:=decide_eq_false<|λq=>nomatch q
def LJ(a:Str)(b:Int):decide ((WO a:Key)=Sum.inl b)=false:=decide_eq_false<|λq=>nomatch q
abbrev aV(prog:vj)(w:ve):PySem.KeyKind prog w Key where
 is:=uR
 hash:=LF w
 inj:=λv a b ha hb=>by
  rcases bK ha with⟨i,t,rfl,rfl⟩|⟨x,t,rfl,rfl⟩
  ·rcases bK hb with⟨j,u,rfl,e⟩|⟨y,u,rfl,e⟩
   ·injection e with e1 _;rw[e1]
   ·show nomatch e
  ·rcases bK hb with⟨j,u,rfl,e⟩|⟨y,u,rfl,e⟩
   ·show nomatch e
   ·injection e with e1 _;rw[e1]
 byValue:=λk v h=>by rcases bK h with⟨i,t,rfl,rfl⟩|⟨x,t,rfl,rfl⟩ <;> rfl
 pyHash:=λhv h=>by
  rcases bK hv with⟨i,t,rfl,rfl⟩|⟨x,t,rfl,rfl⟩
  ·show wpAny_pyHash_int h
  ·show wpAny_pyHash_str h
 eqBool:=λhu hv h=>by
  rcases bK hu with⟨i,t,rfl,rfl⟩|⟨x,t,rfl,rfl⟩
  ·rcases bK hv with⟨j,u,rfl,rfl⟩|⟨y,u,rfl,rfl⟩
   ·rw[LG]at h;show wpAny_eqBool_int h
   ·rw[LI]at h;show SeqAt.EqAt.int_str i t y u _ _ _ _ h
  ·rcases bK hv with⟨j,u,rfl,rfl⟩|⟨y,u,rfl,rfl⟩
   ·rw[LJ]at h;show SeqAt.EqAt.str_int x t j u _ _ _ _ h
   ·rw[LH]at h;show wpAny_eqBool_str h
 «strs»:=λk x t v h=>by
  rcases bK h with⟨i,u,rfl,e⟩|⟨y,u,rfl,e⟩
  ·show nomatch e
  ·injection e with e1 _;subst e1;cases v <;> rfl
def B0(prog:vj)(w:ve)(i:Int)(t:Tok):(aV prog w).is (.inl i) (.int i t)=true:=Eg i t
def sR(prog:vj)(w:ve)(x:Str)(t:Tok):(aV prog w).is (.inr x) (.str x t)=true:=Eh x t
inductive V where
 |non|bl (b:Bool)|int (i:Int)|str (x:Str)|byt (b:Array UInt8)|flt (b:UInt64)|ref (a:Addr)|ty (n:String)
 deriving DecidableEq
abbrev RelV:V->q_->Prop
 |.non,u=>u=UT
 |.bl b,u=>u=Value.bool b
 |.int i,u=>∃t,u=Value.int i t
 |.str x,u=>∃t,u=Value.str x t
 |.byt b,u=>∃t,u=Value.bytes b t
 |.flt b,u=>∃t,u=Value.float b t
 |.ref a,u=>u=US a
 |.ty n,u=>u=XU n
@[reducible]def aJ:x_ V->x_ q_->Prop:=Paired RelV
variable{us:x_ q_}
def aJ.length{xs:x_ V}(r:aJ xs us):xs.length=us.length:=Ve r
def aJ.get:∀{xs:x_ V}{us:x_ q_}{i:Nat}{x:V},aJ xs us->xs[i]?=a_ x->∃u,us[i]?=a_ u/\RelV x u
 |_,_,_,_,.nil,e=>by simp at e
 |_,_,0,_,.cons r _,e=>by simp at e;subst e;show⟨_,rfl,r⟩
 |_,_,i+1,x,.cons _ t,e=>by
  let⟨u,h1,h2⟩:=aJ.get (i:=i) (x:=x) t<|ke e;show⟨u,ke h1,h2⟩
def aJ.set{x:V}{u:q_}(r:RelV x u):∀{xs:x_ V}{us:x_ q_}(i:Nat),aJ xs us->aJ (xs.set i x) (us.set i u)
 |_,_,_,.nil=>.nil
 |_,_,0,.cons _ t=>.cons r t
 |_,_,i+1,.cons q t=>.cons q (aJ.set r i t)
def aJ.append:∀{xs ys:x_ V}{us ws:x_ q_},aJ xs us->aJ ys ws->aJ (xs++ys) (us++ws)
 |_,_,_,_,.nil,s=>s
 |_,_,_,_,.cons r t,s=>.cons r (aJ.append t s)
def aJ.take:∀{xs:x_ V}{us:x_ q_}(n:Nat),aJ xs us->aJ (xs.take n) (us.take n)
 |_,_,0,_=>.nil
 |_,_,_+1,.nil=>.nil
 |_,_,n+1,.cons r t=>.cons r (aJ.take n t)
def aJ.drop:∀{xs:x_ V}{us:x_ q_}(n:Nat),aJ xs us->aJ (xs.drop n) (us.drop n)
 |_,_,0,r=>r
 |_,_,_+1,.nil=>.nil
 |_,_,n+1,.cons _ t=>aJ.drop n t
abbrev lN:y_ V->y_ q_->Prop
 |some v,a_ u=>RelV v u
 |none,b_=>True
 |_,_=>False
abbrev KV{κ:Type}:x_ (κ×V)->x_ (κ×q_)->Prop:=Paired λ(p:κ×V)(q:κ×q_)=>p.1=q.1/\RelV p.2 q.2
abbrev kV:Key->V
 |.inl i=>.int i
 |.inr x=>.str x
inductive HO where
 /-- a list -/
 |lst (xs:x_ V)
 /-- a tuple (never changes) -/
 |tup (xs:x_ V)
 /-- a dict whose keys are ints and texts;one whose keys are tuples of ints and texts (the empty one is both) -/
 |dK (kvs:x_ (Key×V))|dT (kvs:x_ (x_ Key×V))
 /-- a set of ints: its members,its size -/
 |set (S:Int->Bool) (n:Nat)
 /-- an instance of the class at C,its dict at dx,its attributes -/
 |ins (C dx:Addr) (fs:x_ (Str×V))
 /-- the dict of the instance at x -/
 |own (x:Addr)
 /-- the dict of an exception -/
 |xd (fs:x_ (Str×V))
 /-- a bound method,f of x -/
 |met (f x:Addr)
 /-- a range object lo,lo+1,.. below hi -/
 |rng (lo hi:Int)
 /-- a thing that is known to the object (the script;a dict while a loop walks it): read,never written while it is so -/
 |frz (o:Obj) (u:HO)
 /-- a code object's table -/
 |tbl (ps:Array Value)
 /-- any other thing,by what is true of its one object (a def of one's own: SetO a S n:=HO.ext λh=>..) -/
 |ext (φ:Heap->Prop)
@[reducible]def Hp:=s_->y_ HO
abbrev upd(H:Hp)(a:s_)(o:HO):Hp:=λb=>if b=a then a_ o else H b
variable{H:Hp}{a:s_}{o:HO}
def aI:R_ a o a=a_ o:=by unfold upd;rw[X2 0]
def aH{b:s_}(h:b≠a):R_ a o b=H b:=by unfold upd;rw[if_neg h]
def Oa{b:s_}{u:HO}(h:H a=a_ o)(h':H b=a_ u)(d:o≠u):a≠b:=by intro e;subst e;rw[h]at h';show d<|UW h'
def cS{b:s_}(h:H a=a_ o)(h':H b=b_):a≠b:=by intro e;subst e;rw[h]at h';cases h'
abbrev tX(h:u_)(a:s_)(items:Ya 0):Prop:=∃o,h.get? a=a_ o/\o.cls=.type "tuple" /\ (∃n,o.data=.seq items n)/\o.dict=b_
variable{items:Ya 0}
def tX.is{h:u_}(x:tX h a items):PyProof.Rows.IsTup h a items:=let ⟨o,h1,h2,h3,_⟩:=x;⟨o,h1,h2,h3⟩
def tX.lt{h:u_}(x:tX h a items):a<h.objs.size:=let ⟨_,h1,_⟩:=x;UE h1
def tX.new(h:u_)(items:Ya 0):tX (h.push {cls:=.type "tuple",data:=.seq items 0}) h.objs.size items:=⟨_,Yo 0,rfl,⟨_,rfl⟩,rfl⟩
section
variable(P:vj)(w:ve)
abbrev bM(H:Hp)(h:u_)(a:s_):HO->Prop
 |.lst xs=>xs.length<=UG/\∃(its:x_ q_)(n:Nat),aJ xs its/\h.get? a=a_ {cls:=.type "list",data:=.seq its.toArray n}
 |.tup xs=>xs.length<=UG/\∃its:x_ q_,aJ xs its/\tX h a its.toArray
 |.dK kvs=>kvs.length<=UG/\(a == VM)=false/\∃vs,KV kvs vs/\h.DictOf (aV P w) a vs
 | .dT kvs=>kvs.length<=UG/\(a == VM)=false/\∃ xs:x_ (x_ Key×s_×q_),
   Paired (λ(p:x_ Key×V)(q:x_ Key×s_×q_)=>p.1=q.1/\H q.2.1=a_ (.tup<|p.1.map kV)/\RelV p.2 q.2.2) kvs xs/\
   ∃o es ep,h.get? a=a_ o/\o.ExactDict/\o.data=.dict es ep/\es.toList=xs.map (entryOfKey<|tupleKind<|aV P w)/\(xs.map (·.1)).Nodup
 |.set S n=>h.SetOf (intKind P w) a S n
 | .ins C dx fs=>H dx=a_ (.own a)/\fs.length<=1000/\dx≠a/\h.get? a=a_ (WI C dx)/\
   ∃mA,h.Ns1 dx mA/\(∀f,lN (fs.lookup f)<|mA f)/\PySem.Within mA (fs.map (·.1))
 |.own _=>∃o,h.get? a=a_ o
 |.xd fs=>∃mA,h.Ns1 a mA/\∀f,lN (fs.lookup f)<|mA f
 |.rng lo hi=>∃t u v,h.get? a=a_ {cls:=.type "range",data:=.fields #[.int lo t,.int hi u,.int 1 v]}
 |.frz o u=>h.get? a=a_ o/\bM H h a u
 |.tbl ps=>h.get? a=a_ {cls:=.none,data:=.fields ps}
 |.met f x=>h.get? a=a_ (PySem.W.methodObj (.ref f)<|.ref x)
 |.ext φ=>φ h/\(∃o,h.get? a=a_ o)/\∀h1 h2:u_,φ h1->(∀o,h1.get? a=a_ o->h2.get? a=a_ o)->φ h2
abbrev HOk(H:Hp)(h:u_):Prop:=∀a o,H a=a_ o->bM P w H h a o
end
variable{P:vj}{w:ve}
def bM.lt{h:u_}(x:bM P w H h a o):a<h.objs.size:=by
 cases o with
 |lst xs=>let⟨_,_,_,_,e⟩:=x;show UE e
 |tup xs=>let⟨_,_,_,p⟩:=x;show tX.lt p
 |dK kvs=>let⟨_,_,_,_,o,_,_,e,_⟩:=x;show UE e
 |dT kvs=>let⟨_,_,_,_,o,_,_,e,_⟩:=x;show UE e
 |set S n=>let⟨o,_,_,_,e,_⟩:=x;show UE e
 |ins C dx fs=>let⟨_,_,_,e,_⟩:=x;show UE e
 |own y=>let⟨_,e⟩:=x;show UE e
 |xd fs=>let⟨_,⟨_,_,_,e,_⟩,_⟩:=x;show UE e
 |rng lo hi=>let⟨_,_,_,e⟩:=x;show UE e
 |frz ob u=>let⟨e,_⟩:=x;show UE e
 |tbl ps=>exact UE (show h.get? a=a_ _ from x)
 |met f y=>exact UE (show h.get? a=a_ _ from x)
 |ext φ=>let⟨_,⟨_,e⟩,_⟩:=x;show UE e
def Paired.mapP{α β:Type}{F G:α->β->Prop}:∀{l₁:x_ α}{l₂:x_ β},Paired F l₁ l₂->(∀a b,F a b->G a b)->Paired G l₁ l₂
 |_,_,.nil,_=>.nil
 |_,_,.cons r t,f=>.cons (f _ _ r) (Paired.mapP t f)
variable{H':Hp}{h':u_}
def bM.stay{h:u_}(x:bM P w H h a o)(k:∀b u,(b=a\/H b=a_ (.own a))->h.get? b=a_ u->h'.get? b=a_ u)(ho:∀b,H b=a_ (.own a)->H' b=a_ (.own a))(ht:∀b xs,H b=a_ (.tup xs)->H' b=a_ (.tup xs)):bM P w H' h' a o:=by
 induction o with
 |lst xs=>let⟨z,its,n,r,e⟩:=x;show⟨z,its,n,r,k _ _ (.inl rfl) e⟩
 |tup xs=>let⟨z,its,r,ob,e,c⟩:=x;show⟨z,its,r,ob,k _ _ (.inl rfl) e,c⟩
 |dK kvs=>let⟨z,y,vs,r,ob,es,ep,e,c⟩:=x;show⟨z,y,vs,r,ob,es,ep,k _ _ (.inl rfl) e,c⟩
 |dT kvs=>let⟨z,y,xs,r,ob,es,ep,e,c⟩:=x;show⟨z,y,xs,Paired.mapP r λp q z=>⟨z.1,ht _ _ z.2.1,z.2.2⟩,ob,es,ep,k _ _ (.inl rfl) e,c⟩
 |set S n=>let⟨ob,es,ep,t,e,c⟩:=x;show⟨ob,es,ep,t,k _ _ (.inl rfl) e,c⟩
 |ins C dx fs=>let⟨d,z,ne,e,mA,⟨od,es,ep,e2,c⟩,r⟩:=x;show⟨ho _ d,z,ne,k _ _ (.inl rfl) e,mA,⟨od,es,ep,k _ _ (.inr d) e2,c⟩,r⟩
 |own y=>let⟨ob,e⟩:=x;show⟨ob,k _ _ (.inl rfl) e⟩
 |xd fs=>let⟨mA,⟨od,es,ep,e,c⟩,r⟩:=x;show⟨mA,⟨od,es,ep,k _ _ (.inl rfl) e,c⟩,r⟩
 |rng lo hi=>let⟨t,u,v,e⟩:=x;show⟨t,u,v,k _ _ (.inl rfl) e⟩
 |frz ob u ih=>let⟨e,q⟩:=x;show⟨k _ _ (.inl rfl) e,ih q⟩
 |tbl ps=>
  let e:h.get? a=a_ {cls:=.none,data:=.fields ps}:=x
  change h'.get? a=a_ {cls:=.none,data:=.fields ps}
  show k a _ (.inl rfl) e
 |met f y=>
  let e:h.get? a=a_ (PySem.W.methodObj (.ref f)<|.ref y):=x
  change h'.get? a=a_ (PySem.W.methodObj (.ref f)<|.ref y)
  show k a _ (.inl rfl) e
 |ext φ=>let⟨p,⟨o,e⟩,st⟩:=x;show⟨st _ _ p λo q=>k _ _ (.inl rfl) q,⟨o,k _ _ (.inl rfl) e⟩,st⟩
def HOk.lt{h:u_}(x:HOk P w H h)(e:H a=a_ o):a<h.objs.size:=(x a o e).lt
def HOk.fresh{h:u_}(x:HOk P w H h)(e:h.objs.size<=a):H a=b_:=by
 cases q:H a with
 |none=>rfl
 |some u=>exact absurd (UM (x.lt q) e)<|Vx _
def HOk.kept{h:u_}(x:HOk P w H h)(k:∀b u,h.get? b=a_ u->h'.get? b=a_ u):HOk P w H h':=λa o e=>(x a o e).stay (λb u _ q=>k b u q) (λ_ q=>q) λ_ _ q=>q
def HOk.laid{h:u_}(x:HOk P w H h)(k:∀b u,h.get? b=a_ u->h'.get? b=a_ u)(hp:h.objs.size<=a)(new:bM P w (R_ a o) h' a o):HOk P w (R_ a o) h':=λb u e=>by
 let hn:=x.fresh hp;by_cases hb:b=a
 ·subst hb;rw[aI]at e;cases e;show new
 ·rw[aH hb]at e;show(x b u e).stay (λc v _ q=>k c v q) (λc q=>by rw[aH<|cS q hn];show q) λc xs q=>by rw[aH<|cS q hn];show q
abbrev Rd(H:Hp)(a:s_)(u:HO):Prop:=H a=a_ u\/∃o,H a=a_ (.frz o u)
def Rd.ok{h:u_}{u:HO}(r:Rd H a u)(x:HOk P w H h):bM P w H h a u:=by
 rcases r with r|⟨o,r⟩
 ·show x a u r
 ·let⟨_,q⟩:=x a _ r;show q
abbrev Mut:y_ HO->Prop
 |some (.lst _)=>True
 |some (.dK _)=>True
 |some (.dT _)=>True
 |some (.set _ _)=>True
 |some (.ins _ _ _)=>True
 |some (.ext _)=>True
 |_=>False
section
variable{h:u_}{x e:s_}{o':HO}
def HOk.write(ok:HOk P w H h)(mu:Mut (H x))(he:e=x\/H e=a_ (.own x))(k:∀b u,b≠e->h.get? b=a_ u->h'.get? b=a_ u)(oh:∃u,h'.get? e=a_ u)
  (new:bM P w (R_ x o') h' x o'):HOk P w (R_ x o') h':=λb u q=>by
 let tj:∀c y,H c=a_ (.own y)->c≠x:=λc y r z=>by subst z;rw[r]at mu;show mu
 let xo:∀c xs,H c=a_ (.tup xs)->c≠x:=λc xs r z=>by subst z;rw[r]at mu;show mu
 by_cases hb:b=x
 ·subst hb;rw[aI]at q;cases q;show new
 ·rw[aH hb]at q;by_cases hbe:b=e
  ·let q':H b=a_ (.own x):=by
    rcases he with z|z
    ·show absurd (hbe.trans z) hb
    ·rw[hbe];show z
   rw[q]at q';cases q';let⟨v,hv⟩:=oh;show⟨v,by rw[hbe];show hv⟩
  ·refine(ok b u q).stay (λc v hc r=>k c v ?_ r) (λc r=>by rw[aH<|tj c b r];show r) λc xs r=>by rw[aH<|xo c xs r];show r
   rcases hc with rfl|hc
   ·show hbe
   ·rintro rfl;rcases he with z|z
    ·show tj c b hc z
    ·rw[hc]at z;cases z;show hb rfl
end
structure Un(fs ex:x_ s_)(H H':Hp)(h h':u_):Prop where
 keep:∀b o,h.get? b=some o->H b=none->b∉fs->b∉ex->h'.get? b=some o
 slot:∀b o,h.get? b=some o->H b=none->b∈fs->b∉ex->∃sl,h'.get? b=some { o with slots:=sl}
 free:∀b o,h.get? b=some o->H b=none->b∉ex->H' b=none
 there:∀b o,h.get? b=some o->b∉ex->∃o',h'.get? b=some o'
 tups:∀b xs,H b=some (.tup xs)->H' b=some (.tup xs)
 frzs:∀b o u,H b=some (.frz o u)->H' b=some (.frz o u)
 tbls:∀b ps,H b=some (.tbl ps)->∃more,H' b=some (.tbl (ps++more))
variable{H1:Hp}{ex:x_ s_}{ob:Obj}
section
variable{fs tw ex':x_ s_}{h h1 h2:u_}{x e:s_}
def Un.any(u:Un fs ex H H1 h h1){b:s_}(q:h.get? b=a_ ob)(n:H b=b_)(hx:b∉ex):∃sl,h1.get? b=a_ { ob with slots:=sl}:=by
 by_cases hb:b∈fs
 ·show u.slot b ob q n hb hx
 ·show⟨ob.slots,u.keep b ob q n hb hx⟩
def Un.kept(k:∀b u,h.get? b=a_ u->h'.get? b=a_ u):Un fs ex H H h h':=⟨λb ob q _ _ _=>k b ob q,λb ob q _ _ _=>⟨ob.slots,k b ob q⟩,λ_ _ _ n _=>n,λb ob q _=>⟨ob,k b ob q⟩,λ_ _ q=>q,λ_ _ _ q=>q,λ_ ps q=>⟨#[],by rw[q];simp⟩⟩
def Un.refl:Un fs ex H H h h:=Un.kept λ_ _ q=>q
def Un.laid(k:∀b u,h.get? b=a_ u->h'.get? b=a_ u)(hp:h.objs.size<=a)(hn:H a=b_):Un fs ex H (R_ a o) h h' where
 keep:=λb u q _ _ _=>k b u q
 slot:=λb u q _ _ _=>⟨u.slots,k b u q⟩
 free:=λb u q n _=>by rw[aH<|UR<|UM (UE q) hp];show n
 there:=λb u q _=>⟨u,k b u q⟩
 tups:=λb xs q=>by rw[aH<|cS q hn];show q
 frzs:=λb u xs q=>by rw[aH<|cS q hn];show q
 tbls:=λb ps q=>⟨#[],by rw[aH<|cS q hn,q];simp⟩
def Un.write(mu:Mut (H x))(he:e=x\/H e=a_ (.own x))(k:∀b u,b≠e->h.get? b=a_ u->h'.get? b=a_ u)(oh:∃u,h'.get? e=a_ u):Un fs ex H (R_ x o) h h':=by
 let hx:∀b,H b=b_->b≠x:=λb n z=>by subst z;rw[n]at mu;show mu
 let hb:∀b,H b=b_->b≠e:=λb n z=>by
  subst z;rcases he with r|r
  ·show hx b n r
  ·rw[n]at r;cases r
 let hm:∀b u,H b=a_ u->¬ Mut (a_ u)->b≠x:=λb u q nm z=>by subst z;rw[q]at mu;show nm mu
 refine⟨λb u q n _ _=>k b u (hb b n) q,λb u q n _ _=>⟨u.slots,k b u (hb b n) q⟩,λb u q n _=>by rw[aH (hx b n)];show n,λb u q _=>?_,
  λb xs q=>by rw[aH (hm b _ q λz=>z)];show q,λb u xs q=>by rw[aH (hm b _ q λz=>z)];show q,λb ps q=>⟨#[],by rw[aH (hm b _ q λz=>z),q];simp⟩⟩
 by_cases hbe:b=e
 ·subst hbe;show oh
 ·show⟨u,k b u hbe q⟩
end
abbrev trk(h:u_)(H:Hp):x_ s_:=(U9 h.objs.size).filter λa=>(H a).isSome
abbrev zY(h:u_)(H:Hp):u_:=PySem.W.hideAll h<|trk h H
def Ei(h:u_)(H:Hp):(zY h H).objs.size=h.objs.size:=PySem.W.hideAll_size _ _
def FB{h:u_}{b:s_}{o:Obj}(e:h.get? b=a_ o)(n:H b=b_):(zY h H).get? b=a_ o:=PySem.W.hideAll_get _ e λhm=>by let q:(H b).isSome=true:=(WJ.mp hm).2;rw[n]at q;simp at q
def Jg{h:u_}{b:s_}{o:Obj}(e:(zY h H).get? b=a_ o):h.get? b=a_ o/\H b=b_:=by
 let e':h.get? b=a_ o:=PySem.W.of_hideAll (trk h H) e;refine⟨e',?_⟩;cases q:H b with
 |none=>rfl
 |some x=>have hm:b∈trk h H:=WJ.mpr ⟨List.mem_range.mpr<|UE e',by simp[q]⟩;let z:(zY h H).get? b=b_:=PySem.W.hideAll_none (trk h H) hm;rw[z]at e;cases e
abbrev Jh(g h:u_)(L:s_):gV 0:=(U9 h.objs.size).filterMap λa=>if a=L\/(g.get? a).isSome=true then b_ else(h.get? a).map λo=>(a,o)
abbrev rest(g h:u_)(L d:s_):gV 0:=(Jh g h L).filter λp=>decide (p.1≠d)
structure Mod(K:Us)(mg:m_ 0)(base:u_):Prop where
 kin:K.In base
 glob:base.Ns VI mg
 blt:∃mb,base.Ns builtinsNs mb/\∀x:Str,x≠"__name__" -> mb x=WV x
 nolimit:base.NoLimit
structure Cx where
 prog:vj
 w:ve
 K:Us
 mg:m_ 0
 base:u_
 A:t_
 N:x_ Str
 s₀:r_
 H₀:Hp
 env:Env
 outer:x_ Env
 stack:x_ Env
 ex:x_ s_
 fn:Str->Bool
 calm:Bool
 pn:gV 0
 xe:f_ 0
abbrev frs(l:x_ Env):x_ s_:=l.filterMap (·.frame)
@[reducible]def Cx.fs(X:Cx):x_ s_:=frs X.outer
abbrev Vis(sc:Scope)(x:Str):Prop:=Yp 0=a_ .local\/Yp 0=a_ .cell\/Yp 0=a_ .free
abbrev Loc(sc:Scope)(x:Str):Prop:=Yp 0=a_ .local\/Yp 0=a_ .cell
abbrev Look(env:Env)(h:u_)(m:m_ 0)(x:Str)(u:q_):Prop:=(env.kindOf x=a_ .local/\m x=a_ u)\/((env.kindOf x=a_ .cell\/env.kindOf x=a_ .free)/\∃c,env.cells.lookup x=a_ c/\h.IsCell c (a_ u))
structure Cx.Ok(X:Cx):Prop where
 mod:Mod X.K X.mg X.base
 kind:X.env.scope.kind=.function
 glob:X.env.globals=VI
 blt:X.env.builtins=builtinsNs
 above:X.s₀.heap.objs.size<=X.env.locals
 inj:∀x y c,X.env.cells.lookup x=some c->X.env.cells.lookup y=some c->x=y
 has:∀x,(X.env.kindOf x=some .cell\/X.env.kindOf x=some .free)->∃c,X.env.cells.lookup x=some c
 cab:∀x c,X.fn x=true->X.env.cells.lookup x=some c->X.s₀.heap.objs.size<=c
 hd:X.calm=true->X.A.handled=none
 frames:X.A.frames=some X.stack
 stk:X.stack=X.outer\/(X.stack=X.env::X.outer/\X.env.frame=some X.env.locals)
 exf:∀b∈X.ex,b≠X.env.locals/\∀x c,X.env.cells.lookup x=some c->c≠b
 bs:∀b o,X.base.get? b=some o->X.s₀.heap.get? b=some o/\X.H₀ b=none
 bsz:X.base.objs.size<=X.s₀.heap.objs.size
 noex:∀b o,X.base.get? b=some o->b∉X.ex
 exfs:∀b∈X.ex,b∉X.fs
 funs:X.s₀.heap.FunFrames X.base X.outer
 frf:∀b∈X.fs,X.H₀ b=none
structure Inv(X:Cx)(td:gV 0)(σ:x_ (y_ V))(H:Hp)(s:r_):Prop where
 ok:X.Ok
 os:s.os=X.s₀.os
 bare:AllBare s.gens
 base:Un X.fs X.ex X.H₀ H X.s₀.heap s.heap
 loc:∃m,s.heap.Ns X.env.locals m/\∀(i:Nat)(x:Str)(v:V),X.N[i]?=some x->σ[i]?=some (some v)->Vis X.env.scope x->∃u,RelV v u/\Look X.env s.heap m x u
 cell:∀x c,X.env.cells.lookup x=some c->∃v,s.heap.IsCell c v
 free:H X.env.locals=none
 freeC:∀x c,X.env.cells.lookup x=some c->H c=none
 pin:∀p∈X.pn++td,s.heap.get? p.1=some p.2/\H p.1=none/\p.1≠X.env.locals/\p.1∉X.fs/\∀v,p.2.data≠.cell v
 hok:HOk X.prog X.w H s.heap
 len:σ.length=X.N.length
variable{X:Cx}
def Cx.Ok.nofr(ok:X.Ok){b:s_}{o:Obj}(e:X.base.get? b=a_ o):b∉X.fs:=λhb=>by have:=(ok.funs.mem hb).1;rw[e]at this;cases this
variable{td:gV 0}{s:r_}
def Inv.bs{σ:x_ (y_ V)}(I:H_ s):∀b o,X.base.get? b=a_ o->M_ 0=a_ o/\H b=b_:=λb o e=>⟨I.base.keep b o (I.ok.bs b o e).1 (I.ok.bs b o e).2 (I.ok.nofr e)<|I.ok.noex b o e,I.base.free b o (I.ok.bs b o e).1 (I.ok.bs b o e).2<|I.ok.noex b o e⟩
def Inv.bk{σ:x_ (y_ V)}(I:H_ s):∀b o,X.base.get? b=a_ o->M_ 0=a_ o:=λb o e=>(I.bs b o e).1
def Inv.mod{σ:x_ (y_ V)}(I:H_ s):Mod X.K X.mg X.base:=I.ok.mod
def Inv.kIn{σ:x_ (y_ V)}(I:H_ s):X.K.In s.heap:=I.ok.mod.kin.keeps I.bk
def Inv.lt{σ:x_ (y_ V)}(I:H_ s):X.env.locals<(e_ s):=let ⟨_,hn,_⟩:=I.loc;hn.lt
def Inv.sz{σ:x_ (y_ V)}(I:H_ s):X.s₀.heap.objs.size<=(e_ s):=U1 I.ok.above<|VR I.lt
def Inv.nofs{σ:x_ (y_ V)}(I:H_ s)(h:(e_ s)<=a):a∉X.fs:=λhb=>by let⟨_,o,ho,_⟩:=I.ok.funs.mem hb;show absurd (UM (UE ho)<|U1 I.sz h)<|Vx _
def Inv.cne{σ:x_ (y_ V)}(I:H_ s):∀x c,L_ 0=a_ c->c≠X.env.locals:=λx c e z=>by let⟨v,o,ho,hd⟩:=I.cell x c e;let⟨m,⟨o',es,ep,gg,d8,_⟩,_⟩:=I.loc;rw[z,gg]at ho;cases ho;rw[d8]at hd;cases hd
def Inv.funs{σ:x_ (y_ V)}(I:H_ s):s.heap.FunFrames X.base X.outer:=by
 let all:∀(l:x_ Env),(∀b∈frs l,b∈X.fs)->X.s₀.heap.FunFrames X.base l->s.heap.FunFrames X.base l:=by
  intro l
  induction l with
  |nil=>intro _ _;trivial
  |cons env r ih=>intro hs hl;let⟨hk,⟨L,o,hf,hn,ho,hd⟩,hr⟩:=hl;let hL:L∈X.fs:=hs L (by unfold frs;rw[List.filterMap_cons,hf];show Uy);let⟨sl,e⟩:=I.base.slot L o ho (I.ok.frf L hL) hL λz=>I.ok.exfs L z hL;show⟨hk,⟨L,_,hf,hn,e,hd⟩,ih (λb hb=>hs b (by unfold frs;rw[List.filterMap_cons,hf];show Uw _ hb)) hr⟩
 show all X.outer (λ_ hb=>hb) I.ok.funs
def Inv.stack{σ:x_ (y_ V)}(I:H_ s):s.heap.FunFrames X.base X.stack:=by
 rcases I.ok.stk with e|⟨e,hf⟩
 ·rw[e];show I.funs
 ·rw[e];let⟨m,hn,_⟩:=I.loc;refine .cons (by rw[I.ok.kind];decide) hf hn ?_ I.funs;show Heap.get?_none_of_le<|U1 I.ok.bsz I.ok.above
def Inv.stkSub{σ:x_ (y_ V)}(I:H_ s):∀b∈frs X.stack,b∈X.env.locals::X.fs:=λb hb=>by
 rcases I.ok.stk with e|⟨e,hf⟩
 ·rw[e]at hb;show Uw _ hb
 ·rw[e]at hb;unfold frs at hb;rw[List.filterMap_cons,hf]at hb;show hb
def Inv.stkFree{σ:x_ (y_ V)}(I:H_ s):∀b∈frs X.stack,H b=b_:=λb hb=>by
 rcases UF.mp (I.stkSub b hb) with e|hb
 ·rw[e];show I.free
 ·let⟨_,o,ho,_⟩:=I.ok.funs.mem hb;show I.base.free b o ho (I.ok.frf b hb) λz=>I.ok.exfs b z hb
variable{ch:x_ s_}{d':Drawn}{g':Array GenState}{t':Nat}
def Inv.step{σ:x_ (y_ V)}(I:H_ s)(i6:∀b∈ch,(b∈X.ex\/X.s₀.heap.objs.size<=b)/\b≠X.env.locals/\(∀x c,L_ 0=a_ c->c≠b)/\∀p∈X.pn++td,p.1≠b)(keep:∀b o,b≠X.env.locals->b∉X.fs->b∉ch->M_ 0=a_ o->H b=b_->h'.get? b=a_ o)(slot:∀b o,b≠X.env.locals->b∈X.fs->b∉ch->M_ 0=a_ o->H b=b_->∃sl,h'.get? b=a_ { o with slots:=sl})(free:∀b o,b∉ch->M_ 0=a_ o->H b=b_->H' b=b_)(there:∀b o,b∉ch->M_ 0=a_ o->∃o',h'.get? b=a_ o')(tups:∀b xs,H b=a_ (.tup xs)->H' b=a_ (.tup xs))(frzs:∀b o u,H b=a_ (.frz o u)->H' b=a_ (.frz o u))(tbls:∀b ps,H b=a_ (.tbl ps)->∃more,H' b=a_ (.tbl<|ps++more))(ns:∀m,s.heap.Ns X.env.locals m->h'.Ns X.env.locals m)(hok:HOk X.prog X.w H' h')(hg:AllBare g'):
  h_ H' {s with heap:=h',gens:=g',drawn:=d',toks:=t'}:=by
 let zm:∀b o,X.s₀.heap.get? b=a_ o->b≠X.env.locals:=λb o e=>UR<|UM (UE e) I.ok.above;let ug:∀b o,X.s₀.heap.get? b=a_ o->b∉X.ex->b∉ch:=λb o e hx hb=>by
  rcases(i6 b hb).1 with z|z
  ·show hx z
  ·show absurd (UM (UE e) z) (Vx _)
 let cellK:∀x c,L_ 0=a_ c->∀v,s.heap.IsCell c v->h'.IsCell c v:=λx c e v ⟨o,ho,hd⟩=>by
  let pj:c∉ch:=λz=>(i6 c z).2.2.1 x c e rfl;by_cases hc:c∈X.fs
  ·let⟨sl,q⟩:=slot c o (I.cne x c e) hc pj ho<|I.freeC x c e;show⟨_,q,hd⟩
  ·show⟨o,keep c o (I.cne x c e) hc pj ho<|I.freeC x c e,hd⟩
 refine⟨I.ok,I.os,hg,⟨λb o e n hb hx=>?_,λb o e n hb hx=>?_,λb o e n hx=>?_,λb o e hx=>?_,λb xs e=>tups b xs<|I.base.tups b xs e,λb o xs e=>frzs b o xs<|I.base.frzs b o xs e,λb ps e=>?_⟩,?_,λx c e=>?_,?_,λx c e=>?_,λp hp=>?_,hok,I.len⟩
 ·show keep b o (zm b o e) hb (ug b o e hx) (I.base.keep b o e n hb hx) (I.base.free b o e n hx)
 ·let⟨sl,e1⟩:=I.base.slot b o e n hb hx;let⟨T7,e2⟩:=slot b _ (zm b o e) hb (ug b o e hx) e1<|I.base.free b o e n hx;show⟨T7,e2⟩
 ·let⟨o',e1⟩:=I.base.there b o e hx;show free b o' (ug b o e hx) e1<|I.base.free b o e n hx
 ·let⟨o',e1⟩:=I.base.there b o e hx;show there b o' (ug b o e hx) e1
 ·let⟨m1,e1⟩:=I.base.tbls b ps e;let⟨m2,e2⟩:=tbls b _ e1;show⟨m1++m2,by rw[e2,Array.append_assoc]⟩
 ·let⟨m,hn,hl⟩:=I.loc;refine⟨m,ns m hn,λi x v e1 e2 e3=>?_⟩;let⟨u,r,l⟩:=hl i x v e1 e2 e3;refine⟨u,r,?_⟩;rcases l with l|⟨k,c,e,z⟩
  ·show .inl l
  ·show .inr ⟨k,c,e,cellK x c e _ z⟩
 ·let⟨v,z⟩:=I.cell x c e;show⟨v,cellK x c e v z⟩
 ·let⟨m,⟨o,_,_,ho,_⟩,_⟩:=I.loc;show free _ o (λz=>(i6 _ z).2.1 rfl) ho I.free
 ·let⟨v,o,ho,hd⟩:=I.cell x c e;show free c o (λz=>(i6 c z).2.2.1 x c e rfl) ho<|I.freeC x c e
 ·let⟨e,n,ne,nf,d⟩:=I.pin p hp;let pj:p.1∉ch:=λz=>(i6 p.1 z).2.2.2 p hp rfl;show⟨keep p.1 p.2 ne nf pj e n,free p.1 p.2 pj e n,ne,nf,d⟩
def Inv.un{σ:x_ (y_ V)}(I:H_ s)(u:Un X.fs [] H H' s.heap h')(hok:HOk X.prog X.w H' h'):h_ H' {s with heap:=h',toks:=t'}:=by let⟨m,⟨o,es,ep,ho,r⟩,_⟩:=id I.loc;let⟨sl,hL⟩:=u.any ho I.free (by simp);show I.step (g':=s.gens) (d':=s.drawn) (ch:=[]) (λ_ z=>nomatch z) (λb o _ hb _ e n=>u.keep b o e n hb<|by simp) (λb o _ hb _ e n=>u.slot b o e n hb<|by simp) (λb o _ e n=>u.free b o e n<|by simp) (λb o _ e=>u.there b o e<|by simp) u.tups u.frzs u.tbls (λm' hm=>by let⟨o',jw,ik,gg,r'⟩:=hm;rw[ho]at gg;cases gg;show⟨_,jw,ik,hL,r'⟩) hok I.bare
def Inv.call{σ:x_ (y_ V)}(I:H_ s)(u:Un (frs X.stack) ch H H' s.heap h')(hok:HOk X.prog X.w H' h')(hg:AllBare g')(i6:∀b∈ch,(b∈X.ex\/X.s₀.heap.objs.size<=b)/\b≠X.env.locals/\(∀x c,L_ 0=a_ c->c≠b)/\∀p∈X.pn++td,p.1≠b):
  h_ H' {s with heap:=h',gens:=g',drawn:=d',toks:=t'}:=by
 let⟨m,⟨o,es,ep,ho,r⟩,_⟩:=id I.loc;let⟨sl,hL⟩:=u.any ho I.free λz=>(i6 _ z).2.1 rfl;show I.step (ch:=ch) i6 (λb o hL hb hc e n=>u.keep b o e n (λz=>(UF.mp<|I.stkSub b z).elim hL hb) hc) (λb o _ _ hc e n=>u.any e n hc) (λb o hc e n=>u.free b o e n hc) (λb o hc e=>u.there b o e hc) u.tups u.frzs u.tbls (λm' hm=>by let⟨o',jw,ik,gg,r'⟩:=hm;rw[ho]at gg;cases gg;show⟨_,jw,ik,hL,r'⟩) hok hg
variable{it:s_}
def Inv.turned{σ:x_ (y_ V)}(I:H_ s)(k:∀b o,b≠it->M_ 0=a_ o->h'.get? b=a_ o)(hn:H it=b_)(hL:it≠X.env.locals)(h1:it∈X.ex\/X.s₀.heap.objs.size<=it)(h2:∀x c,L_ 0=a_ c->c≠it)(h3:∀p∈X.pn++td,p.1≠it):H_ {s with heap:=h',toks:=t'}:=by
 let iq:∀b u,H b=a_ u->b≠it:=λb u e z=>by rw[z,hn]at e;cases e
 refine I.step (g':=s.gens) (d':=s.drawn) (ch:=[it]) (λb hb=>?_) (λb o _ _ hc e _=>k b o (λz=>hc<|by simp[z]) e) (λb o _ _ hc e _=>⟨o.slots,k b o (λz=>hc<|by simp[z]) e⟩) (λ_ _ _ _ n=>n)
  (λb o hc e=>⟨o,k b o (λz=>hc<|by simp[z]) e⟩) (λ_ _ e=>e) (λ_ _ _ e=>e) (λb ps e=>⟨#[],by rw[e];simp⟩) (λm hm=>?_) (λb u e=>?_) I.bare
 ·let e:b=it:=by simpa using hb
  subst e;show⟨h1,hL,h2,h3⟩
 ·let⟨o,es,ep,ho,r⟩:=hm;show⟨o,es,ep,k _ o (Va hL) ho,r⟩
 ·refine(I.hok b u e).stay (λc v hc q=>k c v ?_ q) (λ_ q=>q) λ_ _ q=>q;rcases hc with z|z
  ·rw[z];show iq b u e
  ·show iq c _ z
def Inv.tok{σ:x_ (y_ V)}(I:H_ s)(t:Nat):H_ { s with toks:=t}:=I.un (h':=s.heap) (t':=t) Un.refl I.hok
def Inv.kept{σ:x_ (y_ V)}(I:H_ s)(k:∀b u,M_ 0=a_ u->h'.get? b=a_ u):H_ {s with heap:=h',toks:=t'}:=I.un (Un.kept k)<|I.hok.kept k
def Inv.laid{σ:x_ (y_ V)}(I:H_ s)(k:∀b u,M_ 0=a_ u->h'.get? b=a_ u)(hp:(e_ s)<=a)(new:Yj (R_ a o) h' a o):
  h_ (R_ a o) {s with heap:=h',toks:=t'}:=I.un (Un.laid k hp<|I.hok.fresh hp)<|I.hok.laid k hp new
def Inv.write{σ:x_ (y_ V)}{x e:s_}(I:H_ s)(mu:Mut (H x))(he:e=x\/H e=a_ (.own x))(k:∀b u,b≠e->M_ 0=a_ u->h'.get? b=a_ u)(oh:∃u,h'.get? e=a_ u)(new:Yj (R_ x o) h' x o):h_ (R_ x o) {s with heap:=h',toks:=t'}:=I.un (Un.write mu he k oh)<|I.hok.write mu he k oh new
variable{dt:gV 0}
def Inv.pins_of{σ:x_ (y_ V)}(I:H_ s)(h:∀p∈dt,s.heap.get? p.1=a_ p.2/\H p.1=b_/\p.1≠X.env.locals/\p.1∉X.fs/\∀v,p.2.data≠.cell v):Inv X dt σ H s:=⟨I.ok,I.os,I.bare,I.base,I.loc,I.cell,I.free,I.freeC,λp hp=>(UN.mp hp).elim (λz=>I.pin p<|U8 _ z)<|h p,I.hok,I.len⟩
variable{N:x_ Str}{i j:Nat}{x:Str}
def B1(hN:N.Nodup)(a:N[i]?=a_ x)(b:N[j]?=a_ x):i=j:=by let⟨h1,e1⟩:=SC.mp a;let⟨h2,e2⟩:=SC.mp b;show(List.getElem_inj hN).mp (e1.trans e2.symm)
variable{A:t_}{E:f_ 0}{M:Model}{v:V}
def yA{σ:x_ (y_ V)}{u:q_}{Q:jn Unit}(I:H_ s)(hN:X.N.Nodup)(hi:X.N[i]?=a_ x)(hx:Loc X.env.scope x)(r:RelV v u)(h:∀s',Inv X td (σ.set i<|a_ v) H s'->(∃a,V1 a s.heap s'.heap/\(a=X.env.locals\/L_ 0=a_ a))->Q () s')(hf:X.fn x=true\/T_ 0=a_ .local:=by first|exact .inl rfl|exact .inr rfl|assumption):wpAny M A (storeName X.env x u) Q E s:=by
 let⟨m,hn,hl⟩:=id I.loc;let vz:(X.env.scope.kind == .class || (X.env.scope.kind == .module&&X.env.locals != X.env.globals))=false:=by rw[I.ok.kind];rfl
 let Sq:i<σ.length:=by rw[I.len];show(SC.mp hi).1
 let cne:=I.cne;let tracked:∀{a:s_}{h':u_},(∃o,s.heap.get? a=a_ o/\H a=b_)->V1 a s.heap h'->HOk X.prog X.w H h':=λ{a h'} ha hs b ob e=>by
  let⟨_,_,kg⟩:=ha;refine(I.hok b ob e).stay (λc w' hc q=>(hs.2 c ?_).trans q) (λ_ q=>q) λ_ _ q=>q;rintro rfl;rcases hc with rfl|hc
  ·rw[kg]at e;cases e
  ·rw[kg]at hc;cases hc
 rcases hx with hk|hk
 ·refine wpAny_storeName_local hk hn (λh' om hs=>?_) vz;let⟨oL,_,_,k8,_⟩:=id hn;refine h _ ⟨I.ok,I.os,I.bare,⟨λb o e n hb hx=>?_,λb o e n hb hx=>?_,I.base.free,λb o e hx=>?_,I.base.tups,I.base.frzs,I.base.tbls⟩,⟨_,om,λj y v' e1 e2 e3=>?_⟩,λy c e=>?_,I.free,I.freeC,λp hp=>?_,tracked ⟨oL,k8,I.free⟩ hs,ke I.len⟩ ⟨_,hs,.inl rfl⟩
  ·show(hs.2 b<|UR<|UM (UE e) I.ok.above).trans (I.base.keep b o e n hb hx)
  ·let⟨sl,e1⟩:=I.base.slot b o e n hb hx;show⟨sl,(hs.2 b<|UR<|UM (UE e) I.ok.above).trans e1⟩
  ·let⟨o',e1⟩:=I.base.there b o e hx;show⟨o',(hs.2 b<|UR<|UM (UE e) I.ok.above).trans e1⟩
  ·by_cases hj:j=i
   ·subst hj;rw[hi]at e1;cases e1;rw[VU Sq]at e2;cases e2
    show⟨u,r,.inl ⟨hk,by simp⟩⟩
   ·rw[VH<|Va hj]at e2;let⟨u',r',q⟩:=hl j y v' e1 e2 e3;refine⟨u',r',?_⟩;rcases q with⟨k,e⟩|⟨k,c,e,z⟩
    ·refine .inl ⟨k,?_⟩;have:y≠x:=λe=>hj<|B1 hN e1<|e▸hi;simp[this,e]
    ·show .inr ⟨k,c,e,z.sameBut hs<|cne y c e⟩
  ·let⟨w',z⟩:=I.cell y c e;show⟨w',z.sameBut hs<|cne y c e⟩
  ·let⟨e,n,ne,nf,d⟩:=I.pin p hp;show⟨(hs.2 p.1 ne).trans e,n,ne,nf,d⟩
 ·let ym:X.fn x=true:=by
   rcases hf with z|z
   ·show z
   ·rw[z]at hk;cases hk
  let⟨c,hc⟩:=I.ok.has x<|.inl hk;let⟨w',z⟩:=I.cell x c hc;refine wpAny_storeName_cell I.ok.kind hk hc z<|λh' cq hs=>?_;let⟨oc,i9,xj⟩:=id z;refine h {s with heap:=h'} ⟨I.ok,I.os,I.bare,⟨λb o e n hb hx=>?_,λb o e n hb hx=>?_,I.base.free,λb o e hx=>?_,I.base.tups,I.base.frzs,I.base.tbls⟩,⟨m,hn.sameBut hs<|Va<|cne x c hc,λj y v' e1 e2 e3=>?_⟩,λy c' e=>?_,I.free,I.freeC,λp hp=>?_,tracked ⟨oc,i9,I.freeC x c hc⟩ hs,ke I.len⟩ ⟨c,hs,.inr hc⟩
  ·show(hs.2 b<|UR<|UM (UE e)<|I.ok.cab x c ym hc).trans (I.base.keep b o e n hb hx)
  ·let⟨sl,e1⟩:=I.base.slot b o e n hb hx;show⟨sl,(hs.2 b<|UR<|UM (UE e)<|I.ok.cab x c ym hc).trans e1⟩
  ·let⟨o',e1⟩:=I.base.there b o e hx;show⟨o',(hs.2 b<|UR<|UM (UE e)<|I.ok.cab x c ym hc).trans e1⟩
  ·by_cases hj:j=i
   ·subst hj;rw[hi]at e1;cases e1;rw[VU Sq]at e2;cases e2
    show⟨u,r,.inr ⟨.inl hk,c,hc,cq⟩⟩
   ·rw[VH<|Va hj]at e2;let⟨u',r',q⟩:=hl j y v' e1 e2 e3;refine⟨u',r',?_⟩;rcases q with q|⟨k,c',e,z'⟩
    ·show .inl q
    ·refine .inr ⟨k,c',e,z'.sameBut hs ?_⟩;rintro rfl;show hj<|B1 hN e1<|I.ok.inj _ _ _ e hc▸hi
  ·by_cases xg:c'=c
   ·subst xg;show⟨_,cq⟩
   ·let⟨w2,z2⟩:=I.cell y c' e;show⟨w2,z2.sameBut hs xg⟩
  ·let⟨e,n,ne,nf,d⟩:=I.pin p hp;refine⟨(hs.2 p.1 ?_).trans e,n,ne,nf,d⟩;intro q;rw[q,i9]at e;let q':oc=p.2:=UW e;show d w' (by rw[<-q'];show xj)
def B2{σ:x_ (y_ V)}{u:q_}{Q:jn Unit}(I:H_ s)(hN:X.N.Nodup)(hi:X.N[i]?=a_ x)(hx:Loc X.env.scope x)(r:RelV v u)(h:∀s',Inv X td (σ.set i<|a_ v) H s'->Q () s')(hf:X.fn x=true\/T_ 0=a_ .local:=by first|exact .inl rfl|exact .inr rfl|assumption):wpAny M A (storeName X.env x u) Q E s:=yA I hN hi hx r (λs' I' _=>h s' I') hf
variable{s':r_}
def Inv.call'{σ:x_ (y_ V)}(I:H_ s)(ho:s'.os=s.os)(u:Un (frs X.stack) ch H H' s.heap s'.heap)(hok:HOk X.prog X.w H' s'.heap)(hg:AllBare s'.gens)(i6:∀b∈ch,(b∈X.ex\/X.s₀.heap.objs.size<=b)/\b≠X.env.locals/\(∀x c,L_ 0=a_ c->c≠b)/\∀p∈X.pn++td,p.1≠b):h_ H' s':=by let⟨h',g',d',t',o'⟩:=s';let e:o'=s.os:=ho;subst e;show I.call (g':=g') (t':=t') (d':=d') u hok hg i6
@[reducible]def XK:=q_->y_ s_->Hp->Prop
@[reducible]def St:=x_<|y_ V
@[reducible]def VK:=V->Hp->Prop
@[reducible]def TE:=St->Hp->VK->Prop
@[reducible]def TT:=St->Hp->(Bool->Hp->Prop)->Prop
@[reducible]def TA:=St->Hp->(x_ V->Hp->Prop)->Prop
structure Ends where
 nx:St->Hp->Prop
 rt:VK
 bk:St->Hp->Prop:=λ_ _=>False
 ct:St->Hp->Prop:=λ_ _=>False
@[reducible]def TS:=Ends->St->Hp->Prop
abbrev EP(X:Cx)(td:gV 0)(σ:St)(Q:VK)(u:q_)(s':r_):Prop:=∃v H',h_ H' s'/\RelV v u/\Q v H'
abbrev TP(X:Cx)(td:gV 0)(σ:St)(Q:Bool->Hp->Prop)(b:Bool)(s':r_):Prop:=∃H',h_ H' s'/\Q b H'
abbrev AP(X:Cx)(td:gV 0)(σ:St)(Q:x_ V->Hp->Prop)(us:x_ q_)(s':r_):Prop:=∃vs H',h_ H' s'/\aJ vs us/\Q vs H'
abbrev SP(X:Cx)(td:gV 0)(D:Ends)(f:Flow)(s':r_):Prop:=
 match f with
 |.next=>∃σ' H',Inv X td σ' H' s'/\D.nx σ' H'
 |.brk=>∃σ' H',Inv X td σ' H' s'/\D.bk σ' H'
 |.cont=>∃σ' H',Inv X td σ' H' s'/\D.ct σ' H'
 |.ret u=>∃v σ' H',Inv X td σ' H' s'/\RelV v u/\D.rt v H'
abbrev PE(X:Cx)(e:v_)(t:TE):Prop:=
 ∀(td:gV 0)(s:r_)(σ:St)(H:Hp)(Q:VK),H_ s->t σ H Q->wpAny (g_ X) X.A (S_ 0) (X3 Q) X.xe s
abbrev PT(X:Cx)(e:v_)(t:TT):Prop:=
 ∀(td:gV 0)(s:r_)(σ:St)(H:Hp)(Q:Bool->Hp->Prop),H_ s->t σ H Q->wpAny (g_ X) X.A (isTrue e X.env<|S_ 0) (TP X td σ Q) X.xe s
abbrev PW(X:Cx)(e:v_)(t:TT):Prop:=
 ∀(whole:Sem q_)(td:gV 0)(s:r_)(σ:St)(H:Hp)(Q:Bool->Hp->Prop),H_ s->t σ H Q->wpAny (g_ X) X.A (isTrue e X.env whole) (TP X td σ Q) X.xe s
variable{e:v_}
def PW.pt{t:TT}(h:PW X e t):PT X e t:=h _
abbrev PA(X:Cx)(es:x_ v_)(t:TA):Prop:=
 ∀(pos:Pos)(td:gV 0)(s:r_)(σ:St)(H:Hp)(Q:x_ V->Hp->Prop),H_ s->t σ H Q->wpAny (g_ X) X.A (spliced<|Yc<|U_ 0) (AP X td σ Q) X.xe s
abbrev PS(X:Cx)(st:w_)(t:TS):Prop:=
 ∀(td:gV 0)(s:r_)(σ:St)(H:Hp)(D:Ends),H_ s->t D σ H->wpAny (g_ X) X.A (exec st X.env) (SP X td D) X.xe s
abbrev PSs(X:Cx)(st:x_ w_)(t:TS):Prop:=
 ∀(td:gV 0)(s:r_)(σ:St)(H:Hp)(D:Ends),H_ s->t D σ H->wpAny (g_ X) X.A (execs st X.env) (SP X td D) X.xe s
def thn{α:Type}{t:Sem α}{Q Q':α->r_->Prop}(h:wpAny M A t Q E s)(hQ:∀a s,Q a s->Q' a s):wpAny M A t Q' E s:=WH h hQ λ_ _ x=>x
abbrev QE(i:Nat):TE:=λσ H Q=>∃v,σ[i]?=a_ (a_ v)/\Q v H
abbrev tC(v:V):TE:=λ_ H Q=>Q v H
variable{pos:Pos}
def FC(hN:X.N[i]?=a_ x)(hv:Vis X.env.scope x)(hd:(x == ("__debug__" : Str))=false:=by decide)(f7:(x == ("__classdict__" : Str))=false:=by decide):PE X (.Name x pos) (QE i):=by
 intro td s σ H Q I h;let⟨v,e,h⟩:=h;let⟨m,hn,hl⟩:=I.loc;let⟨u,r,l⟩:=hl i x v hN e hv;let fin:X3 Q u s:=⟨v,H,I,r,h⟩;rcases l with⟨hk,hm⟩|⟨hk,c,hc,fj⟩
 ·show wpAny_Name (wpAny_loadName_local I.ok.kind hk hn hm fin) hd
 ·rcases hk with hk|hk
  ·show wpAny_Name (wpAny_loadName_cell I.ok.kind hk hc fj fin) hd
  ·show wpAny_Name (wpAny_loadName_free I.ok.kind hk hc fj fin f7) hd
def LK{i j pos}:PE X (.Constant (.int i) j pos) (tC<|.int i):=λ_ _ _ H _ I h=>wpAny_Constant_int ⟨.int i,H,I.tok _,⟨_,rfl⟩,h⟩
def Ob{b j pos}:PE X (.Constant (.bool b) j pos) (tC<|.bl b):=λ_ _ _ H _ I h=>Constant_bool ⟨.bl b,H,I,rfl,h⟩
def LL{j pos}:PE X (.Constant .none j pos) (tC .non):=λ_ _ _ H _ I h=>Constant_none ⟨.non,H,I,rfl,h⟩
def LM{x j pos}:PE X (.Constant (.str x) j pos) (tC<|.str x):=λ_ _ _ H _ I h=>Calls.Constant_str ⟨.str x,H,I.tok _,⟨_,rfl⟩,h⟩
abbrev Gl(X:Cx)(x:Str):Prop:=X.env.kindOf x=a_ .globalImplicit
variable{Q:f_ 0}{σ:St}
def iL{u:q_}(I:H_ s)(hg:Gl X x)(hm:X.mg x=a_ u)(h:Q u s)(hd:(x == ("__debug__" : Str))=false:=by decide):wpAny (g_ X) X.A (eval (.Name x pos) X.env) Q E s:=Calls.Name_function_global I.ok.kind hg (Calls.loadGlobal_global (by rw[I.ok.glob];show I.mod.glob.keeps I.bk) hm h) hd
def jS{u:q_}(I:H_ s)(hg:Gl X x)(hm:X.mg x=b_)(hv:WV x=a_ u)(h:Q u s)(hn:x≠"__name__" := by decide)(hd:(x == ("__debug__" : Str))=false:=by decide):wpAny (g_ X) X.A (eval (.Name x pos) X.env) Q E s:=by let⟨mb,h1,h2⟩:=I.mod.blt;show Calls.Name_function_global I.ok.kind hg (Calls.loadGlobal_builtin (by rw[I.ok.glob];show I.mod.glob.keeps I.bk) hm (by rw[I.ok.blt];show h1.keeps I.bk) ((h2 x hn).trans hv) h) hd
def Du{u:q_}(hg:Gl X x)(hm:X.mg x=a_ u)(r:RelV v u)(hd:(x == ("__debug__" : Str))=false:=by decide):PE X (.Name x pos) (tC v):=
 λ_ _ _ H _ I h=>iL I hg hm ⟨v,H,I,r,h⟩ hd
def Ji{u:q_}(hg:Gl X x)(hm:X.mg x=b_)(hv:WV x=a_ u)(r:RelV v u)(hn:x≠"__name__" := by decide)(hd:(x == ("__debug__" : Str))=false:=by decide):PE X (.Name x pos) (tC v):=
 λ_ _ _ H _ I h=>jS I hg hm hv ⟨v,H,I,r,h⟩ hn hd
abbrev QF(t u:TT):TT:=λσ H Q=>t σ H λc H1=>if c=true then u σ H1 Q else Q false H1
abbrev tOr(t u:TT):TT:=λσ H Q=>t σ H λc H1=>if c=true then Q true H1 else u σ H1 Q
abbrev QG(t:TT):TT:=λσ H Q=>t σ H λc H1=>Q (!c) H1
variable{tA:TT}
def Jj{a:v_}(ha:PT X a tA):PW X (.BoolOp .And [a] pos) tA:=by
 intro wh td s σ H Q I h;refine isTrue_and<|thn (ha td s σ H Q I h) λc s1 e=>?_;cases c with
 |true=>exact isTrue_and_nil e
 |false=>exact e
def LN{a:v_}(ha:PT X a tA):PW X (.BoolOp .Or [a] pos) tA:=by
 intro wh td s σ H Q I h;refine isTrue_or<|thn (ha td s σ H Q I h) λc s1 e=>?_;cases c with
 |false=>exact isTrue_or_nil e
 |true=>exact e
variable{ui:TT}
def LO{a:v_}{b:v_}{rest:x_ v_}(ha:PT X a tA)(hb:PW X (.BoolOp .And (b::rest) pos) ui):PW X (.BoolOp .And (a::b::rest) pos) (QF tA ui):=by
 intro wh td s σ H Q I h;refine isTrue_and<|thn (ha td s σ H _ I h) λc s1 z9=>?_;let⟨H1,I1,q1⟩:=z9;cases c with
 |true=>exact hb wh td s1 σ H1 Q I1 q1
 |false=>exact⟨H1,I1,q1⟩
def Oc{a:v_}{b:v_}{rest:x_ v_}(ha:PT X a tA)(hb:PW X (.BoolOp .Or (b::rest) pos) ui):PW X (.BoolOp .Or (a::b::rest) pos) (tOr tA ui):=by
 intro wh td s σ H Q I h;refine isTrue_or<|thn (ha td s σ H _ I h) λc s1 z9=>?_;let⟨H1,I1,q1⟩:=z9;cases c with
 |true=>exact⟨H1,I1,q1⟩
 |false=>exact hb wh td s1 σ H1 Q I1 q1
def LP{a:v_}(ha:PT X a tA):PT X (.UnaryOp .Not a pos) (QG tA):=by intro td s σ H Q I h;show isTrue_not<|ha td s σ H (λc H1=>Q (!c) H1) I h
def LQ{a:v_}{op}{t:TE}(h:PE X a t):PE X (.BoolOp op [a] pos) t:=λtd s σ H Q I hw=>BoolOp_one<|Ym Q I hw
abbrev tIf(t:TT)(ta tb:TE):TE:=λσ H Q=>t σ H λc H1=>if c=true then ta σ H1 Q else tb σ H1 Q
variable{ta tb:TE}
def FD{a:v_}{b:v_}{c:v_}(hc:PT X c tA)(ha:PE X a ta)(hb:PE X b tb):PE X (.IfExp c a b pos) (tIf tA ta tb):=by
 intro td s σ H Q I h;refine wpAny_IfExp<|thn (hc td s σ H _ I h) λd s1 z9=>?_;let⟨H1,I1,q1⟩:=z9;cases d with
 |true=>exact ha td s1 σ H1 Q I1 q1
 |false=>exact hb td s1 σ H1 Q I1 q1
abbrev SqL(K:Us)(H:Hp)(a:s_)(xs:x_ V):Prop:=
 Rd H a (.lst xs)\/
  ∃(o:Obj)(its:Ya 0)(n:Nat),K.lookup a=a_ o/\o.cls=.type "list" /\ o.dict=b_/\o.data=.seq its n/\its.size<=UG/\aJ xs its.toList
abbrev SqT(K:Us)(H:Hp)(a:s_)(xs:x_ V):Prop:=
 Rd H a (.tup xs)\/
  ∃(o:Obj)(its:Ya 0)(n:Nat),K.lookup a=a_ o/\o.cls=.type "tuple" /\ o.data=.seq its n/\its.size<=UG/\aJ xs its.toList/\o.dict=b_
abbrev QH:q_->y_ V
 |.none=>a_ .non
 |.bool b=>a_ (.bl b)
 |.int i _=>d_ i
 |.str x _=>a_ (.str x)
 |.bytes b _=>a_ (.byt b)
 |.float b _=>a_ (.flt b)
 |.ref a=>c_ a
 |.type n=>a_ (.ty n)
 |_=>b_
def RelV.abs{x:V}{u:q_}(r:RelV x u):QH u=a_ x:=by
 cases x with
 |non=>cases r;rfl
 |bl _=>cases r;rfl
 |int _=>let⟨t,rfl⟩:=r;rfl
 |str _=>let⟨t,rfl⟩:=r;rfl
 |byt _=>let⟨t,rfl⟩:=r;rfl
 |flt _=>let⟨t,rfl⟩:=r;rfl
 |ref _=>cases r;rfl
 |ty _=>cases r;rfl
variable{y:V}
def RelV.inj{x:V}{u:q_}(r:RelV x u)(q:RelV y u):x=y:=UW<|r.abs.symm.trans q.abs
def aJ.inj:∀{xs ys:x_ V}{us:x_ q_},aJ xs us->aJ ys us->xs=ys
 |_,_,_,.nil,.nil=>rfl
 |_,_,_,.cons r t,.cons r' t'=>by rw[r.inj r',aJ.inj t t']
variable{K:Us}
def SqL.of{xs:x_ V}(h:H a=a_ (.lst xs)):SqL K H a xs:=.inl<|.inl h
def SqT.of{xs:x_ V}(h:H a=a_ (.tup xs)):SqT K H a xs:=.inl<|.inl h
def Inv.list{xs:x_ V}(I:H_ s)(h:SqL X.K H a xs):∃its:x_ q_,aJ xs its/\PlainL s.heap a its.toArray/\xs.length<=UG:=by
 rcases h with h|⟨o,its,n,hk,hc,hd,hs,hz,r⟩
 ·let⟨z,its,n,r,e⟩:=h.ok I.hok;show⟨its,r,⟨_,n,e,rfl,rfl,rfl⟩,z⟩
 ·refine⟨its.toList,r,⟨o,n,I.kIn a o hk,hc,hd,ke hs⟩,?_⟩;let e:=r.length;simp only[XQ]at e;omega
def Inv.tuple{xs:x_ V}(I:H_ s)(h:SqT X.K H a xs):∃its:x_ q_,aJ xs its/\IsTup s.heap a its.toArray/\xs.length<=UG:=by
 rcases h with h|⟨o,its,n,hk,hc,hs,hz,r,_⟩
 ·let⟨z,its,r,p⟩:=h.ok I.hok;show⟨its,r,p.is,z⟩
 ·refine⟨its.toList,r,⟨o,I.kIn a o hk,hc,n,ke hs⟩,?_⟩;let e:=r.length;simp only[XQ]at e;omega
def Inv.list_inj{xs:x_ V}{ys:x_ V}(I:H_ s)(h:SqL X.K H a xs)(h':SqL X.K H a ys):xs=ys:=by
 let⟨its,r,⟨o,n,e,_,_,d⟩,_⟩:=I.list h;let⟨its',r',⟨o',n',e',_,_,d'⟩,_⟩:=I.list h';rw[e]at e';cases e';rw[d]at d';injection d' with d1 _;have:its=its':=by simpa using congrArg Array.toList d1
 subst this;show r.inj r'
def Inv.tuple_inj{xs:x_ V}{ys:x_ V}(I:H_ s)(h:SqT X.K H a xs)(h':SqT X.K H a ys):xs=ys:=by
 let⟨its,r,⟨o,e,_,n,d⟩,_⟩:=I.tuple h;let⟨its',r',⟨o',e',_,n',d'⟩,_⟩:=I.tuple h';rw[e]at e';cases e';rw[d]at d';injection d' with d1 _;have:its=its':=by simpa using congrArg Array.toList d1
 subst this;show r.inj r'
@[reducible]def Cx.wish(X:Cx)(E:f_ 0):Cx:={ X with xe:=E}
@[reducible]def Cx.nox(X:Cx):Cx:=X.wish λ_ _=>False
def Cx.Ok.wish(ok:X.Ok)(E:f_ 0):(X.wish E).Ok:=⟨ok.mod,ok.kind,ok.glob,ok.blt,ok.above,ok.inj,ok.has,ok.cab,ok.hd,ok.frames,ok.stk,ok.exf,ok.bs,ok.bsz,ok.noex,ok.exfs,ok.funs,ok.frf⟩
def Cx.Ok.unwish(ok:(X.wish E).Ok):X.Ok:=⟨ok.mod,ok.kind,ok.glob,ok.blt,ok.above,ok.inj,ok.has,ok.cab,ok.hd,ok.frames,ok.stk,ok.exf,ok.bs,ok.bsz,ok.noex,ok.exfs,ok.funs,ok.frf⟩
def Inv.wish(I:H_ s)(E:f_ 0):Inv (X.wish E) td σ H s:=⟨I.ok.wish E,I.os,I.bare,I.base,I.loc,I.cell,I.free,I.freeC,I.pin,I.hok,I.len⟩
def Inv.unwish(I:Inv (X.wish E) td σ H s):H_ s:=⟨I.ok.unwish,I.os,I.bare,I.base,I.loc,I.cell,I.free,I.freeC,I.pin,I.hok,I.len⟩
def SP.unwish{D:Ends}{f:Flow}(h:SP (X.wish E) td D f s'):SP X td D f s':=by
 cases f with
 |next=>let⟨σ',H',I,q⟩:=h;show⟨σ',H',I.unwish,q⟩
 |brk=>let⟨σ',H',I,q⟩:=h;show⟨σ',H',I.unwish,q⟩
 |cont=>let⟨σ',H',I,q⟩:=h;show⟨σ',H',I.unwish,q⟩
 |ret u=>let⟨v,σ',H',I,r,q⟩:=h;show⟨v,σ',H',I.unwish,r,q⟩
def PSs.nox{st:x_ w_}{t:TS}(h:PSs X.nox st t):PSs X st t:=λtd s σ H D I hw=>WH (Ym D (I.wish _) hw) (λ_ _ q=>q.unwish) λ_ _ z=>VV z
variable{st:w_}{te:TE}{tc:TT}
section
variable{rest:x_ w_}{t u:TS}
abbrev Od:TS:=λD σ H=>D.nx σ H
abbrev QI(t u:TS):TS:=λD σ H=>t { D with nx:=u D} σ H
def Jk:PSs X [] Od:=λ_ _ σ H _ I h=>wpAny_execs_nil ⟨σ,H,I,h⟩
def FF(h1:PS X st t)(h2:PSs X rest u):PSs X (st::rest) (QI t u):=by
 intro td s σ H D I h;refine wpAny_execs_cons<|thn (h1 td s σ H { D with nx:=u D} I h) λf s1 q=>?_;cases f with
 |next=>let⟨σ',H',I',q⟩:=q;show h2 td s1 σ' H' D I' q
 |ret v=>exact q
 |brk=>exact q
 |cont=>exact q
def Jl(h1:PS X st t):PSs X [st] t:=by
 intro td s σ H D I h;refine wpAny_execs_cons<|thn (h1 td s σ H D I h) λf s1 q=>?_;cases f with
 |next=>exact wpAny_execs_nil q
 |ret v=>exact q
 |brk=>exact q
 |cont=>exact q
abbrev Oe:TS:=λD σ H=>D.ct σ H
def B3:PS X (.Continue pos) Oe:=λ_ _ σ H _ I h=>wpAny_Continue ⟨σ,H,I,h⟩
def Inv.quiet(I:H_ s):interactive X.env=false:=by simp[interactive,I.ok.kind]
abbrev Of(te:TE):TS:=λD σ H=>te σ H λ_ H1=>D.nx σ H1
def Jm(he:PE X e te)(hs:XX e b_ pos.line X.env=pure false:=by rfl):PS X (.Expr e pos) (Of te):=by intro td s σ H D I h;show wpAny_Expr_any (thn (he td s σ H _ I h) λv s1 ⟨x,H1,I1,r1,q1⟩=>⟨σ,H1,I1,q1⟩) I.quiet hs
abbrev QJ(te:TE):TS:=λD σ H=>te σ H D.rt
def LR(he:PE X e te):PS X (.Return (a_ e) pos) (QJ te):=by intro td s σ H D I h;show wpAny_Return_some<|thn (he td s σ H _ I h) λv s1 ⟨x,H1,I1,r1,q1⟩=>⟨x,σ,H1,I1,r1,q1⟩
abbrev QK(c:TT)(t u:TS):TS:=λD σ H=>c σ H λb H1=>if b=true then t D σ H1 else u D σ H1
def Og{c:v_}{a b:x_ w_}(hc:PT X c tc)(ha:PSs X a t)(hb:PSs X b u):PS X (.If c a b pos) (QK tc t u):=by
 intro td s σ H D I h;refine wpAny_If<|thn (hc td s σ H _ I h) λd s1 z9=>?_;let⟨H1,I1,q1⟩:=z9;cases d with
 |true=>exact ha td s1 σ H1 D I1 q1
 |false=>exact hb td s1 σ H1 D I1 q1
end
@[reducible]def TG:=V->St->Hp->(St->Hp->Prop)->Prop
@[reducible]def TGs:=x_ V->St->Hp->(St->Hp->Prop)->Prop
abbrev PG(X:Cx)(target:v_)(t:TG):Prop:=
 ∀(td:gV 0)(s:r_)(σ:St)(H:Hp)(v:V)(u:q_)(Q:St->Hp->Prop),H_ s->RelV v u->t v σ H Q->
  wpAny (g_ X) X.A (assign target X.env u) (λ_ s'=>∃σ' H',Inv X td σ' H' s'/\Q σ' H') X.xe s
abbrev PGs(X:Cx)(ts:x_ v_)(t:TGs):Prop:=
 ∀(td:gV 0)(s:r_)(σ:St)(H:Hp)(vs:x_ V)(us:x_ q_)(Q:St->Hp->Prop),H_ s->aJ vs us->t vs σ H Q->
  wpAny (g_ X) X.A (assignInOrder ((WR ts X.env).map (·.2)) us) (λ_ s'=>∃σ' H',Inv X td σ' H' s'/\Q σ' H') X.xe s
@[reducible]def QL:=V->V->V->Hp->(Hp->Prop)->Prop
abbrev QM(X:Cx)(t:QL):Prop:=
 ∀(td:gV 0)(s:r_)(σ:St)(H:Hp)(o i v:V)(ov iv u:q_)(Q:Hp->Prop),H_ s->RelV o ov->RelV i iv->RelV v u->t o i v H Q->
  wpAny (g_ X) X.A (setItem ov iv u) (λ_ s'=>∃H',h_ H' s'/\Q H') X.xe s
abbrev FG(i:Nat):TG:=λv σ H Q=>Q (σ.set i<|a_ v) H
def Jn(hN:X.N.Nodup)(hi:X.N[i]?=a_ x)(hx:Loc X.env.scope x)(hf:X.fn x=true\/T_ 0=a_ .local:=by first|exact .inl rfl|exact .inr rfl|assumption):PG X (.Name x pos) (FG i):=by intro td s σ H v u Q I r h;show wpAny_assign_Name<|B2 I hN hi hx r (λs' I'=>⟨_,H,I',h⟩) hf
abbrev QN:TGs:=λvs σ H Q=>vs=[]/\Q σ H
abbrev Oh(t:TG)(u:TGs):TGs:=λvs σ H Q=>∃v r,vs=v::r/\t v σ H λσ' H'=>u r σ' H' Q
def Jo:PGs X [] QN:=by
 intro td s σ H vs us Q I r h;let⟨e,h⟩:=h;subst e;cases r
 show assignInOrder_nil ⟨σ,H,I,h⟩
variable{es:x_ v_}
def FH{t:TG}{u:TGs}(h1:PG X e t)(h2:PGs X es u)(hs:(WR (e::es) X.env).map (·.2)=assign e X.env::(WR es X.env).map (·.2):=by rfl):PGs X (e::es) (Oh t u):=by
 intro td s σ H vs us Q I r h;let⟨v,vr,e1,h⟩:=h;subst e1;cases r with
 |cons r rr=>rw[hs];refine assignInOrder_cons<|thn (h1 td s σ H _ _ _ I r h) λ_ s1 z9=>?_;let⟨σ1,H1,I1,q1⟩:=z9;show h2 td s1 σ1 H1 _ _ Q I1 rr q1
abbrev Oi(K:Us)(n:Nat)(t:TGs):TG:=λv σ H Q=>∃a xs,v=.ref a/\SqT K H a xs/\xs.length=n/\t xs σ H Q
variable{n:Nat}
def LS{k:Nat}{t:TGs}(hc:X.calm=true)(h:PGs X es t)(hn:(WR es X.env).length=n:=by rfl)(dg:(WR es X.env).findIdx? (·.1)=b_:=by rfl):PG X (.Tuple es k pos) (Oi X.K n t):=by
 intro td s σ H v u Q I r hw;let⟨a,xs,e1,hq,hl,hw⟩:=hw;subst e1;cases r
 let⟨its,rv,ht,hz⟩:=I.tuple hq;refine assign_Tuple_tuple (I.ok.hd hc) ht (by simp[hn,<-hl,rv.length]) dg λh' hx=>?_;let I1:H_ {s with heap:=h'}:=I.kept (t':=s.toks) λb o e=>hx b o (UR<|UE e) e;show h td _ σ H xs _ Q I1 (ke rv) hw
abbrev LU(te:TE)(g:TG):TS:=λD σ H=>te σ H λx H1=>g x σ H1 D.nx
variable{tg:v_}
def LV{g:TG}(he:PE X e te)(hg:PG X tg g)(hs:swapsWithSole [tg] e pos.line X.env=pure false:=by rfl)(hw:swappedStores [tg] e X.env=pure b_:=by rfl)(h1:(WR [tg] X.env).map (·.2)=[assign tg X.env]:=by rfl):PS X (.Assign [tg] e pos) (LU te g):=by intro td s σ H D I h;refine wpAny_Assign_stores (thn (he td s σ H _ I h) λv s1 z9=>?_) hs hw;let⟨x,H1,I1,r1,q1⟩:=z9;rw[h1];show thn (hg td s1 σ H1 x v _ I1 r1 q1) λ_ s2 q=>q
variable{pos':Pos}
def LW(hN:X.N.Nodup)(hi:X.N[i]?=a_ x)(hx:Loc X.env.scope x)(he:PE X e te)(hs:XX e (a_<|.Name x pos') pos.line X.env=pure false:=by rfl)(hf:X.fn x=true\/T_ 0=a_ .local:=by first|exact .inl rfl|exact .inr rfl|assumption):
  PS X (.Assign [.Name x pos'] e pos) (LU te<|FG i):=by
 intro td s σ H D I h;refine wpAny_Assign_Name (thn (he td s σ H _ I h) λv s1 z9=>?_) hs;let⟨y,H1,I1,r1,q1⟩:=z9;show B2 I1 hN hi hx r1 (λs2 I2=>⟨_,H1,I2,q1⟩) hf
structure It where
 go:Nat->Hp->Prop
 yld:Nat->Hp->V->Hp->Prop
 stop:Nat->Hp->Prop
abbrev B4(X:Cx)(td:gV 0)(H:Hp)(b:s_):Prop:=H b=b_/\b≠X.env.locals/\b∉X.fs/\(b∈X.ex\/X.s₀.heap.objs.size<=b)/\(∀x c,L_ 0=a_ c->c≠b)/\∀p∈X.pn++td,p.1≠b
def Inv.fpOk{b:s_}(I:H_ s)(hb:(e_ s)<=b)(hn:H' b=b_):B4 X td H' b:=by
 refine⟨hn,Vv<|UM I.lt hb,I.nofs hb,.inr<|U1 I.sz hb,λx c e z=>?_,λp hp z=>?_⟩
 ·let⟨v,q⟩:=I.cell x c e;show absurd (UM q.lt (by rw[z];show hb))<|Vx _
 ·show absurd (UM (UE (I.pin p hp).1) (by rw[z];show hb)) (Vx _)
structure Turn(P:vj)(w:ve)(K:Us)(tg:v_)(J:It)(fp:x_ s_)(it:s_)(tn:Nat->u_->Prop):Prop where
 mem:it∈fp
 obj:∀i h,tn i h->∀b∈fp,∃o,h.get? b=some o/\∀v,o.data≠.cell v
 keep:∀i h h',tn i h->(∀b∈fp,∀o,h.get? b=some o->h'.get? b=some o)->tn i h'
 item:∀(X:Cx),X.prog=P->X.w=w->X.K=K->X.calm=true->∀(i:Nat)(td:gV 0)(s:r_)(σ:St)(H:Hp)(E:f_ 0),Inv X td σ H s->(∀b∈fp,B4 X td H b)->tn i s.heap->J.go i H->
  wpAny (model P w) X.A (pyNext (.ref it)) (λr s1=>∃u,r=some u/\
   wpAny (model P w) X.A (letOwnedTupleGo tg (.ref it) u) (λ_ s2=>∃x H',Inv X td σ H' s2/\RelV x u/\J.yld i H x H'/\tn (i+1) s2.heap/\∀b∈fp,H' b=none) E s1) E s
 done:∀(X:Cx),X.prog=P->X.w=w->X.K=K->X.calm=true->∀(i:Nat)(td:gV 0)(s:r_)(σ:St)(H:Hp)(E:f_ 0),Inv X td σ H s->(∀b∈fp,B4 X td H b)->tn i s.heap->J.stop i H->
  wpAny (model P w) X.A (pyNext (.ref it)) (λr s1=>r=none/\Inv X td σ H s1) E s
 self:∀(A:t_)(i:Nat)(s:r_)(Q:f_ 0)(E:f_ 0),tn i s.heap->Q (.ref it) s->wpAny (model P w) A (pyIter (.ref it)) Q E s
@[reducible]def TI:=St->Hp->(It->Hp->Prop)->Prop
abbrev PIE(X:Cx)(td:gV 0)(σ:St)(tg:v_)(R:It->Hp->Prop)(u3:q_)(s2:r_):Prop:=
 ∃(it:s_)(fp:x_ s_)(tn:Nat->u_->Prop)(J:It)(H':Hp),u3=.ref it/\h_ H' s2/\Turn X.prog X.w X.K tg J fp it tn/\tn 0 s2.heap/\(∀b∈fp,B4 X td H' b)/\R J H'
abbrev PI(X:Cx)(tg iter:v_)(wi:TI):Prop:=
 ∀(td:gV 0)(s:r_)(σ:St)(H:Hp)(R:It->Hp->Prop),H_ s->wi σ H R->
  wpAny (g_ X) X.A (eval iter X.env) (λv s1=>wpAny (g_ X) X.A (pyIter v) (PIE X td σ tg R) X.xe s1) X.xe s
def B5{u:q_}{o:Obj}{n:String}{vs:Ya 0}{Q:jn Unit}(ho:s.heap.get? it=a_ o)(hc:o.cls=.type n)(hd:o.data=.fields vs)(hn:["enumerate","zip","dict_itemiterator","dict_reverseitemiterator","odict_iterator","itertools.zip_longest","itertools.pairwise"].contains n=false)(hQ:Q () s):wpAny M A (letOwnedTupleGo tg (.ref it) u) Q E s:=by
 unfold letOwnedTupleGo;cases tg <;> first
  |exact SL hQ
  | (cases u <;> first
    |exact SL hQ
    | (refine SB (wpAny_load ho ?_)
       rw[hc,hd]
       change wpAny M A (if(["enumerate","zip","dict_itemiterator","dict_reverseitemiterator","odict_iterator","itertools.zip_longest","itertools.pairwise"].contains n&&vs[0]? == a_ (rawInt _))=true then _ else _) Q E s
       rw[if_neg (by intro h;rw[hn,Bool.false_and]at h;cases h)];show SL hQ))
abbrev Itl(K:Us)(a:s_):It:=⟨λi H=>∃xs x,SqL K H a xs/\xs[i]?=a_ x,λi H x H'=>H'=H/\∀xs,SqL K H a xs->xs[i]?=a_ x,λi H=>∃xs,SqL K H a xs/\xs.length<=i⟩
abbrev Itt(K:Us)(a:s_):It:=⟨λi H=>∃xs x,SqT K H a xs/\xs[i]?=a_ x,λi H x H'=>H'=H/\∀xs,SqT K H a xs->xs[i]?=a_ x,λi H=>∃xs,SqT K H a xs/\xs.length<=i⟩
abbrev Itr(lo:Int)(n:Nat):It:=⟨λi _=>i<n,λi H x H'=>H'=H/\x=.int (lo+i),λi _=>n<=i⟩
def yB(a it:s_):Turn P w K tg (Itl K a) [it] it (λi h=>h.IsListIter it a i) where
 mem:=by simp
 obj:=λi h st b hb=>by
  let e:b=it:=by simpa using hb
  subst e;let⟨o,e,c,d⟩:=st;show⟨o,e,λv z=>by rw[d]at z;cases z⟩
 keep:=λi h h' st k=>st.at λo e=>k it (by simp) o e
 item:=by
  intro X hP hw hK hc i td s σ H E I hf st hg;subst hP hw hK;let⟨xs,x,hq,hx⟩:=hg;let⟨its,rv,p,hz⟩:=I.list hq;let⟨u,hu,ru⟩:=rv.get hx;let⟨f0,f1,f2,f3,f4,f5⟩:=hf it (by simp);refine wpAny_pyNext_list_item st p.isList (x:=u) (ke hu) λh' cy sb=>?_;let I1:H_ {s with heap:=h'}:=I.turned (t':=s.toks) (λb o hb e=>(sb.2 b hb).trans e) f0 f1 f3 f4 f5;let⟨o,e,c,d⟩:=id cy;show⟨u,rfl,B5 (s:={s with heap:=h'}) e c d (by decide) ⟨x,H,I1,ru,⟨rfl,λys hy=>by rw[I.list_inj hy hq];show hx⟩,cy,λb hb=>(hf b hb).1⟩⟩
 done:=by intro X hP hw hK hc i td s σ H E I hf st hg;subst hP hw hK;let⟨xs,hq,hx⟩:=hg;let⟨its,rv,p,hz⟩:=I.list hq;let⟨f0,f1,f2,f3,f4,f5⟩:=hf it (by simp);let hl:=rv.length;show wpAny_pyNext_list_end (I.ok.hd hc) st p.isList (by simp;omega) λh' eb=>⟨rfl,I.turned (t':=s.toks) (λb o hb e=>eb b o hb e) f0 f1 f3 f4 f5⟩
 self:=λ_ _ _ _ _ st h=>wpAny_pyIter_listiter st h
def Ci(a it:s_):Turn P w K tg (Itt K a) [it] it (λi h=>h.IsTupleIter it a i) where
 mem:=by simp
 obj:=λi h st b hb=>by
  let e:b=it:=by simpa using hb
  subst e;let⟨o,e,c,d⟩:=st;show⟨o,e,λv z=>by rw[d]at z;cases z⟩
 keep:=λi h h' st k=>st.at λo e=>k it (by simp) o e
 item:=by
  intro X hP hw hK hc i td s σ H E I hf st hg;subst hP hw hK;let⟨xs,x,hq,hx⟩:=hg;let⟨its,rv,p,hz⟩:=I.tuple hq;let⟨u,hu,ru⟩:=rv.get hx;let⟨f0,f1,f2,f3,f4,f5⟩:=hf it (by simp);refine wpAny_pyNext_tuple_item st (show s.heap.IsTuple a its.toArray from p) (x:=u) (ke hu) λh' cy sb=>?_
  let I1:H_ {s with heap:=h'}:=I.turned (t':=s.toks) (λb o hb e=>(sb.2 b hb).trans e) f0 f1 f3 f4 f5;let⟨o,e,c,d⟩:=id cy;show⟨u,rfl,B5 (s:={s with heap:=h'}) e c d (by decide) ⟨x,H,I1,ru,⟨rfl,λys hy=>by rw[I.tuple_inj hy hq];show hx⟩,cy,λb hb=>(hf b hb).1⟩⟩
 done:=by intro X hP hw hK hc i td s σ H E I hf st hg;subst hP hw hK;let⟨xs,hq,hx⟩:=hg;let⟨its,rv,p,hz⟩:=I.tuple hq;let⟨f0,f1,f2,f3,f4,f5⟩:=hf it (by simp);let hl:=rv.length;show wpAny_pyNext_tuple_end (I.ok.hd hc) st (show s.heap.IsTuple a its.toArray from p) (by simp;omega) λh' eb=>⟨rfl,I.turned (t':=s.toks) (λb o hb e=>eb b o hb e) f0 f1 f3 f4 f5⟩
 self:=λ_ _ _ _ _ st h=>wpAny_pyIter_tupleiter st h
def Cj(it:s_)(lo:Int)(n:Nat):Turn P w K tg (Itr lo n) [it] it (λi h=>IsRangeIter h it (lo+(i:Nat)*1) ((n:Int)-(i:Nat)) 1) where
 mem:=by simp
 obj:=λi h st b hb=>by
  let e:b=it:=by simpa using hb
  subst e;show⟨_,st,λv z=>by let z':Data.fields _=Data.cell v:=z;cases z'⟩
 keep:=λi h h' st k=>k it (by simp) _ st
 item:=by
  intro X hP hw hK hc i td s σ H E I hf st hg;subst hP hw hK;let⟨f0,f1,f2,f3,f4,f5⟩:=hf it (by simp);let W:=Walks.range (prog:=X.prog) (w:=X.w) (I.ok.hd hc) it lo 1 n;refine W.item i s _ _ hg st λv h' tk hv cy kk=>?_;let⟨t,rfl⟩:=hv;let I1:H_ {s with heap:=h',toks:=tk}:=I.turned (λb o hb e=>kk b o (ke hb) e) f0 f1 f3 f4 f5;refine⟨_,rfl,B5 (s:={s with heap:=h',toks:=tk}) (n:="range_iterator") cy rfl rfl (by decide) ⟨.int<|lo+i,H,I1,⟨t,?_⟩,⟨rfl,rfl⟩,cy,λb hb=>(hf b hb).1⟩⟩;rw[Int.mul_one]
 done:=by intro X hP hw hK hc i td s σ H E I hf st hg;subst hP hw hK;let⟨f0,f1,f2,f3,f4,f5⟩:=hf it (by simp);show wpAny_pyNext_range_end (I.ok.hd hc) st (by have:n<=i:=hg;omega) λh' eb=>⟨rfl,I.turned (t':=s.toks) (λb o hb e=>eb b o hb e) f0 f1 f3 f4 f5⟩
 self:=λ_ _ _ _ _ st h=>wpAny_pyIter_rangeiter st h
variable{tk:Nat}
def B6{R:It->Hp->Prop}{lo hi:Int}{t u v:Tok}(I:H_ s)(h1:-(2 ^ 62)<=lo)(h2:lo<2 ^ 62)(h3:-(2 ^ 62)<=hi)(h4:hi<2 ^ 62)(q:R (Itr lo (hi-lo).toNat) H):wpAny (g_ X) X.A (pyIter<|.ref<|e_ s) (PIE X td σ tg R) E {s with heap:=s.heap.push {cls:=.type "range",data:=.fields #[.int lo t,.int hi u,.int 1 v]},toks:=tk}:=by
 refine wpAny_pyIter_range (IsRange.new ..) (small_one h1 h2 h3 h4) ?_;let I1:H_ {s with heap:=s.heap.push {cls:=.type "range",data:=.fields #[.int lo t,.int hi u,.int 1 v]},toks:=tk}:=I.kept λb o e=>SZ _ e;refine⟨(s.heap.push {cls:=.type "range",data:=.fields #[.int lo t,.int hi u,.int 1 v]}).objs.size,[(s.heap.push {cls:=.type "range",data:=.fields #[.int lo t,.int hi u,.int 1 v]}).objs.size],_,_,H,rfl,
  I1.kept (t':=tk) λb o e=>SZ _ e,Cj _ lo (hi-lo).toNat,?_,λb hb=>?_,q⟩
 ·let e1:lo+((0:Nat):Int)*1=lo:=by simp
  let e2:(((hi-lo).toNat:Nat):Int)-((0:Nat):Int)=Builtin.Range.rangeSize lo hi 1:=by rw[rangeSize_one];split <;> omega
  change IsRangeIter _ _ (lo+((0:Nat):Int)*1) ((((hi-lo).toNat:Nat):Int)-((0:Nat):Int)) 1
  rw[e1,e2];show Yo 0
 ·let e:b=(s.heap.push {cls:=.type "range",data:=.fields #[.int lo t,.int hi u,.int 1 v]}).objs.size:=by simpa using hb
  subst e;show I1.fpOk (Uv _)<|I1.hok.fresh<|Uv _
abbrev QO(wi:TI)(g:TG)(tb:TS):TS:=λD σ H=>wi σ H λJ H1=>∃W:Nat->Nat->St->Hp->Prop,(∃m,W 0 m σ H1)/\∀i m σ H,W i m σ H->
 (J.stop i H/\D.nx σ H)\/(J.go i H/\∃N:St->Hp->Prop,(∀σ' H',N σ' H'->∃m',m'<m/\W (i+1) m' σ' H')/\∀x H',J.yld i H x H'->g x σ H' λσ2 H2=>tb { D with nx:=N,ct:=N,bk:=D.nx} σ2 H2)
abbrev uS(fp:x_ s_)(h:u_):gV 0:=fp.filterMap λb=>(h.get? b).map λo=>(b,o)
def jT{fp:x_ s_}{h:u_}{b:s_}{o:Obj}(hb:b∈fp)(e:h.get? b=a_ o):(b,o)∈uS fp h:=List.mem_filterMap.mpr ⟨b,hb,by rw[e];rfl⟩
def Ej{fp:x_ s_}{h:u_}{p:s_×Obj}(hp:p∈uS fp h):p.1∈fp/\h.get? p.1=a_ p.2:=by
 let⟨b,hb,e⟩:=List.mem_filterMap.mp hp;cases q:h.get? b with
 |none=>rw[q]at e;cases e
 |some o=>rw[q]at e;let e':(b,o)=p:=UW e;subst e';show⟨hb,q⟩
def Inv.pinned{fp:x_ s_}(I:H_ s)(hf:∀b∈fp,B4 X td H b)(ho:∀b∈fp,∃o,M_ 0=a_ o/\∀v,o.data≠.cell v):Inv X (td++uS fp s.heap) σ H s:=I.pins_of λp hp=>(UN.mp hp).elim (λz=>I.pin p<|Ut _ z) λz=>by let⟨hb,e⟩:=Ej z;let⟨f0,f1,f2,_⟩:=hf p.1 hb;let⟨o,e',d⟩:=ho p.1 hb;rw[e]at e';cases e';show⟨e,f0,f1,f2,d⟩
def Inv.unpinned{pl:gV 0}(I:Inv X (td++pl) σ H s):H_ s:=I.pins_of λp hp=>I.pin p<|Ut _<|U8 _ hp
variable{iter:v_}
def LX{body:x_ w_}{wi:TI}{g:TG}{tb:TS}(hp:PassesOwn (g_ X) X.A X.env X.xe)(hc:X.calm=true)(hi:PI X tg iter wi)(hg:PG X tg g)(hb:PSs X body tb)(hs:∀x,V2 iter X.env x=pure x:=by intro _;rfl):PS X (.For tg iter body [] pos) (QO wi g tb):=by
 intro td s σ H D I h;refine wpAny_For (thn (hi td s σ H _ I h) λv s1 h1=>thn h1 λu3 s2 h2=>?_) hs;let⟨it,fp,tn,J,H2,e,I2,T,uc,f2,W,⟨m0,w0⟩,turn⟩:=h2;subst e
 -- what stays true of the iterator's objects through the loop
 let nc:∀{H':Hp},(∀b∈fp,H' b=b_)->∀b∈fp,B4 X td H' b:=λhn b hb=>⟨hn b hb,(f2 b hb).2⟩;refine codeAny_forLoop_any (λn s'=>∃i σ' H',Inv X td σ' H' s'/\tn i s'.heap/\(∀b∈fp,H' b=b_)/\W i n σ' H') ?_ m0 ⟨0,σ,H2,I2,uc,λb hb=>(f2 b hb).1,w0⟩;rintro n s3 ⟨i,σ3,H3,I3,pd,fr3,w3⟩;rcases turn i n σ3 H3 w3 with⟨stop,qn⟩|⟨go,N,hN,step⟩
 ·refine wpAny_passesOwn hp (thn (T.done X rfl rfl rfl hc i td s3 σ3 H3 X.xe I3 (nc fr3) pd stop) λr s4 z9=>?_);let⟨hr,I4⟩:=z9;subst hr;show wpAny_execs_nil ⟨σ3,H3,I4,qn⟩
 ·refine wpAny_passesOwn hp (thn (T.item X rfl rfl rfl hc i td s3 σ3 H3 X.xe I3 (nc fr3) pd go) λr s4 z9=>?_);let⟨u,hr,h4⟩:=z9;subst hr;refine wpAny_passesOwn hp<|thn h4 λ_ s5 z9=>?_;let⟨x,H5,I5,r5,y5,ot,jx⟩:=z9;let TJ:=I5.pinned (nc jx)<|T.obj _ _ ot;refine wpAny_passesOwn hp<|thn (hg _ s5 σ3 H5 x u _ TJ r5<|step x H5 y5) λ_ s6 z9=>?_;let⟨σ6,H6,I6,q6⟩:=z9;refine wpAny_passesOwn hp<|thn (hb _ s6 σ6 H6 _ I6 q6) λf s7 q7=>?_;let again:∀{σ7:St}{H7:Hp},Inv X (td++uS fp s5.heap) σ7 H7 s7->N σ7 H7->∃m,m<n/\∃i σ' H',Inv X td σ' H' s7/\tn i s7.heap/\(∀b∈fp,H' b=b_)/\W i m σ' H':=λ{σ7 H7} I7 n7=>by let⟨m',hm,w7⟩:=hN σ7 H7 n7;refine⟨m',hm,i+1,σ7,H7,I7.unpinned,T.keep _ _ _ ot λb hb o e=>(I7.pin (b,o)<|Ut _<|Ut _<|jT hb e).1,λb hb=>?_,w7⟩;let⟨o,e,d⟩:=T.obj _ _ ot b hb;show(I7.pin (b,o)<|Ut _<|Ut _<|jT hb e).2.1
  cases f with
  |next=>let⟨σ7,H7,I7,n7⟩:=q7;show again I7 n7
  |cont=>let⟨σ7,H7,I7,n7⟩:=q7;show again I7 n7
  |brk=>let⟨σ7,H7,I7,q7⟩:=q7;show⟨σ7,H7,I7.unpinned,q7⟩
  |ret v=>let⟨x7,σ7,H7,I7,r7,q7⟩:=q7;show⟨x7,σ7,H7,I7.unpinned,r7,q7⟩
@[reducible]def R2:=V->V->Hp->VK->Prop
abbrev OpR(X:Cx)(f:q_->q_->Sem q_)(r:R2):Prop:=
 ∀(td:gV 0)(s:r_)(σ:St)(H:Hp)(x y:V)(v u:q_)(Q:VK),H_ s->RelV x v->RelV y u->r x y H Q->
  wpAny (g_ X) X.A (f v u) (X3 Q) X.xe s
abbrev UnR(X:Cx)(f:q_->Sem q_)(r:V->Hp->VK->Prop):Prop:=
 ∀(td:gV 0)(s:r_)(σ:St)(H:Hp)(x:V)(v:q_)(Q:VK),H_ s->RelV x v->r x H Q->
  wpAny (g_ X) X.A (f v) (X3 Q) X.xe s
abbrev dJ(X:Cx)(f:q_)(r:x_ V->Hp->VK->Prop):Prop:=
 ∀(td:gV 0)(s:r_)(σ:St)(H:Hp)(xs:x_ V)(us:x_ q_)(Q:VK),H_ s->aJ xs us->r xs H Q->
  wpAny (g_ X) X.A (call f us) (X3 Q) X.xe s
abbrev QP(X:Cx)(r:V->Hp->(Bool->Hp->Prop)->Prop):Prop:=
 ∀(td:gV 0)(s:r_)(σ:St)(H:Hp)(x:V)(v:q_)(Q:Bool->Hp->Prop),H_ s->RelV x v->r x H Q->
  wpAny (g_ X) X.A (truthy v) (TP X td σ Q) X.xe s
abbrev tOp(r:R2)(ta tb:TE):TE:=λσ H Q=>ta σ H λx H1=>tb σ H1 λy H2=>r x y H2 Q
abbrev tUn(r:V->Hp->VK->Prop)(ta:TE):TE:=λσ H Q=>ta σ H λx H1=>r x H1 Q
abbrev rI(C:Int->Int->Prop)(g:Int->Int->V):R2:=λx y H Q=>∃i j,x=.int i/\y=.int j/\C i j/\Q (g i j) H
abbrev rI0(g:Int->Int->V):R2:=λx y H Q=>∃i j,x=.int i/\y=.int j/\Q (g i j) H
abbrev rU(g:Int->V):V->Hp->VK->Prop:=λx H Q=>∃i,x=.int i/\Q (g i) H
variable{f:q_->q_->Sem q_}{g:Int->Int->Int}
section
variable{a b c:v_}{tc:TE}
def LY(ha:PE X a ta)(hb:PE X b tb){R:V->V->Hp->Prop}(I:H_ s)(h:ta σ H λx H1=>tb σ H1 λy H2=>R x y H2)(hf:∀v u s2 x y H2,h_ H2 s2->RelV x v->RelV y u->R x y H2->wpAny (g_ X) X.A (f v u) Q X.xe s2):
  wpAny (g_ X) X.A (eval a X.env) (λv s₁=>wpAny (g_ X) X.A (eval b X.env) (λu s₂=>wpAny (g_ X) X.A (f v u) Q X.xe s₂) X.xe s₁) X.xe s:=by
 refine thn (ha td s σ H _ I h) λv s1 z9=>?_;let⟨x,H1,I1,r1,q1⟩:=z9;refine thn (hb td s1 σ H1 _ I1 q1) λu s2 z9=>?_;let⟨y,H2,I2,r2,q2⟩:=z9;show hf v u s2 x y H2 I2 r1 r2 q2
def Oj{op:Operator}{r:R2}(ho:Yg (V6 op) r)(ha:PE X a ta)(hb:PE X b tb):PE X (.BinOp a op b pos) (tOp r ta tb):=by intro td s σ H Q I h;show wpAny_BinOp<|LY ha hb I h λv u s2 x y H2 I2 rx ry q=>ho td s2 σ H2 x y v u Q I2 rx ry q
def Ol{op:UnaryOp}{r:V->Hp->VK->Prop}(ho:UnR X (unaryOp op) r)(ha:PE X a ta):PE X (.UnaryOp op a pos) (tUn r ta):=by intro td s σ H Q I h;show UnaryOp_<|thn (ha td s σ H _ I h) λv s1 ⟨x,H1,I1,r1,q1⟩=>ho td s1 σ H1 x v Q I1 r1 q1
def opI{C:Int->Int->Prop}(rule:∀(i j:Int)(t u:Tok)(s:r_)(Q:f_ 0)(E:f_ 0),C i j->Q (.int (g i j) s.toks) { s with toks:=s.toks+1}->wpAny (g_ X) X.A (f (.int i t)<|.int j u) Q E s):
  Yg f (rI C λi j=>.int<|g i j):=by
 intro td s σ H x y v u Q I rx ry h;let⟨i,j,rfl,rfl,hc,q⟩:=h;let⟨t,rfl⟩:=rx;let⟨t',rfl⟩:=ry;show rule i j t t' s _ _ hc ⟨.int<|g i j,H,I.tok _,⟨_,rfl⟩,q⟩
def Om(rule:∀(i j:Int)(t u:Tok)(s:r_)(Q:f_ 0)(E:f_ 0),Q (.int (g i j) s.toks) { s with toks:=s.toks+1}->wpAny (g_ X) X.A (f (.int i t)<|.int j u) Q E s):
  Yg f (rI0 λi j=>.int<|g i j):=by
 intro td s σ H x y v u Q I rx ry h;let⟨i,j,rfl,rfl,q⟩:=h;let⟨t,rfl⟩:=rx;let⟨t',rfl⟩:=ry;show rule i j t t' s _ _ ⟨.int<|g i j,H,I.tok _,⟨_,rfl⟩,q⟩
def LZ{g:Int->Int->Bool}(rule:∀(i j:Int)(t u:Tok)(s:r_)(Q:f_ 0)(E:f_ 0),Q (.bool<|g i j) s->wpAny (g_ X) X.A (f (.int i t)<|.int j u) Q E s):
  Yg f (rI0 λi j=>.bl<|g i j):=by
 intro td s σ H x y v u Q I rx ry h;let⟨i,j,rfl,rfl,q⟩:=h;let⟨t,rfl⟩:=rx;let⟨t',rfl⟩:=ry;show rule i j t t' s _ _ ⟨.bl<|g i j,H,I,rfl,q⟩
abbrev FI(i j:Int):Prop:=0<j/\j<1073741824
abbrev QQ(i j:Int):Prop:=0<=j/\j<=1000000/\i.natAbs<2 ^ 64
abbrev B7(i j:Int):Prop:=(-(2 ^ 64)<i/\i<2 ^ 64)\/(-(2 ^ 64)<j/\j<2 ^ 64)
def B7.ok{i j:Int}(h:B7 i j):IntMulOk i j:=by
 rcases h with⟨h1,h2⟩|⟨h1,h2⟩
 ·show .of_left (intBits_le_64 h1 h2)
 ·show .of_right (intBits_le_64 h1 h2)
def M0:Yg (V6 .Add) (rI0 λi j=>.int<|i+j):=Om λ_ _ _ _ _ _ _ q=>add_int q
def M1:Yg (V6 .Sub) (rI0 λi j=>.int<|i-j):=Om λ_ _ _ _ _ _ _ q=>sub_int q
def M3:Yg (V6 .Mult) (rI B7 λi j=>.int<|i*j):=opI λ_ _ _ _ _ _ _ hc q=>mul_int q hc.ok
def Jp:Yg (V6 .FloorDiv) (rI FI λi j=>.int<|i/j):=opI λi j _ _ _ _ _ hc q=>by let h1:(0:Int)<j:=hc.1;let h2:j<1073741824:=hc.2;show floordiv_int ⋯ (by rw[Int.fdiv_eq_ediv_of_nonneg i ⋯];show q) (.inl<|PyProof.noPylong_small ⋯)
def M4:Yg (V6 .Mod) (rI (λ_ j=>0<j) λi j=>.int<|i%j):=opI λi j _ _ _ _ _ hc q=>by let h1:(0:Int)<j:=hc;show mod_int' ⋯ (by rw[Int.fmod_eq_emod_of_nonneg i ⋯];show q)
def unI{f:q_->Sem q_}{g:Int->Int}
  (rule:∀(i:Int)(t:Tok)(s:r_)(Q:f_ 0)(E:f_ 0),Q (.int (g i) s.toks) { s with toks:=s.toks+1}->wpAny (g_ X) X.A (f<|.int i t) Q E s):
  UnR X f (rU λi=>.int<|g i):=by
 intro td s σ H x v Q I rx h;let⟨i,rfl,q⟩:=h;let⟨t,rfl⟩:=rx;show rule i t s _ _ ⟨.int<|g i,H,I.tok _,⟨_,rfl⟩,q⟩
def M5:UnR X (unaryOp .USub) (rU λi=>.int<|-i):=unI λ_ _ _ _ _ q=>neg_int q
end
variable{op:CmpOp}{its:x_ q_}
section
variable{a b c:v_}{tc:TE}
def zZ{Q:VK}{k k':Bool}(I:H_ s)(q:Q (.bl k) H)(e:k=k'):X3 Q (.bool k') s:=by subst e;show⟨.bl k,H,I,rfl,q⟩
def On:Yg (Vc .Lt) (rI0 λi j=>.bl<|decide (i<j)):=LZ λ_ _ _ _ _ _ _ q=>lt_int q
def Oo:Yg (Vc .LtE) (rI0 λi j=>.bl<|decide (i<=j)):=LZ λ_ _ _ _ _ _ _ q=>le_int q
def Oq:Yg (Vc .Gt) (rI0 λi j=>.bl<|decide (j<i)):=LZ λ_ _ _ _ _ _ _ q=>gt_int q
def Ek:Yg (Vc .Lt) (λx y H Q=>∃i j,x=.str i/\y=.str j/\Q (.bl<|decide (i.cps.toList<j.cps.toList)) H):=by intro td s σ H x y v u Q I rx ry h;let⟨i,j,rfl,rfl,q⟩:=h;let⟨t,rfl⟩:=rx;let⟨t',rfl⟩:=ry;show lt_str<|zZ I q rfl
def Jq:Yg (Vc .IsNot) (λx y H Q=>y=.non/\Q (.bl<|!decide (x=.non)) H):=by
 intro td s σ H x y v u Q I rx ry h;let⟨rfl,q⟩:=h;cases ry
 refine isnot_none_gen<|zZ I q ?_;cases x <;> first
  |(cases rx;rfl)
  |(let⟨t,rfl⟩:=rx;rfl)
def OpR.or{r r':R2}(h:Yg f r)(h':Yg f r'):Yg f (λx y H Q=>r x y H Q\/r' x y H Q):=by
 intro td s σ H x y v u Q I rx ry q;rcases q with q|q
 ·show Ym x y v u Q I rx ry q
 ·show h' td s σ H x y v u Q I rx ry q
def FJ(b:v_)(h:op≠.In:=by decide)(h2:op≠.NotIn:=by decide):behindInMarks op b=false:=by
 let e1:(op == CmpOp.In)=false:=by cases op <;> first|rfl|exact absurd rfl h
 let e2:(op == CmpOp.NotIn)=false:=by cases op <;> first|rfl|exact absurd rfl h2
 cases b <;> simp[behindInMarks,e1,e2]
def Jr{r:R2}(ho:Yg (Vc op) r)(ha:PE X a ta)(hb:PE X b tb)(hm:behindInMarks op b=false):PE X (.Compare a [op] [b] pos) (tOp r ta tb):=by intro td s σ H Q I h;show wpAny_Compare1 (LY ha hb I h λv u s2 x y H2 I2 rx ry q=>ho td s2 σ H2 x y v u Q I2 rx ry q) hm
abbrev Js(K:Us)(x:V)(H:Hp)(k:Bool):Prop:=
 match x with
 |.non=>k=false
 |.bl b=>k=b
 |.int i=>k=(i != 0)
 |.str y=>y.length<=UG/\k=((y.length:Int) != 0)
 |.byt y=>y.size<=UG/\k=((y.size:Int) != 0)
 |.ref p=>(∃xs,SqL K H p xs/\k=!xs.isEmpty)\/(∃xs,SqT K H p xs/\k=!xs.isEmpty)\/∃kvs,H p=a_ (.dK kvs)/\k=!kvs.isEmpty
 |_=>False
def Ck{κ:Type}{kvs:x_ (κ×V)}{vs:x_ (κ×q_)}(r:KV kvs vs):(!vs.isEmpty)=!kvs.isEmpty:=by cases r <;> rfl
def uT{xs:x_ V}(r:aJ xs its):(!its.toArray.isEmpty)=!xs.isEmpty:=by cases r <;> simp
def nV:(UG:Nat)<2 ^ 63:=by rw[Vs];decide
def FK:QP X (λx H Q=>∃k,Js X.K x H k/\Q k H):=by
 intro td s σ H x v Q I rx h;let⟨k,e,q⟩:=h;let hl:=nV;let hs:UG=16777216:=Vs;cases x with
 |non=>
  cases rx
  let e':k=false:=e;subst e';show truthy_none ⟨H,I,q⟩
 |bl b=>
  cases rx
  let e':k=b:=e;subst e';show wpAny_truthy_bool ⟨H,I,q⟩
 |int i=>let⟨t,rfl⟩:=rx;let e':k=(i != 0):=e;subst e';show PySem.P.truthy_int ⟨H,I,q⟩
 |str y=>let⟨t,rfl⟩:=rx;obtain⟨hy,e'⟩:y.length<=UG/\k=((y.length:Int) != 0):=e;subst e';show PySem.P.truthy_str ⋯ ⟨H,I.tok _,q⟩
 |byt y=>let⟨t,rfl⟩:=rx;obtain⟨hy,e'⟩:y.size<=UG/\k=((y.size:Int) != 0):=e;subst e';show PySem.W.truthy_bytes ⋯ ⟨H,I.tok _,q⟩
 |ref p=>
  cases rx
  let e':(∃xs,SqL X.K H p xs/\k=!xs.isEmpty)\/(∃xs,SqT X.K H p xs/\k=!xs.isEmpty)\/∃kvs,H p=a_ (.dK kvs)/\k=!kvs.isEmpty:=e;rcases e' with⟨xs,hx,e'⟩|⟨xs,hx,e'⟩|⟨kvs,hx,e'⟩
  ·subst e';let⟨its,r,pl,hz⟩:=I.list hx;let hlen:=r.length;show wpAny_truthy_list pl.isList (by simp only[UC];omega) ⟨H,I.tok _,by rw[uT r];show q⟩
  ·subst e';let⟨its,r,pl,hz⟩:=I.tuple hx;let hlen:=r.length;show truthy_tuple pl (by simp only[UC];omega) ⟨H,I.tok _,by rw[uT r];show q⟩
  ·subst e';obtain⟨hz,hS,vs,r,m⟩:kvs.length<=UG/\(p == VM)=false/\∃vs,KV kvs vs/\s.heap.DictOf (aV X.prog X.w) p vs:=I.hok p _ hx;let hlen:kvs.length=vs.length:=Ve r;show wpAny_truthy_dict hS m ⋯ ⟨H,I.tok _,by rw[Ck r];show q⟩
 |_=>exact(show False from e).elim
def FM(ha:PE X a ta)(he:∀whole,isTrue a X.env whole=(do let v <-whole;standAt a.pos;holding [v] (truthy v))):
  PT X a (λσ H Q=>ta σ H λx H'=>∃k,Js X.K x H' k/\Q k H'):=by
 intro td s σ H Q I h
 exact isTrue_plain (thn (ha td s σ H _ I h) λv s1 ⟨x,H1,I1,r1,q1⟩=>FK td s1 σ H1 x v Q I1 r1 q1)<|he _
def Cm:Yg (V6 .Add) (λx y H Q=>∃i j,x=.str i/\y=.str j/\i.length+j.length<=UG/\Q (.str<|i++j) H):=by intro td s σ H x y v u Q I rx ry h;let⟨i,j,rfl,rfl,hz,q⟩:=h;let⟨t,rfl⟩:=rx;let⟨t',rfl⟩:=ry;show add_str (λt' tk=>⟨.str<|i++j,H,I.tok _,⟨_,rfl⟩,q⟩) hz
def vals1{x:V}(r:aJ [x] us):∃u,us=[u]/\RelV x u:=by
 cases r with
 |cons r1 r2=>cases r2;show⟨_,rfl,r1⟩
def vals2{x:V}(r:aJ [x,y] us):∃u w',us=[u,w']/\RelV x u/\RelV y w':=by
 cases r with
 |cons r1 r2=>
  cases r2 with
  |cons r3 r4=>cases r4;show⟨_,_,rfl,r1,r3⟩
def El(hc:X.calm=true):dJ X (.builtin "max") (λxs H Q=>∃i j,xs=[.int i,.int j]/\Q (.int<|if j>i then j else i) H):=by
 intro td s σ H xs us Q I r h;let⟨i,j,rfl,q⟩:=h;let⟨u,w',rfl,⟨t,rfl⟩,⟨t',rfl⟩⟩:=vals2 r;refine max_two_ints (I.ok.hd hc) λh' tk k=>⟨_,H,I.kept k,?_,q⟩;by_cases hj:j>i
 ·rw[if_pos hj,if_pos hj];show⟨_,rfl⟩
 ·rw[if_neg hj,if_neg hj];show⟨_,rfl⟩
abbrev QR(K:Us)(x:V)(H:Hp)(n:Nat):Prop:=
 match x with
 |.str y=>y.length<=UG/\n=y.length
 |.byt y=>y.size<=UG/\n=y.size
 |.ref p=>(∃xs,SqL K H p xs/\n=xs.length)\/∃xs,SqT K H p xs/\n=xs.length
 |_=>False
def FN:dJ X (.builtin "len") (λxs H Q=>∃x n,xs=[x]/\QR X.K x H n/\Q (.int n) H):=by
 intro td s σ H xs us Q I r h;let⟨x,n,rfl,e,q⟩:=h;let⟨u,rfl,rx⟩:=vals1 r;let hl:=nV;let hs:UG=16777216:=Vs;cases x with
 |str y=>let⟨t,rfl⟩:=rx;obtain⟨hy,e'⟩:y.length<=UG/\n=y.length:=e;subst e';show len_str ⋯ ⟨.int _,H,I.tok _,⟨_,rfl⟩,q⟩
 |byt y=>let⟨t,rfl⟩:=rx;obtain⟨hy,e'⟩:y.size<=UG/\n=y.size:=e;subst e';show PySem.W.len_bytes ⋯ ⟨.int _,H,I.tok _,⟨_,rfl⟩,q⟩
 |ref p=>
  cases rx
  let e':(∃xs,SqL X.K H p xs/\n=xs.length)\/∃xs,SqT X.K H p xs/\n=xs.length:=e;rcases e' with⟨xs,hx,e'⟩|⟨xs,hx,e'⟩
  ·subst e';let⟨its,r',pl,hz⟩:=I.list hx;let hlen:=r'.length;show Calls.call_len_list pl.isList (by simp only[UC];omega) ⟨.int xs.length,H,I.tok _,⟨_,by simp only[UC];rw[hlen]⟩,q⟩
  ·subst e';let⟨its,r',pl,hz⟩:=I.tuple hx;let hlen:=r'.length;show len_tuple pl (by simp only[UC];omega) ⟨.int xs.length,H,I.tok _,⟨_,by simp only[UC];rw[hlen]⟩,q⟩
 |_=>exact(show False from e).elim
end
structure Cn(h:u_)(x dx C:s_)(mA:m_ 0):Prop where
 obj:h.get? x=some (WI C dx)
 ns:h.Ns1 dx mA
 ne:dx≠x
variable{dx:s_}{mA:m_ 0}
set_option tactic.hygienic true in
def Em{h:u_}(n:h.Ns1 dx mA):∃od,h.get? dx=a_ od/\∀name,PySem.W.lookIn name od=a_ (mA name):=by
 let⟨o,es,ep,ho,hd,hk,_,hm⟩:=n;refine⟨o,ho,λname=>?_⟩;let e:=hm name;unfold nsFind findBy at e;rw[<-Array.find?_toList]at e;unfold PySem.W.lookIn;rw[hd];dsimp only;split
 ·rename_i y q;rw[q]at e;show congrArg a_ e
 ·rename_i q;rw[q]at e;let a:es.toList.any (·.refKey)=false:=by rw[List.any_eq_false];intro y hy;let⟨z,t,ba⟩:=hk y<|Array.mem_toList_iff.mp hy;simp[DictEntry.refKey,ba]
  let a':¬ es.toList.any (·.refKey)=true:=by rw[a];show UH
  rw[if_neg a'];show congrArg a_ e
def Cn.look{h:u_}{x C:s_}(I:Cn h x dx C mA):∃od,PySem.W.InstAt h x (WI C dx) C (a_ od)/\∀name,PySem.W.lookIn name od=a_ (mA name):=
 let ⟨od,ho,hl⟩:=Em I.ns
 ⟨od,⟨I.obj,rfl,rfl,ho⟩,hl⟩
variable{expr:Bool}{name:Str}{prog:vj}{R:jn Result}{kw:x_ (Str×q_)}
section
variable{x C f:s_}{v:q_}
def get_map(X:K.In s.heap)(I:Cn s.heap x dx C mA)(hg:XO K C name=true)(hh:PySem.W.hasDictIn K C=true)(ha:Vu K (.ref C) name=a_ b_)(hv:mA name=a_ v)(S9:PySem.W.handedIn v=true)(h:Q v { s with toks:=s.toks+1}):
  p_ (getAttr (.ref x) name expr) Q E s:=by
 let⟨od,J,hl⟩:=I.look;show PySem.W.get_value X J (PySem.W.plainGet_of hg).1 (PySem.W.findObj_own hh ha rfl<|by rw[hl,hv]) S9 h
def FO{pl:Sem Bool}{Q:q_×x_ q_->r_->Prop}(X:K.In s.heap)(I:Cn s.heap x dx C mA)(hg:XO K C name=true)
  (hf:Vu K (.ref C) name=a_ (c_ f)) (ht:PySem.W.isFn K (.ref f)=true) (hv:mA name=b_) (h:Q (.ref f,[.ref x]) s):
  p_ (getMethod (.ref x) name pl) Q E s:=by
 let⟨od,J,hl⟩:=I.look;show PySem.W.method_fn X J (PySem.W.plainGet_of hg).1 (PySem.W.plainGet_of hg).2 hf (beq_iff_eq.mp ht) (by change(PySem.W.lookIn name od).map (·.isSome)=a_ false;rw[hl,hv];rfl) h
def Jt{ns:x_ Str}{Q:jn Unit}(X:K.In s.heap)(I:Cn s.heap x dx C mA)
  (hs:Vu K (.ref C) "__setattr__" = a_ (a_<|.builtin "object.__setattr__")) (hp:PySem.W.plainOver K C=true) (ht:PySem.W.takerIn K C name=a_ b_) (hh:PySem.W.hasDictIn K C=true)
  (hw:PySem.Within mA ns) (hsz:ns.length<=UG)
  (h:∀h',Cn h' x dx C (λy=>if y=name then a_ v else mA y)->V1 dx s.heap h'->Q () {s with heap:=h',toks:=s.toks+2}):
  p_ (setAttr (.ref x) name v) Q E s:=by
 let⟨od,J,hl⟩:=I.look;refine PySem.W.set_plain X J hs<|PySem.W.osa_open (s:={ s with toks:=s.toks+1}) (r:=b_) X J hp ht λb=>?_;let⟨cd,hc,d8⟩:=PySem.W.any_some hh;let hx:s.heap.get? x=a_ ⟨.ref C,a_ dx,.plain,#[]⟩:=I.obj;refine SB<|SL<|SB<|SB<|wpAny_loadPart hx<|SB<|PySem.W.Looks.here (s:={ s with toks:=s.toks+1}) (PySem.W.looks_clsIn X hc) ?_;rw[d8];refine SL (a:=a_ dx)<|SB<|SL<|SB ?_;refine wpAny_nsSet1 (s:={ s with toks:=s.toks+1}) I.ns λh' ue g8=>?_;let⟨oD,esD,epD,SY,Uq,T1⟩:=ue.count<|PySem.Within.cons name v hw;refine SB (wpAny_lookBehind SY (by rw[Uq];show pastItsLine_dict<|U1 T1 (by rw[VA];omega)) ?_);show SL<|h _ ⟨(g8.2 _<|Va I.ne).trans I.obj,ue,I.ne⟩ g8
def FP{vs:x_ q_}(X:K.In s.heap)(hm:PySem.W.makesIn K C=true)(hi:Vu K (.ref C) "__init__" = a_ (c_ f))(hf:PySem.W.typeIn K (.ref f)=a_ (.type "function"))(h:codeAny (model prog w) (A.under (.builtin "type.__call__" ⟨.ref C::vs,kw⟩)) (.call (.ref f) ⟨.ref (s.heap.objs.size+1)::vs,kw⟩) (PySem.W.InitBack (s.heap.objs.size+1) R)
   {s with heap:=(s.heap.push V3).push (WI C (e_ s))}):
  codeAny (model prog w) A (.call (.ref C) ⟨vs,kw⟩) R s:=by
 let⟨hh,g,d,t,os⟩:=s;show PySem.W.make_core (PySem.W.makes_of X hm) (PySem.W.looks_findIn X hi) (λself=>PySem.W.bind_fn X self hf) (.inl rfl) h
end
abbrev jH(f:Str)(v:V):x_ (Str×V)->x_ (Str×V)
 |[]=>[(f,v)]
 |(g,x)::r=>if g=f then(g,v)::r else(g,x)::jH f v r
def sS(f g:Str)(v:V):∀fs:x_ (Str×V),(jH f v fs).lookup g=if g=f then a_ v else fs.lookup g
 |[]=>by
  change XZ g [(f,v)]=_
  by_cases h:g=f
  ·let hb:(g == f)=true:=beq_iff_eq.mpr h;simp only[XZ,hb,if_pos h]
  ·let hb:(g == f)=false:=beq_eq_false_iff_ne.mpr h;simp only[XZ,hb,if_neg h]
 |(k,x)::r=>by
  let ih:=sS f g v r;rw[show jH f v ((k,x)::r)=(if k=f then(k,v)::r else(k,x)::jH f v r) from rfl]
  by_cases hk:k=f
  ·rw[if_pos hk];by_cases h:g=k
   ·let hb:(g == k)=true:=beq_iff_eq.mpr h;simp only[XZ,hb,if_pos<|h.trans hk]
   ·let hb:(g == k)=false:=beq_eq_false_iff_ne.mpr h;simp only[XZ,hb,if_neg (λe:g=f=>h<|e.trans hk.symm)]
  ·rw[if_neg hk];by_cases h:g=k
   ·let hb:(g == k)=true:=beq_iff_eq.mpr h;simp only[XZ,hb,if_neg (λe:g=f=>hk<|h.symm.trans e)]
   ·let hb:(g == k)=false:=beq_eq_false_iff_ne.mpr h;simp only[XZ,hb];show ih
def qZ(f:Str)(v:V):∀fs:x_ (Str×V),f∈(jH f v fs).map (·.1)/\∀g,g∈fs.map (·.1)->g∈(jH f v fs).map (·.1)
 |[]=>⟨by simp[jH],λg h=>by simp at h⟩
 |(k,x)::r=>by
  let⟨i1,i2⟩:=qZ f v r;rw[show jH f v ((k,x)::r)=(if k=f then(k,v)::r else(k,x)::jH f v r) from rfl]
  by_cases hk:k=f
  ·rw[if_pos hk];subst hk;show⟨by simp,λg h=>by simpa using h⟩
  ·rw[if_neg hk];refine⟨?_,λg h=>?_⟩
   ·rw[UJ];show Uw _ i1
   ·rw[UJ]at h⊢;rcases UF.mp h with e|e
    ·show UF.mpr (.inl e)
    ·show Uw _ (i2 g e)
def sT(f:Str)(v:V):∀fs:x_ (Str×V),(jH f v fs).length<=fs.length+1
 |[]=>by simp[jH]
 |(k,x)::r=>by
  let ih:=sT f v r;rw[show jH f v ((k,x)::r)=(if k=f then(k,v)::r else(k,x)::jH f v r) from rfl]
  by_cases hk:k=f
  ·rw[if_pos hk,VA,VA];omega
  ·rw[if_neg hk,VA,VA];omega
def lN.some_of{o:y_ q_}(r:lN (a_ v) o):∃u,o=a_ u/\RelV v u:=by
 cases o with
 |none=>exact(show False from r).elim
 |some u=>exact⟨u,rfl,r⟩
def lN.none_of{o:y_ q_}(r:lN b_ o):o=b_:=by
 cases o with
 |none=>rfl
 |some u=>exact(show False from r).elim
def En{u:q_}(r:RelV v u):PySem.W.handedIn u=true:=by
 cases v with
 |non=>cases(show u=UT from r);rfl
 |bl b=>cases(show u=Value.bool b from r);rfl
 |int i=>let⟨t,e⟩:=(show ∃t,u=Value.int i t from r);cases e;rfl
 |str x=>let⟨t,e⟩:=(show ∃t,u=Value.str x t from r);cases e;rfl
 |byt b=>let⟨t,e⟩:=(show ∃t,u=Value.bytes b t from r);cases e;rfl
 |flt b=>let⟨t,e⟩:=(show ∃t,u=Value.float b t from r);cases e;rfl
 |ref a=>cases(show u=US a from r);rfl
 |ty n=>cases(show u=XU n from r);rfl
section
variable{h:u_}{C:s_}{fs tw:x_ (Str×V)}
def uJ(hok:HOk P w H h)(e:H a=a_ (.ins C dx fs)):∃mA,Cn h a dx C mA/\(∀f,lN (fs.lookup f)<|mA f)/\PySem.Within mA (fs.map (·.1))/\fs.length<=1000/\H dx=a_ (.own a):=by
 let⟨d,z,ne,ob,mA,n,r,q⟩:=(show bM P w H h a (.ins C dx fs) from hok a _ e)
 show⟨mA,⟨ob,n,ne⟩,r,q,z,d⟩
end
structure Cls(K:Us)(C:s_):Prop where
 pg:XO K C Str.empty=true
 hd:PySem.W.hasDictIn K C=true
 po:PySem.W.plainOver K C=true
 sa:Vu K (.ref C) "__setattr__" = some (some (.builtin "object.__setattr__"))
def Cls.get{C:s_}(c:Cls K C)(f:Str):XO K C f=true:=c.pg
abbrev jU(K:Us)(C:s_)(f:Str):Prop:=Vu K (.ref C) f=a_ b_
def jU.taker{C:s_}{f:Str}(n:jU K C f):PySem.W.takerIn K C f=a_ b_:=by
 unfold PySem.W.takerIn;rw[show Vu K (.ref C) f=a_ b_ from n]
 rfl
structure Eo(K:Us)(C:s_)(m:Str)(f:s_):Prop where
 at_:Vu K (.ref C) m=some (c_ f)
 fn:PySem.W.isFn K (.ref f)=true
 kp:Wo K (.ref f)=true
variable{b:Bool}{env:Env}
section
variable{C:s_}{fs:x_ (Str×V)}{f:Str}
def Co(I:H_ s)(e:H a=a_ (.ins C dx fs))(c:Cls X.K C)(n:jU X.K C f)(l:fs.lookup f=a_ v)(h:∀u s',H_ s'->RelV v u->Q u s'):wpAny (g_ X) A (getAttr (.ref a) f b) Q E s:=by let⟨mA,O,r,_,_,_⟩:=uJ I.hok e;let⟨u,hu,ru⟩:=lN.some_of (v:=v) (o:=mA f) (by rw[<-l];show r f);show get_map I.kIn O (c.get f) c.hd n hu (En ru)<|h u _ (I.tok _) ru
def Cp{m:Str}{g:s_}{pl:Sem Bool}{Q:q_×x_ q_->r_->Prop}(I:H_ s)(e:H a=a_ (.ins C dx fs))(c:Cls X.K C)(k:Eo X.K C m g)(l:fs.lookup m=b_)
  (h:Q (.ref g,[.ref a]) s):wpAny (g_ X) A (getMethod (.ref a) m pl) Q E s:=by
 let⟨mA,O,r,_,_,_⟩:=uJ I.hok e;let hn:mA m=b_:=lN.none_of (by rw[<-l];show r m);show FO I.kIn O (c.get m) k.at_ k.fn hn h
def Cq{u:q_}{Q:jn Unit}(I:H_ s)(e:H a=a_ (.ins C dx fs))(c:Cls X.K C)(n:jU X.K C f)(hl:fs.length<1000)(ry:RelV y u)(h:∀s',h_ (R_ a<|.ins C dx<|jH f y fs) s'->Q () s'):wpAny (g_ X) A (setAttr (.ref a) f u) Q E s:=by
 let⟨mA,O,r,wi,_,ho⟩:=uJ I.hok e;let hz:(fs.map (·.1)).length<=UG:=by rw[Uu,Vs];omega
 refine Jt I.kIn O c.sa c.po n.taker c.hd wi hz λh' O' sb=>h _ ?_;let hd:∃o,h'.get? dx=a_ o:=let ⟨o,_,_,e',_⟩:=O'.ns;⟨o,e'⟩;refine I.write (x:=a) (e:=dx) (by rw[e];show Wl) (.inr ho) (λb q hb z=>(sb.2 b hb).trans z) hd ?_;refine⟨by rw[aH O.ne];show ho,?_,O.ne,O'.obj,_,O'.ns,λg=>?_,λg hg=>?_⟩
 ·have:=sT f y fs;omega
 ·change lN ((jH f y fs).lookup g) (if g=f then a_ u else mA g)
  rw[sS];by_cases q:g=f
  ·rw[if_pos q,if_pos q];show ry
  ·rw[if_neg q,if_neg q];show r g
 ·by_cases q:g=f
  ·rw[q];show(qZ f y fs).1
  ·refine(qZ f y fs).2 g (wi g λz=>hg ?_)
   change(if g=f then a_ u else mA g)=b_
   rw[if_neg q];show z
def Inv.made(I:H_ s):h_ (upd (R_ (e_ s)<|.own<|s.heap.objs.size+1) (s.heap.objs.size+1)<|.ins C (e_ s) [])
  {s with heap:=(s.heap.push V3).push (WI C<|e_ s)}:=by
 let e1:(s.heap.push V3).get? (e_ s)=a_ V3:=Uz s.heap rfl;let e2:((s.heap.push V3).push<|WI C<|e_ s).get? (s.heap.objs.size+1)=a_ (WI C<|e_ s):=by
  have:=Uz (s.heap.push V3) (o:=WI C<|e_ s) rfl
  rwa[VL]at this
 let e3:(s.heap.push V3).Ns (e_ s) (λ_=>b_):=⟨V3,#[],_,e1,rfl,(λe he=>absurd he<|by simp),λ_=>rfl⟩;let I1:=I.laid (a:=(e_ s)) (o:=.own<|s.heap.objs.size+1) (h':=s.heap.push V3) (t':=s.toks) (λb u q=>SZ _ q) (Uv _) ⟨_,e1⟩;refine I1.laid (a:=(e_ s)+1) (o:=.ins C (e_ s) []) (t':=s.toks) (λb u q=>SZ _ q) (Nat.le_of_eq<|VL _ _) ?_;let ne:(e_ s)≠(e_ s)+1:=UR<|Nat.lt_succ_self _;refine⟨by rw[aH ne,aI],U5 _,ne,e2,λ_=>b_,(Heap.Ns1.of_empty e3).at λo q=>SZ _ q,λ_=>Wl,λy hy=>absurd rfl hy⟩
def Ju{f:Str}(hb:Xe e f env (eval e env)=eval e env)(h:p_ (eval e env) (λo s₁=>p_ (getAttr o f true) Q E s₁) E s):p_ (eval (.Attribute e f pos) env) Q E s:=Attribute_any_ h (by rw[arm_eval_Attribute,hb])
end
abbrev QS(K:Us)(ta:TE)(f:Str):TE:=λσ H Q=>ta σ H λx H1=>∃a C dx fs v,x=.ref a/\H1 a=a_ (.ins C dx fs)/\Cls K C/\jU K C f/\fs.lookup f=a_ v/\Q v H1
abbrev QT(K:Us)(ta tv:TE)(f:Str):TS:=λD σ H=>tv σ H λy H1=>ta σ H1 λx H2=>∃a C dx fs,x=.ref a/\H2 a=a_ (.ins C dx fs)/\Cls K C/\jU K C f/\fs.length<1000/\
 D.nx σ (upd H2 a<|.ins C dx<|jH f y fs)
variable{value:v_}
section
variable{o:v_}{f:Str}{jk:Pos}{tv:TE}
def M6(he:PE X e ta)(hb:Xe e f X.env (S_ 0)=S_ 0):PE X (.Attribute e f pos) (QS X.K ta f):=by intro td s σ H Q I h;refine Ju hb<|thn (he td s σ H _ I h) λu s1 z9=>?_;let⟨x,H1,I1,rx,a,C,dx,fs,v,ex,ea,c,n,l,q⟩:=z9;subst ex;obtain rfl:u=US a:=rx;show Co I1 ea c n l λu' s2 I2 ru=>⟨v,H1,I2,ru,q⟩
def M7(ha:PE X o ta)(hv:PE X value tv)(hs:XX value (a_<|.Attribute o f pos') pos.line X.env=pure false):PS X (.Assign [.Attribute o f pos'] value pos) (QT X.K ta tv f):=by intro td s σ H D I h;refine plainObj_wpAny_Assign_Attribute (thn (hv td s σ H _ I h) λu s1 ⟨y,H1,I1,ry,q⟩=>thn (ha td s1 σ H1 _ I1 q) λov s2 z9=>?_) hs;let⟨x,H2,I2,rx,a,C,dx,fs,ex,ea,c,n,l,q2⟩:=z9;subst ex;obtain rfl:ov=US a:=rx;show Cq I2 ea c n l ry λs3 I3=>⟨σ,_,I3,q2⟩
end
inductive rA(K:Us)(H:Hp):V->Value->Prop where
 |non:rA K H .non (.type "NoneType")
 |bl (x:Bool):rA K H (.bl x) (.type "bool")
 |int (i:Int):rA K H (.int i) (.type "int")
 |str (x:Str):rA K H (.str x) (.type "str")
 |flt (x:UInt64):rA K H (.flt x) (.type "float")
 |lst {a:Addr} {xs:x_ V} (e:H a=some (.lst xs)):rA K H (.ref a) (.type "list")
 |frz {a:Addr} {o:Obj} {xs:x_ V} (e:H a=some (.frz o (.lst xs))):rA K H (.ref a) (.type "list")
 |tup {a:Addr} {xs:x_ V} (e:H a=some (.tup xs)):rA K H (.ref a) (.type "tuple")
 |dK {a:Addr} {kvs:x_ (Key×V)} (e:H a=some (.dK kvs)):rA K H (.ref a) (.type "dict")
 |dT {a:Addr} {kvs:x_ (x_ Key×V)} (e:H a=some (.dT kvs)):rA K H (.ref a) (.type "dict")
 | ins {a C dx:Addr} {fs:x_ (Str×V)} (e:H a=some (.ins C dx fs)) (cl:Cls K C) (ha:Vu K (.ref C) "__class__" = some (some (.builtin "object.__class__")))
   (hn:PySem.W.specialIn K (.builtin "object.__class__") "__get__" = some (some (.builtin "getset_descriptor.__get__"))) (htk:PySem.W.takesIn K (.builtin "object.__class__")=some true)
   (hm:PySem.W.mroIn K C (.type "object")=some true):rA K H (.ref a) (.ref C)
def Ep{c:q_}{x:V}{u t:q_}(I:H_ s)(rx:RelV x u)(ty:rA X.K H x t)(e:PySem.W.kitOne X.K t c=a_ b)(h:∀tk,Q (.bool b) { s with toks:=tk}):
  wpAny (g_ X) A (call (.builtin "isinstance") [u,c]) Q E s:=by
 cases ty with
 |non=>cases(show u=UT from rx);show VB PySem.W.kitx_none I.kIn Wl e (λz=>nomatch z) h
 |bl y=>cases(show u=Value.bool y from rx);show VB PySem.W.kitx_bool I.kIn Wl e (λz=>nomatch z) h
 |int i=>let⟨t,q⟩:=(show ∃t,u=Value.int i t from rx);cases q;show VB PySem.W.kitx_int I.kIn Wl e (λz=>nomatch z) h
 |str y=>let⟨t,q⟩:=(show ∃t,u=Value.str y t from rx);cases q;show VB PySem.W.kitx_str I.kIn Wl e (λz=>nomatch z) h
 |flt y=>let⟨t,q⟩:=(show ∃t,u=Value.float y t from rx);cases q;show VB PySem.W.kitx_float I.kIn Wl e (λz=>nomatch z) h
 | @lst a xs ea=>
  cases(show u=US a from rx)
  let⟨_,_,n,_,h1⟩:=(show Yj H s.heap a (.lst xs) from I.hok a _ ea)
  show VB PySem.W.kitx_list I.kIn ⟨_,h1,rfl⟩ e (λz=>nomatch z) h
 | @frz a ob xs ea=>
  cases(show u=US a from rx)
  let⟨_,_,_,n,_,h1⟩:=(show Yj H s.heap a (.frz ob<|.lst xs) from I.hok a _ ea)
  show VB PySem.W.kitx_list I.kIn ⟨_,h1,rfl⟩ e (λz=>nomatch z) h
 | @tup a xs ea=>
  cases(show u=US a from rx)
  let⟨_,_,_,p⟩:=(show Yj H s.heap a (.tup xs) from I.hok a _ ea)
  let⟨o,h1,h2,_⟩:=p;show VB PySem.W.kitx_tuple I.kIn ⟨o,h1,h2⟩ e (λz=>nomatch z) h
 | @dK a kvs ea=>
  cases(show u=US a from rx)
  let⟨_,_,vs,_,p⟩:=(show Yj H s.heap a (.dK kvs) from I.hok a _ ea)
  let⟨o,es,ep,h1,h2,_⟩:=p;show VB PySem.W.kitx_dict I.kIn ⟨o,h1,h2.1⟩ e (λz=>nomatch z) h
 | @dT a kvs ea=>
  cases(show u=US a from rx)
  let⟨_,_,xs,_,o,es,ep,h1,h2,_⟩:=(show Yj H s.heap a (.dT kvs) from I.hok a _ ea)
  show VB PySem.W.kitx_dict I.kIn ⟨o,h1,h2.1⟩ e (λz=>nomatch z) h
 | @ins a C dx fs ea cl ha hn htk hm=>
  cases(show u=US a from rx)
  let⟨mA,O,_⟩:=uJ I.hok ea;let⟨od,J,_⟩:=O.look;show VB (PySem.W.kitx_own (cl.get _) cl.hd ha hn htk hm) I.kIn J e (λz=>nomatch z) h
structure eT(k:Nat)(A:t_):Prop where
 hd:A.handled=none
 dp:A.depth+3*k+5<recursionLimit
 un:A.units+16*k+200<cLine
def eT.mono{k:Nat}(r:eT k A)(h:j<=k):eT j A:=⟨r.hd,by have:=r.dp;omega,by have:=r.un;omega⟩
def eT.deeper{k:Nat}(r:eT (k+1) A)(env:Env):eT k (A.deeper env):=⟨r.hd,by have:=r.dp;change A.depth+1+3*k+5<_;omega,by have:=r.un;change A.units+3+16*k+200<_;omega⟩
def eT.in1{k:Nat}(r:eT (k+1) A):eT k A.in1:=⟨r.hd,by have:=r.dp;change A.depth+3*k+5<_;omega,by have:=r.un;change A.units+1+16*k+200<_;omega⟩
def Cr{C:s_}:(A.under<|.builtin "type.__call__" ⟨.ref C::us,kw⟩).depth=A.depth+1:=by first|rfl|simp[Around.under,Code.weight,Code.isCreation,Code.isGuard,Code.isCaller,Code.frames,Code.isFrame,guardIds]
def Cs{C:s_}:(A.under<|.builtin "type.__call__" ⟨.ref C::us,kw⟩).units=A.units+1:=by first|rfl|simp[Around.under,Code.cUnits,Code.frames,Code.isFrame]
def eT.make{k:Nat}(r:eT (k+1) A)(C:s_)(us:x_ q_)(kw:x_ (Str×q_)):eT k (A.under<|.builtin "type.__call__" ⟨.ref C::us,kw⟩):=⟨r.hd,by have:=r.dp;rw[Cr];omega,by have:=r.un;rw[Cs];omega⟩
def eT.depth{k:Nat}(r:eT k A):A.depth<recursionLimit:=by have:=r.dp;omega
def eT.units{k:Nat}(r:eT k A):A.units+64<cLine:=by have:=r.un;omega
abbrev FQ:TA:=λ_ H Q=>Q [] H
abbrev FT(ta:TE)(tr:TA):TA:=λσ H Q=>ta σ H λx H1=>tr σ H1 λxs H2=>Q (x::xs) H2
section
variable{t:TA}
def A0:PA X [] FQ:=λ_ _ _ _ H Q I h=>Calls.spliced_nil ⟨[],H,I,.nil,h⟩
def uK(ha:PE X e te)(hr:PA X es t)(hs:UL (e::es) X.env=(false,S_ 0)::U_ 0:=by rfl):PA X (e::es) (FT te t):=by
 intro pos td s σ H Q I h;rw[hs]
 change B_ (spliced ((false,S_ 0)::Yc (U_ 0))) _ _ s
 refine Calls.spliced_cons<|thn (ha td s σ H _ I h) λu s1 z9=>?_;let⟨x,H1,I1,r1,q1⟩:=z9;show thn (hr pos td s1 σ H1 _ I1 q1) λus s2 ⟨xs,H2,I2,r2,q2⟩=>⟨x::xs,H2,I2,.cons r1 r2,q2⟩
abbrev QU(t:TA):TE:=λσ H Q=>t σ H λxs H1=>xs.length<=UG/\∀p,H1 p=b_->Q (.ref p) (upd H1 p<|.tup xs)
abbrev QV(t:TA):TE:=λσ H Q=>t σ H λxs H1=>xs.length<=UG/\∀p,H1 p=b_->Q (.ref p) (upd H1 p<|.lst xs)
def M8{x1}(h:PA X es t):PE X (.Tuple es x1 pos) (QU t):=by intro td s σ H Q I hq;refine wpAny_Tuple_spliced (thn (h pos td s σ H _ I hq) λus s1 ⟨xs,H1,I1,r,z,q⟩=>⟨by rw[<-r.length];show z,?_⟩);let hf:H1 (e_ s1)=b_:=I1.hok.fresh<|Uv _;refine⟨.ref<|e_ s1,upd H1 (e_ s1)<|.tup xs,I1.laid (t':=s1.toks) (λb u e=>SZ _ e) (Uv _) ?_,rfl,q _ hf⟩;show⟨z,us,r,⟨_,Yo 0,rfl,⟨_,rfl⟩,rfl⟩⟩
def M9(h:PA X es t):PE X (.List es pos) (QV t):=by intro td s σ H Q I hq;refine wpAny_List_spliced (thn (h pos td s σ H _ I hq) λus s1 ⟨xs,H1,I1,r,z,q⟩=>⟨by rw[<-r.length];show z,?_⟩);let hf:H1 (e_ s1)=b_:=I1.hok.fresh<|Uv _;refine⟨.ref<|e_ s1,upd H1 (e_ s1)<|.lst xs,I1.laid (t':=s1.toks) (λb u e=>SZ _ e) (Uv _) ?_,rfl,q _ hf⟩;show⟨z,us,0,r,Yo 0⟩
end
@[reducible]def Sp:=x_ V->Hp->VK->XK->Prop
@[reducible]def CXT:=x_ Env->Hp->r_->XK->f_ 0
structure xO(P:vj)(w:ve)(K:Us)(mg:m_ 0)(base:u_)(A:t_)(outer:x_ Env)(s:r_)(H:Hp):Prop where
 frames:A.frames=some outer
 mod:Mod K mg base
 bs:∀b o,base.get? b=some o->s.heap.get? b=some o/\H b=none
 bsz:base.objs.size<=(e_ s)
 funs:s.heap.FunFrames base outer
 frf:∀b∈frs outer,H b=none
 hok:HOk P w H s.heap
 bare:AllBare s.gens
abbrev CE(outer:x_ Env)(P:vj)(w:ve)(H:Hp)(s:r_)(Q:VK)(u:q_)(s':r_):Prop:=
 ∃v H',s'.os=s.os/\AllBare s'.gens/\Un (frs outer) [] H H' s.heap s'.heap/\HOk P w H' s'.heap/\RelV v u/\Q v H'
abbrev CR(CX:CXT)(outer:x_ Env)(P:vj)(w:ve)(H:Hp)(s:r_)(Q:VK)(E:XK)(r:Result)(s':r_):Prop:=
 match r with
 |.ok (.ret u)=>CE outer P w H s Q u s'
 |.ok _=>False
 |.error e=>CX outer H s E e s'
structure cB(P:vj)(w:ve)(K:Us)(mg:m_ 0)(base:u_)(CX:CXT)(k:Nat)(f:s_)(fd:V7)(ps:x_ Str)(sp:Sp):Prop where
 len:∀vs H Q E,sp vs H Q E->vs.length=ps.length
 run:∀(A:t_)(outer:x_ Env)(s:r_)(H:Hp)(args:Args)(us:x_ q_)(vs:x_ V)(Q:VK)(E:XK),eT k A->xO P w K mg base A outer s H->BindsTo s fd args (ps.zip us)->aJ vs us->sp vs H Q E->
  codeAny (model P w) A (.call (.ref f) args) (CR CX outer P w H s Q E) s
variable{CX:CXT}{fd:V7}{mg:m_ 0}{ps:x_ Str}{sp:Sp}
def cB.imp{base:u_}{k:Nat}{f:s_}{zj:Sp}(F:cB P w K mg base CX k f fd ps sp)(h:∀vs H Q E,zj vs H Q E->sp vs H Q E):cB P w K mg base CX k f fd ps zj:=⟨λvs H Q E q=>F.len vs H Q E<|h _ _ _ _ q,λA outer s H args us vs Q E hr he hb hv hs=>F.run A outer s H args us vs Q E hr he hb hv<|h _ _ _ _ hs⟩
variable{outer:x_ Env}
def xO.make{base:u_}(e:xO P w K mg base A outer s H)(C:s_)(us:x_ q_)(kw:x_ (Str×q_)):
  xO P w K mg base (A.under<|.builtin "type.__call__" ⟨.ref C::us,kw⟩) outer s H:=⟨by first|exact e.frames|(simpa[Around.under,Code.envs,Code.isFrame,pushEnvs] using e.frames),e.mod,e.bs,e.bsz,e.funs,e.frf,e.hok,e.bare⟩
def xO.in1{base:u_}(e:xO P w K mg base A outer s H):
  xO P w K mg base A.in1 outer s H:=⟨e.frames,e.mod,e.bs,e.bsz,e.funs,e.frf,e.hok,e.bare⟩
def Inv.env0(I:H_ s):xO X.prog X.w X.K X.mg X.base X.A X.stack s H:=⟨I.ok.frames,I.ok.mod,I.bs,U1 I.ok.bsz I.sz,I.stack,I.stkFree,I.hok,I.bare⟩
def Inv.after{Q:VK}{u:q_}(I:H_ s)(h:CE X.stack X.prog X.w H s Q u s'):X3 Q u s':=by let⟨v,H',os,bare,un,hok,r,q⟩:=h;let⟨hh,g,d,t,vd⟩:=s';obtain rfl:vd=s.os:=os;show⟨v,H',I.call (h':=hh) (g':=g) (d':=d) (t':=t) (ch:=[]) un hok bare<|λb z=>absurd z<|by simp,r,q⟩
abbrev FU(sp:Sp)(de:x_ V)(E:XK)(t:TA):TE:=λσ H Q=>t σ H λvs H1=>sp (vs++de) H1 Q E
abbrev Lo(C:s_)(sp:Sp)(de:x_ V)(E:XK)(t:TA):TE:=λσ H Q=>t σ H λvs H1=>∀x dx,H1 x=b_->H1 dx=b_->dx≠x->
 sp (.ref x::(vs++de)) (upd (upd H1 dx<|.own x) x<|.ins C dx []) (λv H2=>v=.non/\Q (.ref x) H2) E
abbrev Binds(K:Us)(fd:V7)(ps:x_ Str)(ds:x_ q_):Prop:=
 ∀(s:r_)(us:x_ q_),K.In s.heap->(us++ds).length=ps.length->BindsTo s fd ⟨us,[]⟩ (ps.zip<|us++ds)
def Binds.all(h:∀us:x_ q_,us.length=ps.length->bindArgs fd ⟨us,[]⟩=pure (ps.zip us)):Binds K fd ps []:=λs us _ hl=>by rw[Ws]at hl⊢;show .of_eq<|h us hl
abbrev nW(CX:CXT)(X:Cx)(E:XK):Prop:=∀(td:gV 0)(σ:St)(H:Hp)(s:r_)(e:q_)(s':r_),H_ s->CX X.stack H s E e s'->X.xe e s'
variable{de vs:x_ V}
section
variable{k:Nat}{f C:s_}{ds:x_ q_}{E:XK}{m:Str}{p:Pos}{o:v_}{t:TA}
def Ct{Q:VK}(F:G_ CX k f fd ps sp)(hr:eT k X.A)(hb:Binds X.K fd ps ds)(hd:aJ de ds)(hx:nW CX X E)(I:H_ s)(r:aJ vs us)(h:sp (vs++de) H Q E):wpAny (g_ X) X.A (call (.ref f) us) (X3 Q) X.xe s:=by
 let r2:aJ (vs++de) (us++ds):=r.append hd;let hl:(us++ds).length=ps.length:=by rw[<-r2.length];show F.len _ _ _ _ h
 refine wpAny_call<|codeAny_mono (F.run X.A X.stack s H ⟨us,[]⟩ (us++ds) (vs++de) Q E hr I.env0 (hb s us I.kIn hl) r2 h) λr s' hq=>?_;cases r with
 |error e=>exact hx td σ H s e s' I hq
 |ok fl=>
  cases fl with
  |ret u=>exact I.after hq
  |next=>exact VV hq
  |brk=>exact VV hq
  |cont=>exact VV hq
def Jv(F:G_ CX k f fd ps sp)(hr:eT k X.A)(hg:Gl X x)(hm:X.mg x=c_ f)(hk:Wo X.K (.ref f)=true)(hb:Binds X.K fd ps ds)(hd:aJ de ds)(hx:nW CX X E)
  (ha:PA X (e::es) t) (b5:(x == ("__debug__" : Str))=false:=by decide) (he:UL (e::es) X.env=(false,S_ 0)::U_ 0:=by rfl) (bh:(Yc<|U_ 0).any (·.1)=false:=by rfl):
  PE X (.Call (.Name x p) (e::es) [] pos) (FU sp de E t):=by
 intro td s σ H Q I h;refine VS<|iL I hg hm ?_ b5;refine PySem.W.callWith_K (h₀:=X.base) I.ok.mod.kin hk (thn (ha pos td s σ H _ I h) λus s1 ⟨vs,H1,I1,r,q⟩=>⟨I1.kIn,?_⟩) he bh;show Ct F hr hb hd hx I1 r q
def FV(F:G_ CX k f fd ps sp)(hr:eT k X.A)(hg:Gl X x)(hm:X.mg x=c_ f)(hk:Wo X.K (.ref f)=true)(hb:Binds X.K fd ps ds)(hd:aJ de ds)(hx:nW CX X E)
  (b5:(x == ("__debug__" : Str))=false:=by decide):PE X (.Call (.Name x p) [] [] pos) (FU sp de E FQ):=by
 intro td s σ H Q I h;refine VS<|iL I hg hm ?_ b5;show PySem.W.callWith_K0 I.kIn hk<|Ct (us:=[]) F hr hb hd hx I .nil h
structure Mk(K:Us)(C f:s_):Prop where
 makes:PySem.W.makesIn K C=true
 init:Vu K (.ref C) "__init__" = some (c_ f)
 fn:PySem.W.isFn K (.ref f)=true
 kp:Wo K (.ref C)=true
def B8{Q:VK}(M:Mk X.K C f)(F:G_ CX k f fd ps sp)(hr:eT (k+1) X.A)(hb:Binds X.K fd ps ds)(hd:aJ de ds)(hx:nW CX X E)(I:H_ s)(r:aJ vs us)(h:∀x dx,H x=b_->H dx=b_->dx≠x->sp (.ref x::(vs++de)) (upd (R_ dx<|.own x) x<|.ins C dx []) (λv H2=>v=.non/\Q (.ref x) H2) E):
  wpAny (g_ X) X.A (call (.ref C) us) (X3 Q) X.xe s:=by
 let hq:=h (s.heap.objs.size+1) (e_ s) (I.hok.fresh<|Vb _) (I.hok.fresh<|Uv _)<|UR<|Nat.lt_succ_self _;let I2:=Inv.made (C:=C) I;let r2:aJ (V.ref (s.heap.objs.size+1)::(vs++de)) (US (s.heap.objs.size+1)::(us++ds)):=.cons rfl<|r.append hd;let hl:(US (s.heap.objs.size+1)::us++ds).length=ps.length:=by let e:=r2.length;rw[F.len _ _ _ _ hq]at e;show e.symm
 refine wpAny_call (FP (f:=f) I.kIn M.makes M.init (beq_iff_eq.mp M.fn) (codeAny_mono (F.run _ X.stack _ _ ⟨US (s.heap.objs.size+1)::us,[]⟩ (US (s.heap.objs.size+1)::(us++ds)) _ _ E (hr.make C us [])
  (I2.env0.make C us []) (hb _ (US (s.heap.objs.size+1)::us) I2.kIn hl) r2 hq) λr s' ji=>?_))
 cases r with
 |error e=>exact hx td σ _ _ e s' I2 ji
 |ok fl=>
  cases fl with
  |ret u=>let⟨v,H',I3,rv,ev,q3⟩:=I2.after ji;subst ev;show⟨rv,⟨V.ref<|s.heap.objs.size+1,H',I3,rfl,q3⟩⟩
  |next=>exact VV ji
  |brk=>exact VV ji
  |cont=>exact VV ji
def Jw(M:Mk X.K C f)(F:G_ CX k f fd ps sp)(hr:eT (k+1) X.A)(hg:Gl X x)(hm:X.mg x=c_ C)(hb:Binds X.K fd ps ds)(hd:aJ de ds)(hx:nW CX X E)
  (ha:PA X (e::es) t) (b5:(x == ("__debug__" : Str))=false:=by decide) (he:UL (e::es) X.env=(false,S_ 0)::U_ 0:=by rfl) (bh:(Yc<|U_ 0).any (·.1)=false:=by rfl):
  PE X (.Call (.Name x p) (e::es) [] pos) (Lo C sp de E t):=by
 intro td s σ H Q I h;refine VS<|iL I hg hm ?_ b5;refine PySem.W.callWith_K (h₀:=X.base) I.ok.mod.kin M.kp (thn (ha pos td s σ H _ I h) λus s1 ⟨vs,H1,I1,r,q⟩=>⟨I1.kIn,?_⟩) he bh;show B8 M F hr hb hd hx I1 r q
def FW(M:Mk X.K C f)(F:G_ CX k f fd ps sp)(hr:eT (k+1) X.A)(hg:Gl X x)(hm:X.mg x=c_ C)(hb:Binds X.K fd ps ds)(hd:aJ de ds)(hx:nW CX X E)
  (b5:(x == ("__debug__" : Str))=false:=by decide):PE X (.Call (.Name x p) [] [] pos) (Lo C sp de E FQ):=by
 intro td s σ H Q I h;refine VS<|iL I hg hm ?_ b5;show PySem.W.callWith_K0 I.kIn M.kp<|B8 (us:=[]) M F hr hb hd hx I .nil h
end
structure pC(N P:x_ Str)(sc:Scope):Prop where
 kind:sc.kind=.function
 co:sc.isCoroutine=false
 gen:sc.isGenerator=false
 nd:N.Nodup
 pre:N.take P.length=P
 par:∀x∈P,sc.names.lookup x=some .local\/sc.names.lookup x=some .cell
 nofree:∀y∈sc.names,y.2≠.free
def yC{kindOf:Str->y_ Xq}{x:Str}:∀{binds:x_ (Str×q_)}{m:m_ 0},(∀v,(x,v)∉binds)->bindL kindOf binds m x=m x
 |[],_,_=>rfl
 |(n,v)::r,m,h=>by
  unfold bindL;rw[yC λw hw=>h w<|Uw _ hw];split
  ·have:x≠n:=by rintro rfl;show h v Uy
   simp[this]
  ·rfl
def yD{kindOf:Str->y_ Xq}{x:Str}:∀{binds:x_ (Str×q_)}{m:m_ 0},(∀v,(x,v)∉binds)->bindC kindOf binds m x=m x
 |[],_,_=>rfl
 |(n,v)::r,m,h=>by
  unfold bindC;rw[yD λw hw=>h w<|Uw _ hw];split
  ·rfl
  ·have:x≠n:=by rintro rfl;show h v Uy
   simp[this]
def yE{kindOf:Str->y_ Xq}{x:Str}{v:q_}:∀{P:x_ Str}{vs:x_ q_}{i:Nat}{m:m_ 0},P.Nodup->P[i]?=a_ x->vs[i]?=a_ v->kindOf x=a_ .local->
  bindL kindOf (P.zip vs) m x=a_ v
 |[],_,_,_,_,h,_,_=>by simp at h
 |_::_,[],_,_,_,_,h,_=>by simp at h
 |p::P,w::vs,0,m,nd,h1,h2,hk=>by
  simp at h1 h2;subst h1;subst h2
  change bindL kindOf ((p,w)::P.zip vs) m p=_
  unfold bindL;rw[yC λv hv=>(VC.mp nd).1 (List.of_mem_zip hv).1,if_pos hk];simp
 |p::P,w::vs,i+1,m,nd,h1,h2,hk=>by
  change bindL kindOf ((p,w)::P.zip vs) m x=_
  unfold bindL;show yE (i:=i) (VC.mp nd).2 (ke h1) (ke h2) hk
def yF{kindOf:Str->y_ Xq}{x:Str}{v:q_}:∀{P:x_ Str}{vs:x_ q_}{i:Nat}{m:m_ 0},P.Nodup->P[i]?=a_ x->vs[i]?=a_ v->kindOf x≠a_ .local->
  bindC kindOf (P.zip vs) m x=a_ v
 |[],_,_,_,_,h,_,_=>by simp at h
 |_::_,[],_,_,_,_,h,_=>by simp at h
 |p::P,w::vs,0,m,nd,h1,h2,hk=>by
  simp at h1 h2;subst h1;subst h2
  change bindC kindOf ((p,w)::P.zip vs) m p=_
  unfold bindC;rw[yD λv hv=>(VC.mp nd).1 (List.of_mem_zip hv).1,if_neg hk];simp
 |p::P,w::vs,i+1,m,nd,h1,h2,hk=>by
  change bindC kindOf ((p,w)::P.zip vs) m x=_
  unfold bindC;show yF (i:=i) (VC.mp nd).2 (ke h1) (ke h2) hk
abbrev start(N:x_ Str)(vs:x_ V):St:=vs.map a_++Xn (N.length-vs.length) b_
abbrev xP(CX:CXT)(P:vj)(w:ve)(K:Us)(mg:m_ 0)(base:u_)(N:x_ Str)(qual:Str)(scope:Scope)(f:s_)(cd:q_)(A:t_)(outer:x_ Env)(s:r_)(H:Hp)(E:XK):Cx where
 prog:=P
 w:=w
 K:=K
 mg:=mg
 base:=base
 A:=A.deeper<|envOfC qual scope (e_ s) f cd
 N:=N
 s₀:=s
 H₀:=H
 env:=envOfC qual scope (e_ s) f cd
 outer:=outer
 stack:=envOfC qual scope (e_ s) f cd::outer
 ex:=[]
 calm:=true
 fn:=λ_=>true
 pn:=[]
 xe:=λe s'=>wpAny (model P w) (A.deeper<|envOfC qual scope (e_ s) f cd) (leaving (envOfC qual scope (e_ s) f cd) e) (λ_ cu=>CX outer H s E e cu) (λe' cu=>CX outer H s E e' cu) s'
variable{sc:Scope}
def B9(h:Yp 0=a_ .cell):∃c,(VD n sc.names []).lookup x=a_ c:=by let q:=PySem.W.cellsFrom_some sc.names n []<|.inl h;show Wz.mp q
variable{cd:q_}{qual:Str}{s1:r_}{scope:Scope}
def Er{base:u_}{f:s_}{E:XK}(S:pC N ps scope)(hd:A.handled=b_)(e0:xO P w K mg base A outer s H)(hl:vs.length=ps.length)(r:aJ vs us)(x:InCallC s (e_ s) (bindL (envOfC qual scope (e_ s) f cd).kindOf (ps.zip us) λ_=>b_) (VD (s.heap.objs.size+1) scope.names []) (bindC (envOfC qual scope (e_ s) f cd).kindOf (ps.zip us) λ_=>b_) s1):
  Inv (xP CX P w K mg base N qual scope f cd A outer s H E) [] (start N vs) H s1:=by
 let bh:ps.length<=N.length:=by have:=congrArg List.length S.pre;rw[VE]at this;omega
 let⟨h1,tk,rfl,hk⟩:=x.done;let se:∀b:s_,b∉(xP CX P w K mg base N qual scope f cd A outer s H E).ex:=λb z=>absurd (show b∈([]:x_ s_) from z) (by simp)
 refine⟨⟨e0.mod,S.kind,rfl,rfl,Uv _,λy z c h1 h2=>?_,λy hy=>?_,λy c _ h=>?_,λ_=>hd,Around.frames_deeper e0.frames,.inr ⟨rfl,rfl⟩,λb z=>absurd z (se b),e0.bs,e0.bsz,λb _ _=>se b,λb z=>absurd z (se b),e0.funs,e0.frf⟩,
  rfl,e0.bare,Un.kept hk,⟨_,x.toInCall.ns,λi y v h1 h2 h3=>?_⟩,λy c h=>⟨_,x.cell y c h⟩,e0.hok.fresh (Uv _),λy c h=>?_,λp hp=>absurd (show p∈([]:gV 0) from hp) (by simp),e0.hok.kept hk,?_⟩
 ·show name_of_addr x.apart (Xf h1) (Xf h2)
 ·let hy:scope.names.lookup y=a_ .cell\/scope.names.lookup y=a_ .free:=hy;rcases hy with hy|hy
  ·show B9 hy
  ·show absurd rfl (S.nofree _<|Xf hy)
 ·show VR (x.above y c<|Xf h)
 ·let hi:i<vs.length:=by
   unfold start at h2;by_cases hi:i<vs.length
   ·show hi
   ·rw[WQ<|ke hi]at h2;rw[List.getElem?_replicate]at h2;split at h2 <;> cases h2
  let ha:vs[i]?=a_ v:=by
   unfold start at h2;rw[Vq<|ke hi,UD]at h2;cases e:vs[i]? with
   |none=>rw[e]at h2;cases h2
   |some a=>rw[e]at h2;cases h2;rfl
  let⟨u,hu,rv⟩:=r.get ha;let hp:ps[i]?=a_ y:=by rw[<-S.pre,List.getElem?_take_of_lt ⋯];show h1
  let zp:ps.Nodup:=by rw[<-S.pre];show S.nd.sublist<|List.take_sublist _ _
  refine⟨u,rv,?_⟩;rcases S.par y (UP hp) with k|k
  ·show .inl ⟨k,yE zp hp hu k⟩
  ·let⟨c,e⟩:=B9 (n:=(e_ s)+1) k;refine .inr ⟨.inl k,c,e,?_⟩;let q:=x.cell y c e;rw[yF zp hp hu (by change scope.names.lookup y≠_;rw[k];decide)]at q;show q
 ·show e0.hok.fresh (VR<|x.above y c<|Xf h)
 ·unfold start
  change _=N.length
  rw[Vm,Uu,List.length_replicate];omega
variable{an od:y_ s_}{cdv ct doc pm:q_}{osl:l_ 0}{params:Arguments}
def Os{base:u_}{k:Nat}{f:s_}{body:x_ w_}{dV kV oc:q_}(lk:K.lookup f=a_ ⟨oc,od,.func (We name qual params body scope dV kV doc pm an cdv ct),osl⟩)(f7:X0 K cdv qual=true)(S:pC N ps scope)(len:∀vs H Q E,sp vs H Q E->vs.length=ps.length)(ix:∀(A:t_)(outer:x_ Env)(s:r_)(H:Hp)(vs:x_ V)(Q:VK)(E:XK),eT k (A.deeper (envOfC qual scope (e_ s) f cdv))->sp vs H Q E->
   ∃t,PSs (xP CX P w K mg base N qual scope f cdv A outer s H E) body t/\t { nx:=λ_ H'=>Q .non H',rt:=Q} (start N vs) H):
  cB P w K mg base CX (k+1) f (We name qual params body scope dV kV doc pm an cdv ct) ps sp:=by
 refine⟨len,λA outer s H args us vs Q E hr e0 hb r j4=>?_⟩;let hl:=len _ _ _ _ j4;let KX:K.In s.heap:=e0.mod.kin.keeps λb o e=>(e0.bs b o e).1;let lim:s.heap.NoLimit:=e0.mod.nolimit.keeps λb o e=>(e0.bs b o e).1;let qw:∀y∈ps.zip us,scope.names.lookup y.1=a_ .local\/(scope.names.lookup y.1=a_ .cell/\((VD (s.heap.objs.size+1) scope.names []).lookup y.1).isSome=true):=λ⟨n,v⟩ hy=>by
  rcases S.par n (List.of_mem_zip hy).1 with q|q
  ·show .inl q
  ·show .inr ⟨q,PySem.W.cellsFrom_some _ _ _<|.inl q⟩
 refine codeAny_call_function hr.depth (KX _ _ lk) rfl S.co S.gen rfl (PySem.W.codeRec_of KX f7)<|hb _ _ _ _ ?_;refine wpAny_newFunctionEnv_cells S.kind qw λenv he s1 x=>?_;subst he;refine⟨lim.keeps x.toInCall.keep,codeAny_func ?_⟩;let⟨t,ht,hq⟩:=ix A outer s H vs Q E (hr.deeper _) j4;let I:Inv (xP CX P w K mg base N qual scope f cdv A outer s H E) [] (start N vs) H s1:=Er S hr.hd e0 hl r x;refine WH (ht [] s1 (start N vs) H _ I hq) (λfl s' hs=>?_) λe s' hs=>hs;let fin:∀{σ':St}{H':Hp}{v:V}{u:q_},Inv (xP CX P w K mg base N qual scope f cdv A outer s H E) [] σ' H' s'->RelV v u->Q v H'->CE outer P w H s Q u s':=
  λ{σ' H' v u} J rv q=>⟨v,H',J.os,J.bare,J.base,J.hok,rv,q⟩
 cases fl with
 |ret u=>let⟨v,σ',H',J,rv,q⟩:=hs;show fin J rv q
 |next=>let⟨σ',H',J,q⟩:=hs;show fin (v:=V.non) (u:=UT) J rfl q
 |brk=>let⟨_,_,_,q⟩:=hs;show VV q
 |cont=>let⟨_,_,_,q⟩:=hs;show VV q
variable{T:String}
section
variable{p:Pos}{t:TA}{id:String}{r:x_ V->Hp->VK->Prop}
abbrev tCB(r:x_ V->Hp->VK->Prop)(t:TA):TE:=λσ H Q=>t σ H λvs H1=>r vs H1 Q
def FX(hc:dJ X (.builtin id) r)(hg:Gl X x)(hm:X.mg x=b_)(hv:WV x=a_ (.builtin id))(ha:PA X (e::es) t)(hn:x≠"__name__" := by decide)(b5:(x == ("__debug__" : Str))=false:=by decide)
  (he:UL (e::es) X.env=(false,S_ 0)::U_ 0:=by rfl) (bh:(Yc<|U_ 0).any (·.1)=false:=by rfl):PE X (.Call (.Name x p) (e::es) [] pos) (tCB r t):=by
 intro td s σ H Q I h;refine VS<|jS I hg hm hv ?_ hn b5;show PyProof.Rows.callWith_builtin1 (thn (ha pos td s σ H _ I h) λus s1 ⟨vs,H1,I1,r1,q1⟩=>hc td s1 σ H1 vs us Q I1 r1 q1) he bh
def Es(hc:dJ X (.type T) r)(hg:Gl X x)(hm:X.mg x=b_)(hv:WV x=a_ (.type T))(ha:PA X (e::es) t)(hn:x≠"__name__" := by decide)(b5:(x == ("__debug__" : Str))=false:=by decide)
  (he:UL (e::es) X.env=(false,S_ 0)::U_ 0:=by rfl) (bh:(Yc<|U_ 0).any (·.1)=false:=by rfl):PE X (.Call (.Name x p) (e::es) [] pos) (tCB r t):=by
 intro td s σ H Q I h;refine VS<|jS I hg hm hv ?_ hn b5;show WK (thn (ha pos td s σ H _ I h) λus s1 ⟨vs,H1,I1,r1,q1⟩=>hc td s1 σ H1 vs us Q I1 r1 q1) he bh
end
end L2
namespace HT
open PySem PyProof.Rows
variable{A:t_}{E Q:f_ 0}{prog:vj}{s:r_}{vs ws:x_ q_}{w:ve}
def cat_tup{t b:s_}(ht:IsTup s.heap t vs.toArray)(hb:IsTup s.heap b ws.toArray)(hv:vs≠[])(h1:ws=[]->Q (.ref t) s)(h2:ws≠[]->Q (.ref<|e_ s) {s with heap:=s.heap.push {cls:=.type "tuple",data:=.seq (vs++ws).toArray} })(hsz:vs.length+ws.length<=UG):p_ (V6 .Add (.ref t)<|.ref b) Q E s:=by
 let⟨⟨cls,dd,data,sl⟩,ho,hc,n,hd⟩:=id ht;let⟨⟨qg,ki,data2,kh⟩,i8,dr,n2,hd2⟩:=id hb;simp only at hc hd dr hd2;subst hc hd dr hd2;let e:vs.toArray++ws.toArray=(vs++ws).toArray:=by simp
 by_cases hw:ws=[]
 ·show concat_meets ⟨_,ho,rfl⟩ ⟨_,i8,rfl⟩ noFill_tuple_add seq_tuple_add PySem.F.slot_tuple_add PySem.F.entry_tuple_add (PySem.F.args_tuple_add_2 _ _)
   (tuple_addW1 t b vs.toArray ws.toArray n n2 dd ki sl kh (ke hv)<|by simp[hw]) ⟨ho,i8,h1 hw⟩
 ·refine concat_meets ⟨_,ho,rfl⟩ ⟨_,i8,rfl⟩ noFill_tuple_add seq_tuple_add PySem.F.slot_tuple_add PySem.F.entry_tuple_add (PySem.F.args_tuple_add_2 _ _)
   (tuple_addW2 t b vs.toArray ws.toArray n n2 dd ki sl kh (ke hv) (ke hw) (by rw[UC,UC];show hsz)) ⟨ho,i8,?_⟩
  rw[e];show h2 hw
abbrev sIx(n d:Nat):y_ Int->Nat
 |none=>d
 |some v=>if v<0 then(v+(n:Int)).toNat else min v.toNat n
def Mb(n d:Nat)(hd:d<=n)(o:y_ Int):sIx n d o<=n:=by
 cases o with
 |none=>exact hd
 |some v=>
  change(if v<0 then(v+(n:Int)).toNat else min v.toNat n)<=n
  by_cases hv:v<0
  ·rw[if_pos hv];omega
  ·rw[if_neg hv];show Nat.min_le_right _ _
def Dv(v:Int)(n d:Nat):(if v<0 then max (v+(n:Int)) 0 else min v (n:Int))=((sIx n d (a_ v):Nat):Int):=by
 change(if v<0 then max (v+(n:Int)) 0 else min v (n:Int))=(((if v<0 then(v+(n:Int)).toNat else min v.toNat n):Nat):Int)
 by_cases hv:v<0
 ·simp only[if_pos hv];omega
 ·simp only[if_neg hv];omega
def Cu(lo hi:y_ Int)(n:Nat):XJ lo hi 1 (n:Int)=(((sIx n 0 lo:Nat):Int),((sIx n n hi:Nat):Int)):=by
 let h1:¬ ((1:Int)<0):=⋯;unfold XJ;simp only[h1,if_false];refine Prod.ext ?_ ?_
 ·cases lo with
  |none=>rfl
  |some v=>exact Dv v n 0
 ·cases hi with
  |none=>rfl
  |some v=>exact Dv v n n
def Cv(i j:Nat):W1 (i:Int) (j:Int) 1=j-i:=by
 unfold W1;let h1:(1:Int)>0:=⋯;simp only[h1,if_true,Int.ediv_one];split <;> omega
variable{o:y_ Int}{v:q_}
def uU{Q:y_ Int->r_->Prop}(p:IsPart v o)(h:Q o s):p_ (Builtin.Slice.slicePartIndex v) Q E s:=by
 cases p with
 |none=>exact slicePart_none h
 |int i t=>exact slicePart_int h
variable{hi lo:y_ Int}{n:Nat}{vl vu:q_}
def sliceApplied_gen{sl:s_}{Q:Int×Int×Nat->r_->Prop}(hs:s.heap.IsSliceOf sl vl vu .none)(pl:IsPart vl lo)(pu:IsPart vu hi)(h:Q (((sIx n 0 lo:Nat):Int),1,sIx n n hi-sIx n 0 lo) s):p_ (Builtin.Slice.sliceApplied (.ref sl)<|pure (n:Int)) Q E s:=by
 let⟨os,n4,um,nj⟩:=id hs;unfold Builtin.Slice.sliceApplied Builtin.Slice.sliceFields;refine SB<|SB<|Vy n4 nj (x:=vl) rfl<|SB<|Vy n4 nj (x:=vu) rfl<|SB<|Vy n4 nj (x:=.none) rfl<|SL ?_;refine SB<|slicePart_none ?_
 change B_ (if((1:Int) == 0)=true then _ else _) _ _ s
 rw[if_neg<|by decide];refine SB<|uU pl<|SB<|uU pu<|SB<|SL ?_
 change B_ (match XJ lo hi 1 (n:Int) with|(lo,hi)=>pure (lo,(1:Int),W1 lo hi 1)) _ _ s
 rw[Cu lo hi n]
 change B_ (pure (((sIx n 0 lo:Nat):Int),(1:Int),W1 ((sIx n 0 lo:Nat):Int) ((sIx n n hi:Nat):Int) 1)) _ _ s
 rw[Cv];show SL h
def FY(xs:Ya 0)(i k:Nat):((U9 k).filterMap λ(m:Nat)=>xs[((i:Int)+(m:Int)*1).toNat]?).toArray=((xs.toList.drop i).take k).toArray:=by
 let e:(λ(m:Nat)=>xs[((i:Int)+(m:Int)*1).toNat]?)=λm=>xs[i+m]?:=by
  funext m;have:((i:Int)+(m:Int)*1).toNat=i+m:=⋯;rw[this]
 rw[e];have:=pick_run xs i k;rw[List.filterMap_map]at this;let e2:((λx=>xs[x]?)∘λx=>i+x)=λm=>xs[i+m]?:=rfl;rw[e2]at this;rw[this]
variable{items:Ya 0}
def getItem_tuple_cut{t sl:s_}(ht:IsTup s.heap t items)(hs:s.heap.IsSliceOf sl vl vu .none)(pl:IsPart vl lo)(pu:IsPart vu hi)(hw:¬ (X4 0 lo=0/\X4 items.size hi=items.size))(h:Q (.ref<|e_ s) {s with heap:=s.heap.push {cls:=.type "tuple",data:=.seq ((items.toList.drop<|X4 0 lo).take<|X4 items.size hi-X4 0 lo).toArray} })(hsz:items.size<=UG):p_ (getItem (.ref t)<|.ref sl) Q E s:=by
 let fg:sizeOk (.seq ((items.toList.drop<|X4 0 lo).take<|X4 items.size hi-X4 0 lo).toArray):=by
  change((items.toList.drop<|X4 0 lo).take<|X4 items.size hi-X4 0 lo).toArray.size<=UG
  rw[UC,VE,WS,XQ];omega
 let hj:X4 items.size hi<=items.size:=Mb _ _ (Uv _) hi;let⟨os,n4,um,nj⟩:=id hs;let vi:s.TypeIs (.ref sl) "slice" := ⟨os,n4,um⟩;unfold getItem
 try with_reducible refine VY ?_
 first|refine SB (SL ?_)|skip
 refine SB (wpAny_sequenceKey ht.typeIs (by decide) ?_);refine SB (U6 (name:=UB "__getitem__") ht.typeIs Vt
  (Vd Vt ht.typeIs entry_tuple_getitem ?_ (args_tuple_getitem _ _)))
 change B_ (XF (.ref t) >>= _) _ _ s
 refine SB<|tupleItemsOf_ ht ?_;refine SB<|wpAny_typeOf vi ?_;rw[if_pos<|by decide];refine SB<|sliceApplied_gen hs pl pu ?_;let ou:¬ ((((sIx items.size 0 lo:Nat):Int) == 0&&(1:Int) == 1&&(X4 items.size hi-X4 0 lo) == items.size)=true):=by intro q;rw[UQ,UQ]at q;let q1:((sIx items.size 0 lo:Nat):Int)=0:=eq_of_beq q.1.1;let q2:X4 items.size hi-X4 0 lo=items.size:=eq_of_beq q.2;show hw ⟨⋯,⋯⟩
 change B_ (if(((sIx items.size 0 lo:Nat):Int) == 0&&(1:Int) == 1&&(X4 items.size hi-X4 0 lo) == items.size)=true then _ else _) _ _ s
 rw[if_neg ou,FY]
 first
  |exact SB (m:=W7 _) (U0 (SL ⟨_,rfl,SL h⟩) fg)
  |exact SB (m:=W7 _) (U0 (SB<|SL<|SL ⟨_,rfl,SL h⟩) fg)
  |exact SB (SB (m:=W7 _)<|U0 (SL<|SL ⟨_,rfl,SL h⟩) fg)
  |exact SB (SB (m:=W7 _)<|U0 (SL ⟨_,rfl,SL h⟩) fg)
end HT
namespace L2
@[reducible]def TO:=St->Hp->(y_ Int->Hp->Prop)->Prop
abbrev PO(X:Cx)(e:y_ v_)(t:TO):Prop:=
 ∀(td:gV 0)(s:r_)(σ:St)(H:Hp)(Q:y_ Int->Hp->Prop),H_ s->t σ H Q->
  wpAny (g_ X) X.A (evalPart e X.env) (λu s'=>∃o H',h_ H' s'/\IsPart u o/\Q o H') X.xe s
abbrev Jx:TO:=λ_ H Q=>Q b_ H
variable{ns:x_ Int}
def intsAre_of:∀{us:x_ q_},aJ (ns.map V.int) us->IntsAre us ns:=by
 induction ns with
 |nil=>intro us r;rw[XW]at r;cases r;show .nil
 |cons n ns ih=>
  intro us r;rw[UJ]at r;cases r with
  |cons r1 r2=>let⟨t,e⟩:=r1;subst e;show .cons n t<|ih r2
variable{X:Cx}{r r':V->y_ Int->y_ Int->Hp->VK->Prop}{e:v_}{pos:Pos}{te:TE}{us:x_ q_}
section
variable{lo hi:y_ v_}{tl th:TO}{p2:Pos}
def Jy:PO X b_ Jx:=by intro td s σ H Q I h;rw[evalPart_none];show SL ⟨b_,H,I,.none,h⟩
abbrev SlR(X:Cx)(r:V->y_ Int->y_ Int->Hp->VK->Prop):Prop:=
 ∀(td:gV 0)(s:r_)(σ:St)(H:Hp)(x:V)(v vl vu:q_)(lo hi:y_ Int)(sl:s_)(Q:VK),H_ s->RelV x v->s.heap.IsSliceOf sl vl vu .none->IsPart vl lo->IsPart vu hi->r x lo hi H Q->
  ∃T id,typeLookup (.type T) "__getitem__" = pure (a_<|.builtin id)/\s.TypeIs v T/\wpAny (g_ X) X.A (getItem v<|.ref sl) (X3 Q) X.xe s
def SlR.or(h:SlR X r)(h':SlR X r'):SlR X (λx lo hi H Q=>r x lo hi H Q\/r' x lo hi H Q):=by
 intro td s σ H x v vl vu lo hi sl Q I rx hs pl pu q;rcases q with q|q
 ·show Ym x v vl vu lo hi sl Q I rx hs pl pu q
 ·show h' td s σ H x v vl vu lo hi sl Q I rx hs pl pu q
abbrev tSl(r:V->y_ Int->y_ Int->Hp->VK->Prop)(te:TE)(tl th:TO):TE:=λσ H Q=>te σ H λx H1=>tl σ H1 λl H2=>th σ H2 λu H3=>r x l u H3 Q
def FZ(hr:SlR X r)(he:PE X e te)(hl:PO X lo tl)(hu:PO X hi th):PE X (.Subscript e (.Slice lo hi b_ p2) pos) (tSl r te tl th):=by
 intro td s σ H Q I h;refine Subscript_<|thn (he td s σ H _ I h) λv s1 z9=>?_;let⟨x,H1,I1,r1,q1⟩:=z9;refine wpAny_Slice<|thn (hl td s1 σ H1 _ I1 q1) λvl s2 ⟨l,H2,I2,pl,q2⟩=>thn (hu td s2 σ H2 _ I2 q2) λvu s3 z9=>?_;let⟨u,H3,I3,pu,q3⟩:=z9;rw[evalPart_none];refine SL ?_;let I4:h_ H3 {s3 with heap:=s3.heap.push {cls:=.type "slice",data:=.fields #[vl,vu,.none]} }:=I3.kept (t':=s3.toks) λb ob q=>SZ _ q;let⟨T,id,hT,ht,hg⟩:=hr td {s3 with heap:=s3.heap.push {cls:=.type "slice",data:=.fields #[vl,vu,.none]} } σ H3 x v vl vu l u (e_ s3) Q I4 r1 (Heap.IsSliceOf.new ..) pl pu q3
 change wpAny (g_ X) X.A (subscriptTail e (.Slice lo hi b_ p2) v<|.ref<|e_ s3) (X3 Q) X.xe {s3 with heap:=s3.heap.push {cls:=.type "slice",data:=.fields #[vl,vu,.none]} }
 show tail_any (ops:=[.ref<|e_ s3,v]) ht hT hg (by with_unfolding_all rfl)
abbrev Ba(xs:x_ V)(lo hi:y_ Int):x_ V:=(xs.drop<|W_ 0 lo).take<|W_ xs.length hi-W_ 0 lo
def sU(xs:x_ V)(lo hi:y_ Int):(Ba xs lo hi).length<=xs.length:=by unfold Ba;rw[VE,WS];omega
abbrev Ot(K:Us):V->y_ Int->y_ Int->Hp->VK->Prop:=λx lo hi H Q=>∃a xs,x=.ref a/\SqT K H a xs/\
 ¬ (W_ 0 lo=0/\W_ xs.length hi=xs.length)/\∀p,H p=b_->Q (.ref p) (R_ p<|.tup<|Ba xs lo hi)
def Mc:SlR X (Ot X.K):=by
 intro td s σ H x v vl vu lo hi sl Q I rx hs pl pu h;let⟨a,xs,rfl,hx,hw,q⟩:=h;cases rx
 let⟨its,r,ht,hz⟩:=I.tuple hx;let hlen:its.toArray.size=xs.length:=by rw[UC];show r.length.symm
 refine⟨"tuple",_,Vt.lookup,ht.typeIs,?_⟩;refine HT.getItem_tuple_cut ht hs pl pu (by rw[hlen];show hw) ?_ (by rw[hlen];show hz);rw[hlen];refine⟨.ref<|e_ s,_,I.laid (t':=s.toks) (o:=.tup<|Ba xs lo hi) (λb ob q=>SZ _ q) (Uv _) ?_,rfl,q _<|I.hok.fresh<|Uv _⟩;show⟨U1 (sU xs lo hi) hz,_,(r.drop<|W_ 0 lo).take<|W_ xs.length hi-W_ 0 lo,tX.new _ _⟩
abbrev Lp(K:Us):R2:=λx y H Q=>∃a b xs ys,x=.ref a/\y=.ref b/\SqT K H a xs/\SqT K H b ys/\xs≠[]/\xs.length+ys.length<=UG/\
 (ys=[]->Q (.ref a) H)/\(ys≠[]->∀p,H p=b_->Q (.ref p) (R_ p<|.tup<|xs++ys))
def aJ.nil_iff{xs:x_ V}(r:aJ xs us):us=[]↔xs=[]:=by
 cases r with
 |nil=>simp
 |cons _ _=>simp
def Jz:Yg (V6 .Add) (Lp X.K):=by
 intro td s σ H x y v u Q I rx ry h;let⟨a,b,xs,ys,rfl,rfl,ha,hb,hx,hz,q1,q2⟩:=h;cases rx
 cases ry
 let⟨its,r1,p1,_⟩:=I.tuple ha;let⟨da,r2,p2,_⟩:=I.tuple hb;refine HT.cat_tup p1 p2 (λz=>hx<|r1.nil_iff.mp z) (λz=>⟨.ref a,H,I,rfl,q1<|r2.nil_iff.mp z⟩) (λz=>?_) (by rw[<-r1.length,<-r2.length];show hz);refine⟨.ref<|e_ s,_,I.laid (t':=s.toks) (o:=.tup<|xs++ys) (λb ob q=>SZ _ q) (Uv _) ?_,rfl,q2 (λw=>z<|r2.nil_iff.mpr w) _<|I.hok.fresh<|Uv _⟩;show⟨by rw[Vm];show hz,_,r1.append r2,tX.new _ _⟩
end
abbrev ixN(n:Nat)(i:Int):y_ Nat:=if 0<=i then(if i<n then a_ i.toNat else b_) else if -(n:Int)<=i then a_ (i+n).toNat else b_
abbrev atI{α:Type}(xs:x_ α)(i:Int):y_ α:=(ixN xs.length i).bind λj=>xs[j]?
variable{j n:Nat}
def Dw{i:Int}(h:ixN n i=a_ j):seqIndex? i n=a_ j/\j<n/\-(n:Int)<=i/\i<n:=by
 unfold ixN at h;by_cases h0:0<=i
 ·rw[if_pos h0]at h;by_cases h1:i<n
  ·rw[if_pos h1]at h;let e:i.toNat=j:=UW h;show⟨by rw[seqIndex_of h0 h1,e],⋯,⋯,h1⟩
  ·rw[if_neg h1]at h;cases h
 ·rw[if_neg h0]at h;by_cases h1:-(n:Int)<=i
  ·rw[if_pos h1]at h;let e:(i+n).toNat=j:=UW h;show⟨by rw[seqIndex_neg ⋯ h1,e],⋯,h1,⋯⟩
  ·rw[if_neg h1]at h;cases h
def A1{α:Type}{xs:x_ α}{i:Int}{v:α}(h:atI xs i=a_ v):∃j,seqIndex? i xs.length=a_ j/\xs[j]?=a_ v/\j<xs.length/\-(xs.length:Int)<=i/\i<xs.length:=by
 unfold atI at h;cases e:ixN xs.length i with
 |none=>rw[e]at h;cases h
 |some j=>rw[e]at h;let⟨h1,h2,h3,h4⟩:=Dw e;show⟨j,h1,h,h2,h3,h4⟩
abbrev Dx(b:v_):Prop:=∀o i,subscripted b false o i=operate [o,i] (getItem o i)
abbrev IxR(X:Cx)(r:R2):Prop:=
 ∀(value slice:v_)(td:gV 0)(s:r_)(σ:St)(H:Hp)(x y:V)(v u:q_)(Q:VK),H_ s->RelV x v->RelV y u->r x y H Q->
  subscripted slice false v u=operate [v,u] (getItem v u)->wpAny (g_ X) X.A (subscriptTail value slice v u) (X3 Q) X.xe s
abbrev MtR(X:Cx)(id:String)(r:V->x_ V->Hp->VK->Prop):Prop:=
 ∀(td:gV 0)(s:r_)(σ:St)(H:Hp)(x:V)(xs:x_ V)(v:q_)(us:x_ q_)(Q:VK),H_ s->RelV x v->aJ xs us->r x xs H Q->
  wpAny (g_ X) X.A (call (.builtin id) (v::us)) (X3 Q) X.xe s
variable{ta tb:TE}{H:Hp}{its its':x_ q_}{td:gV 0}{s:r_}{σ:St}{A:t_}{y:V}{T:String}{ag apos:Pos}{es:x_ v_}{name:Str}
section
variable{a b:v_}
def IxR.or{r r':R2}(h:IxR X r)(h':IxR X r'):IxR X (λx y H Q=>r x y H Q\/r' x y H Q):=by
 intro value slice td s σ H x y v u Q I rx ry q hs;rcases q with q|q
 ·show h value slice td s σ H x y v u Q I rx ry q hs
 ·show h' value slice td s σ H x y v u Q I rx ry q hs
def Ou{r:R2}(hr:IxR X r)(ha:PE X a ta)(hb:PE X b tb)(hs:Dx b):PE X (.Subscript a b pos) (tOp r ta tb):=by intro td s σ H Q I h;show Subscript_<|LY ha hb I h λv u s2 x y H2 I2 rx ry q=>hr a b td s2 σ H2 x y v u Q I2 rx ry q<|hs _ _
abbrev QW(K:Us):R2:=λx y H Q=>∃p xs i v,x=.ref p/\y=.int i/\SqL K H p xs/\atI xs i=a_ v/\Q v H
abbrev QX(K:Us):R2:=λx y H Q=>∃p xs i v,x=.ref p/\y=.int i/\SqT K H p xs/\atI xs i=a_ v/\Q v H
abbrev QY:R2:=λx y H Q=>∃z i c,x=.str z/\y=.int i/\z.length<=UG/\atI z.cps.toList i=a_ c/\Q (.str ⟨#[c]⟩) H
def JA:IxR X (QW X.K):=by
 intro value slice td s σ H x y v u Q I rx ry h hs;let⟨p,xs,i,z,rfl,rfl,hq,he,q⟩:=h;cases rx
 let⟨t,rfl⟩:=ry;let⟨its,r,pl,hz⟩:=I.list hq;let⟨j,h1,h2,h3,h4,h5⟩:=A1 he;let⟨w,ew,dh⟩:=r.get h2;let hl:=r.length;let hn:=nV;let fin:X3 Q w s:=⟨z,H,I,dh,q⟩;by_cases h0:0<=i
 ·let hj:i.toNat=j:=by rw[seqIndex_of h0 h5]at h1;show UW h1
  show item_listR pl.isList h0 ⋯ (by rw[hj];simpa using ew) fin hs
 ·let hj:(i+(its.toArray.size:Int)).toNat=j:=by rw[seqIndex_neg ⋯ h4]at h1;rw[UC,<-hl];show UW h1
  show subscriptTail_builtinR (x:=w) pl.isList.typeIs slot_list_getitem.lookup
   (wpAny_getItem_list_neg (Q:=λr s'=>r=w/\X3 Q r s') pl.isList ⋯ (by rw[UC] <;> omega) ⋯ (by rw[hj];simpa using ew) ⟨rfl,fin⟩) hs
def Md:IxR X (QX X.K):=by
 intro value slice td s σ H x y v u Q I rx ry h hs;let⟨p,xs,i,z,rfl,rfl,hq,he,q⟩:=h;cases rx
 let⟨t,rfl⟩:=ry;let⟨its,r,pl,hz⟩:=I.tuple hq;let⟨j,h1,h2,h3,h4,h5⟩:=A1 he;let⟨w,ew,dh⟩:=r.get h2;let hl:=r.length;let hn:=nV;let fin:X3 Q w s:=⟨z,H,I,dh,q⟩;show subscriptTail_builtinR (x:=w) pl.typeIs slot_tuple_getitem.lookup
  (getItem_tuple (j:=j) (Q:=λr s'=>r=w/\X3 Q r s') pl ⋯ ⋯ (by rw[UC,<-hl];show h1) (ke ew) ⟨rfl,fin⟩) hs
def Mf:IxR X QY:=by
 intro value slice td s σ H x y v u Q I rx ry h hs;let⟨z,i,c,rfl,rfl,hz,he,q⟩:=h;let⟨t,rfl⟩:=rx;let⟨t',rfl⟩:=ry;let⟨j,h1,h2,h3,h4,h5⟩:=A1 he;let hl:z.cps.toList.length=z.length:=by simp[Str.length]
 rw[hl]at h1 h4 h5;let hn:=nV;show tail_any (typeIs_str s z t) slot_str_getitem.lookup (getItem_str (c:=c) (by let e1:decide (i < -(2 ^ 63:Int))=false:=decide_eq_false ⋯;let e2:decide (i >= 2 ^ 63)=false:=decide_eq_false ⋯;rw[e1,e2,Bool.or_false]) (by rw[h1];simpa using h2) ⟨.str ⟨#[c]⟩,H,I.tok _,⟨_,rfl⟩,q⟩) hs
def Cw(its:x_ q_)(n j:Nat)(u:q_):Vj (·.setIfInBounds j u) {cls:=.type "list",data:=.seq its.toArray n}={cls:=.type "list",data:=.seq (its.set j u).toArray n}:=by simp[Vj]
def Inv.lst{td:gV 0}{σ:St}{H:Hp}{s:r_}{p:s_}{xs:x_ V}(I:H_ s)(h:H p=a_ (.lst xs)):
  ∃(its:x_ q_)(n:Nat),aJ xs its/\s.heap.get? p=a_ {cls:=.type "list",data:=.seq its.toArray n}/\xs.length<=UG:=by
 let⟨z,its,n,r,e⟩:=I.hok p _ h;show⟨its,n,r,e,z⟩
def Inv.lstUpd{p:s_}{xs ys:x_ V}{n':Nat}{f:Obj->Obj}(I:H_ s)(h:H p=a_ (.lst xs))(ho:s.heap.get? p=a_ {cls:=.type "list",data:=.seq its.toArray n})(hf:f {cls:=.type "list",data:=.seq its.toArray n}={cls:=.type "list",data:=.seq its'.toArray n'})(r:aJ ys its')(hz:ys.length<=UG)(t:Nat):
  h_ (R_ p<|.lst ys) {s with heap:=s.heap.update p f,toks:=t}:=by
 let e:(s.heap.update p f).get? p=a_ {cls:=.type "list",data:=.seq its'.toArray n'}:=by rw[Vf f ho (by rw[hf] <;> rfl),hf]
 refine I.write (x:=p) (e:=p) (by rw[h];trivial) (.inl rfl) (λb u hb q=>(Wi _ _<|Va hb).trans q) ⟨_,e⟩ ?_;show⟨hz,its',n',r,e⟩
abbrev Ov:V->V->V->Hp->(Hp->Prop)->Prop:=λo i v H Q=>∃p xs k j,o=.ref p/\i=.int k/\H p=a_ (.lst xs)/\ixN xs.length k=a_ j/\Q (R_ p<|.lst<|xs.set j v)
def set_list:QM X Ov:=by
 intro td s σ H o i v ov iv u Q I ro ri rv h;let⟨p,xs,k,j,rfl,rfl,hp,hj,q⟩:=h;cases ro
 let⟨t,rfl⟩:=ri;let⟨its,n,r,ho,hz⟩:=I.lst hp;let⟨h1,h2,h3,h4⟩:=Dw hj;let hl:=r.length;let hn:=nV;let I':h_ (R_ p<|.lst<|xs.set j v) {s with heap:=s.heap.update p (Vj (·.setIfInBounds j u))}:=I.lstUpd hp ho (Cw its n j u) (r.set rv j) (by rw[U2];show hz) s.toks;by_cases h0:0<=k
 ·let hk:k.toNat=j:=by rw[seqIndex_of h0 h4]at h1;show UW h1
  show PySem.W.ki_setAt ho h0 ⋯ (by rw[UC,<-hl];show h4) (by rw[hk];show⟨_,I',q⟩)
 ·let hk:(k+(its.toArray.size:Int)).toNat=j:=by rw[seqIndex_neg ⋯ h3]at h1;rw[UC,<-hl];show UW h1
  show PySem.W.ki_setBack ho ⋯ (by rw[UC,<-hl];show h3) ⋯ (by rw[hk];show⟨_,I',q⟩)
def A2(lo hi:y_ Int)(n:Nat):(sliceBounds lo hi b_ n).1=((HT.sIx n 0 lo:Nat):Int)/\(sliceBounds lo hi b_ n).2.1=((HT.sIx n n hi:Nat):Int)/\(sliceBounds lo hi b_ n).2.2=1:=by
 refine⟨?_,?_,rfl⟩
 ·cases lo with
  |none=>simp[sliceBounds,HT.sIx]
  |some i=>
   simp only[sliceBounds,HT.sIx,Option.getD_none,show(1:Int)>0 by decide,if_true]
   by_cases h:i<0
   ·simp only[h,if_true] <;> omega
   ·simp only[h,if_false] <;> omega
 ·cases hi with
  |none=>simp[sliceBounds,HT.sIx]
  |some i=>
   simp only[sliceBounds,HT.sIx,Option.getD_none,show(1:Int)>0 by decide,if_true]
   by_cases h:i<0
   ·simp only[h,if_true] <;> omega
   ·simp only[h,if_false] <;> omega
def xQ(its:x_ q_)(lo hi:y_ Int):slicePick its.toArray lo hi b_=((its.drop<|HT.sIx its.length 0 lo).take<|HT.sIx its.length its.length hi-HT.sIx its.length 0 lo).toArray:=by let⟨h1,h2,h3⟩:=A2 lo hi its.toArray.size;unfold slicePick;rw[h1,h2,h3];simp only[sliceRange_one,pick_run,UC] <;> rfl
abbrev Ow(K:Us):V->y_ Int->y_ Int->Hp->VK->Prop:=λx lo hi H Q=>∃a xs,x=.ref a/\SqL K H a xs/\∀p,H p=b_->Q (.ref p) (R_ p<|.lst<|Ba xs lo hi)
def JB:SlR X (Ow X.K):=by
 intro td s σ H x v vl vu lo hi sl Q I rx hs pl pu h;let⟨a,xs,rfl,hx,q⟩:=h;cases rx
 let⟨its,r,ht,hz⟩:=I.list hx;let hlen:=r.length;refine⟨"list",_,slot_list_getitem.lookup,ht.isList.typeIs,?_⟩;refine wpAny_getItem_list_slice ht.isList hs pl pu .none (by simp) ?_ (by rw[UC] <;> omega);rw[xQ,<-hlen];refine⟨.ref<|e_ s,_,I.laid (t':=s.toks) (o:=.lst<|Ba xs lo hi) (λb ob q=>SZ _ q) (Uv _) ?_,rfl,q _<|I.hok.fresh<|Uv _⟩;show⟨U1 (sU xs lo hi) hz,_,0,(r.drop<|W_ 0 lo).take<|W_ xs.length hi-W_ 0 lo,Yo 0⟩
abbrev sV:V->Bool
 |.non=>true
 |.bl _=>true
 |.int _=>true
 |.str _=>true
 |_=>false
abbrev eqV:V->V->Bool
 |.non,.non=>true
 |.bl a,.bl b=>a == b
 |.bl a,.int b=>(if a then 1 else 0) == b
 |.int a,.bl b=>a == (if b then 1 else 0)
 |.int a,.int b=>a == b
 |.str a,.str b=>a == b
 |_,_=>false
def Mh{x:V}{u v:q_}(ry:RelV y u)(rx:RelV x v)(fy:sV y=true)(fx:sV x=true):SeqAt.EqAt A s u v (eqV y x):=by
 cases y with
 |non=>
  cases ry
  cases x with
  |non=>cases rx;show SeqAt.EqAt.same _
  |bl b=>cases rx;show SeqAt.EqAt.none_bool b
  |int b=>let⟨t,rfl⟩:=rx;show SeqAt.EqAt.none_int b t
  |str b=>let⟨t,rfl⟩:=rx;show SeqAt.EqAt.none_str b t
  |_=>exact absurd (show false=true from fx) UH
 |bl a=>
  cases ry
  cases x with
  |non=>cases rx;show SeqAt.EqAt.bool_none a
  |bl b=>cases rx;show SeqAt.EqAt.bool_bool a b
  |int b=>let⟨t,rfl⟩:=rx;show SeqAt.EqAt.bool_int a b t
  |str b=>let⟨t,rfl⟩:=rx;show SeqAt.EqAt.bool_str a b t
  |_=>exact absurd (show false=true from fx) UH
 |int a=>
  let⟨t',rfl⟩:=ry;cases x with
  |non=>cases rx;show SeqAt.EqAt.int_none a t'
  |bl b=>cases rx;show SeqAt.EqAt.int_bool a t' b
  |int b=>let⟨t,rfl⟩:=rx;show SeqAt.EqAt.int_int a t' b t
  |str b=>let⟨t,rfl⟩:=rx;show SeqAt.EqAt.int_str a t' b t
  |_=>exact absurd (show false=true from fx) UH
 |str a=>
  let⟨t',rfl⟩:=ry;cases x with
  |non=>cases rx;show SeqAt.EqAt.str_none a t'
  |bl b=>cases rx;show SeqAt.EqAt.str_bool a t' b
  |int b=>let⟨t,rfl⟩:=rx;show SeqAt.EqAt.str_int a t' b t
  |str b=>let⟨t,rfl⟩:=rx;show SeqAt.EqAt.str_str a t' b t
  |_=>exact absurd (show false=true from fx) UH
 |_=>exact absurd (show false=true from fy) UH
abbrev eqU(x:V)(u:q_):Bool:=match u with
 |.none=>eqV .non x
 |.bool b=>eqV (.bl b) x
 |.int i _=>eqV (.int i) x
 |.str z _=>eqV (.str z) x
 |_=>false
def G0{x:V}{u:q_}(r:RelV y u)(f:sV y=true):eqU x u=eqV y x:=by
 cases y with
 |non=>cases r;rfl
 |bl b=>cases r;rfl
 |int i=>let⟨t,rfl⟩:=r;rfl
 |str z=>let⟨t,rfl⟩:=r;rfl
 |_=>exact absurd (show false=true from f) UH
def pD{x:V}:∀{xs:x_ V}{us:x_ q_},aJ xs us->xs.all sV=true->us.any (eqU x)=xs.any λy=>eqV y x
 |_,_,.nil,_=>rfl
 |y::xs,u::us,.cons r t,f=>by rw[WW,UQ]at f;rw[Xg,Xg,G0 r f.1,pD t f.2]
def lT{A:t_}{s:r_}{x:V}{v:q_}(rx:RelV x v)(fx:sV x=true):∀{xs:x_ V}{us:x_ q_},aJ xs us->xs.all sV=true->∀u∈us,SeqAt.EqAt A s u v (eqU x u)
 |_,_,.nil,_=>λu hu=>by cases hu
 |y::xs,u::us,.cons r t,f=>λu' hu=>by
  rw[WW,UQ]at f;rcases UF.mp hu with rfl|hu
  ·rw[G0 r f.1];show Mh r rx f.1 fx
  ·show lT rx fx t f.2 u' hu
abbrev inV(x:V)(xs:x_ V):Bool:=xs.any λy=>eqV y x
abbrev rIn(K:Us)(neg:Bool):R2:=λx y H Q=>∃p xs,y=.ref p/\(SqL K H p xs\/SqT K H p xs)/\sV x=true/\xs.all sV=true/\Q (.bl<|if neg then !inV x xs else inV x xs) H
def Et:Yg (Vc .In) (rIn X.K false):=by
 intro td s σ H x y v u Q I rx ry h;let⟨p,xs,rfl,hq,fx,fs,q⟩:=h;cases ry
 rcases hq with hq|hq
 ·let⟨its,r,pl,hz⟩:=I.list hq;refine SeqAt.in_listAt (eqU x) pl.isList (λw hw=>lT rx fx r fs w<|ke hw) ⟨.bl _,H,I,rfl,?_⟩;rw[show its.toArray.any (eqU x)=its.any (eqU x) by simp,pD r fs];show q
 ·let⟨its,r,pl,hz⟩:=I.tuple hq;refine SeqAt.in_tupleAt (eqU x) pl (λw hw=>lT rx fx r fs w<|ke hw) ⟨.bl _,H,I,rfl,?_⟩;rw[show its.toArray.any (eqU x)=its.any (eqU x) by simp,pD r fs];show q
def A3:Yg (Vc .NotIn) (rIn X.K true):=by
 intro td s σ H x y v u Q I rx ry h;let⟨p,xs,rfl,hq,fx,fs,q⟩:=h;cases ry
 rcases hq with hq|hq
 ·let⟨its,r,pl,hz⟩:=I.list hq;refine SeqAt.notIn_listAt (eqU x) pl.isList (λw hw=>lT rx fx r fs w<|ke hw) ⟨.bl _,H,I,rfl,?_⟩;rw[show its.toArray.any (eqU x)=its.any (eqU x) by simp,pD r fs];show q
 ·let⟨its,r,pl,hz⟩:=I.tuple hq;refine SeqAt.notIn_tupleAt (eqU x) pl (λw hw=>lT rx fx r fs w<|ke hw) ⟨.bl _,H,I,rfl,?_⟩;rw[show its.toArray.any (eqU x)=its.any (eqU x) by simp,pD r fs];show q
def A4:dJ X (.builtin "len") (λxs H Q=>∃p ys,xs=[.ref p]/\(SqL X.K H p ys\/SqT X.K H p ys)/\Q (.int ys.length) H):=by
 intro td s σ H xs us Q I r h;let⟨p,ys,rfl,hq,q⟩:=h;let⟨u,rfl,rx⟩:=vals1 r;cases rx
 let hn:=nV;rcases hq with hq|hq
 ·let⟨its,r',pl,hz⟩:=I.list hq;let hlen:=r'.length;show Calls.call_len_list pl.isList (by simp only[UC] <;> omega) ⟨.int ys.length,H,I.tok _,⟨s.toks+1,by rw[UC,hlen]⟩,q⟩
 ·let⟨its,r',pl,hz⟩:=I.tuple hq;let hlen:=r'.length;show len_tuple pl (by simp only[UC] <;> omega) ⟨.int ys.length,H,I.tok _,⟨s.toks+1,by rw[UC,hlen]⟩,q⟩
def A5:dJ X (.type "list") (λxs H Q=>∃p ys,xs=[.ref p]/\(SqL X.K H p ys\/SqT X.K H p ys)/\∀l,H l=b_->Q (.ref l) (R_ l<|.lst ys)):=by
 intro td s σ H xs us Q I r h;let⟨p,ys,rfl,hq,q⟩:=h;let⟨u,rfl,rx⟩:=vals1 r;cases rx
 let fin:∀(its:x_ q_),aJ ys its->ys.length<=UG->∀(h':u_)(c':Nat),(∀b o',M_ 0=a_ o'->h'.get? b=a_ o')->
   h'.get? (e_ s)=a_ {cls:=.type "list",dict:=b_,data:=.seq its.toArray c',slots:=#[]}->X3 Q (.ref<|e_ s) {s with heap:=h'}:=λits r' hz h' c' kp e=>
  ⟨.ref<|e_ s,_,I.laid (t':=s.toks) kp (Uv _)<|show Yj _ h' _ (.lst ys) from⟨hz,its,c',r',e⟩,rfl,q _<|I.hok.fresh<|Uv _⟩
 rcases hq with hq|hq
 ·let⟨its,r',pl,hz⟩:=I.list hq;let hlen:=r'.length;let⟨o,ho,hc,n,hd⟩:=pl.isList;show call_list_seq p (.inl rfl) ho hc hd (λh' c' kp e=>fin its r' hz h' c' kp e) (by simp only[UC] <;> omega)
 ·let⟨its,r',pl,hz⟩:=I.tuple hq;let hlen:=r'.length;let⟨o,ho,hc,n,hd⟩:=pl;show call_list_seq p (.inr rfl) ho hc hd (λh' c' kp e=>fin its r' hz h' c' kp e) (by simp only[UC] <;> omega)
def xR:dJ X (.type "tuple") (λxs H Q=>∃p ys,xs=[.ref p]/\((SqL X.K H p ys/\∀l,H l=b_->Q (.ref l) (R_ l<|.tup ys))\/(SqT X.K H p ys/\Q (.ref p) H))):=by
 intro td s σ H xs us Q I r h;let⟨p,ys,rfl,h⟩:=h;let⟨u,rfl,rx⟩:=vals1 r;cases rx
 rcases h with⟨hq,q⟩|⟨hq,q⟩
 ·let⟨its,r',pl,hz⟩:=I.list hq;let hlen:=r'.length;refine call_tuple_list pl.isList (λh' kp=>?_) (by simp only[UC] <;> omega);let I1:H_ {s with heap:=h'}:=I.kept (t':=s.toks) kp;let I2:h_ (R_ h'.objs.size<|.tup ys) {s with heap:=h'.push {cls:=.type "tuple",data:=.seq its.toArray} }:=I1.laid (t':=s.toks) (λb o e=>SZ _ e) (Uv _) (show Yj _ _ _ (.tup ys) from⟨hz,its,r',tX.new _ _⟩)
  show⟨.ref h'.objs.size,_,I2,rfl,q _<|I1.hok.fresh<|Uv _⟩
 ·let⟨its,r',pl,hz⟩:=I.tuple hq;show call_tuple_same pl ⟨.ref p,H,I,rfl,q⟩
abbrev tyV(K:Us)(T:String)(x:V)(H:Hp):Prop:=match x with
 |.str _=>T="str"
 |.int _=>T="int"
 | .ref p=>(T="list" /\ ∃ xs,SqL K H p xs)\/(T="tuple" /\ ∃ o,K.lookup p=a_ o/\o.cls=.type "tuple" /\ o.dict=b_)\/
   (T="dict" /\ ((∃kvs,H p=a_ (.dK kvs))\/∃kvs,H p=a_ (.dT kvs)))\/(T="set" /\ ∃S n,H p=a_ (.set S n))
 |_=>False
def Mj{x:V}{v:q_}(I:H_ s)(r:RelV x v)(ty:tyV X.K T x H):
  s.TypeIs v T/\∀a,v=.ref a->∃ob,s.heap.get? a=a_ ob/\ob.dict=b_:=by
 cases x with
 |str z=>
  let⟨t,rfl⟩:=r;cases(show T="str" from ty)
  show⟨typeIs_str s z t,λ_ e=>nomatch e⟩
 |int i=>
  let⟨t,rfl⟩:=r;cases(show T="int" from ty)
  show⟨typeIs_int s i t,λ_ e=>nomatch e⟩
 |ref p=>
  cases r
  rcases ty with⟨rfl,xs,hq⟩|⟨rfl,o,hk,hc,hd⟩|⟨rfl,hk⟩|⟨rfl,S,n,hk⟩
  ·let⟨its,_,pl,_⟩:=I.list hq;refine⟨pl.isList.typeIs,λa e=>?_⟩;cases e
   let⟨o,n,e,c,hd,_⟩:=pl;show⟨o,e,hd⟩
  ·refine⟨⟨o,I.kIn p o hk,hc⟩,λa e=>?_⟩;cases e
   show⟨o,I.kIn _ o hk,hd⟩
  ·let z:∃o,s.heap.get? p=a_ o/\o.ExactDict:=by
    rcases hk with⟨kvs,hk⟩|⟨kvs,hk⟩
    ·let⟨_,_,_,_,o,_,_,e,ex,_⟩:=I.hok p _ hk;show⟨o,e,ex⟩
    ·let⟨_,_,_,_,o,_,_,e,ex,_⟩:=I.hok p _ hk;show⟨o,e,ex⟩
   let⟨o,e,ex⟩:=z;refine⟨⟨o,e,ex.1⟩,λa e2=>?_⟩;cases e2
   show⟨o,e,ex.2.1⟩
  ·let⟨o,_,_,_,e,ex,_⟩:=I.hok p _ hk;refine⟨⟨o,e,ex.1⟩,λa e2=>?_⟩;cases e2
   show⟨o,e,ex.2.1⟩
 |_=>exact VV ty
abbrev tBM(K:Us)(T:String)(r:V->x_ V->Hp->VK->Prop)(to:TE)(t:TA):TE:=λσ H Q=>to σ H λx H1=>tyV K T x H1/\t σ H1 λxs H2=>r x xs H2 Q
variable{o:v_}{to:TE}{t:TA}{id:String}{r:V->x_ V->Hp->VK->Prop}
def Ox(pa:PlainAttrs T)(slot:Slot T name id)(mn:typeOf (.builtin id)=pure (.type "method_descriptor"))(hm:MtR X id r)(ho:PE X o to)(ha:PA X (e::es) t)
  (bo:Xe o name X.env (eval o X.env)=eval o X.env:=by rfl)
  (fb:((backTo ag (UL (e::es) X.env)).all (λx=>!x.1)&&(backToKw ag (keywordEach [] X.env)).all (λx=>x.1.isSome)
   && decide ((e::es).length+([]:x_ Keyword).length+(if([]:x_ Keyword).isEmpty then 0 else 1)<30))=true:=by rfl)
  (bj:(apos.endLine == ag.line)=true:=by rfl) (hs:UL (e::es) X.env=(false,S_ 0)::U_ 0:=by rfl) (cm:(backTo ag<|U_ 0).any (·.1)=false:=by rfl):
  PE X (.Call (.Attribute o name apos) (e::es) [] ag) (tBM X.K T r to t):=by
 intro td s σ H Q I h;refine wpAny_Call_method_late bo fb bj rfl<|thn (ho td s σ H _ I h) λv s1 z9=>?_;let⟨x,H1,I1,r1,ty,q1⟩:=z9;let⟨h1,h2⟩:=Mj I1 r1 ty;refine⟨T,id,pa,slot,mn,h1,h2,?_⟩;let hA:=ha ag td s1 σ H1 _ I1 q1;rw[hs]at hA⊢;refine Xp (by change(false || (backTo ag<|U_ 0).any (·.1))=false;rw[cm] <;> rfl)<|Calls.evalArgs_plain ?_;show thn hA λus s2 ⟨vs,H2,I2,r2,q2⟩=>hm td s2 σ H2 x vs v us Q I2 r1 r2 q2
end
abbrev MtM(X:Cx)(id:String)(r:V->x_ V->Hp->VK->Prop):Prop:=
 ∀(td:gV 0)(s:r_)(σ:St)(H:Hp)(x:V)(xs:x_ V)(v:q_)(us:x_ q_)(Q:VK),H_ s->RelV x v->aJ xs us->r x xs H Q->
  wpAny (g_ X) X.A (call (.builtin id) (v::us)) (X3 Q) X.xe s
def aJ.one:∀{x:V}{us:x_ q_},aJ [x] us->∃u,us=[u]/\RelV x u
 |_,_,.cons r .nil=>⟨_,rfl,r⟩
variable{t':Nat}
section
variable{l b:s_}{xs ys zs:x_ V}
def Inv.lset{f:Ya 0->Ya 0}(I:H_ s)(hH:H l=a_ (.lst xs))(e:s.heap.get? l=a_ {cls:=.type "list",data:=.seq its.toArray n})(hf:f its.toArray=its'.toArray)(hv:aJ ys its')(hz:ys.length<=UG):
  h_ (R_ l<|.lst ys) {s with heap:=s.heap.update l<|Vj f,toks:=t'}:=by
 let q:=PySem.IsL.update e f;rw[hf]at q;refine I.write (x:=l) (e:=l) (by rw[hH];show trivial) (.inl rfl) (λb' u hb hu=>(Wi s.heap (Vj f)<|Va hb).trans hu) ⟨_,q⟩ ?_;show⟨hz,its',_,hv,q⟩
def Inv.lnew(I:H_ s)(hv:aJ ys its)(hz:ys.length<=UG):
  h_ (R_ (e_ s)<|.lst ys) {s with heap:=s.heap.push {cls:=.type "list",data:=.seq its.toArray},toks:=t'}:=
 I.laid (λ_ _ q=>SZ _ q) (Uv _) ⟨hz,its,0,hv,Yo 0⟩
def Inv.fresh(I:H_ s):H (e_ s)=b_:=I.hok.fresh<|Uv _
def Inv.lstM(I:H_ s)(hH:H l=a_ (.lst xs)):xs.length<=UG/\∃(its:x_ q_)(n:Nat),aJ xs its/\xs.length=its.length/\s.heap.get? l=a_ {cls:=.type "list",data:=.seq its.toArray n}:=by let⟨z,its,n,r,e⟩:=I.hok l _ hH;show⟨z,its,n,r,r.length,e⟩
end
abbrev Dy:V->x_ V->Hp->VK->Prop:=λx vs H Q=>∃l xs y,x=.ref l/\vs=[y]/\H l=a_ (.lst xs)/\xs.length<UG/\Q .non (R_ l<|.lst<|xs++[y])
def yG:MtM X "list.append" Dy:=by
 intro td s σ H x vs v us Q I rx rv h;let⟨l,xs,y,rfl,rfl,hH,hz,q⟩:=h;cases rx
 let⟨u,rfl,ru⟩:=rv.one;let⟨z,its,n,r,hl,e⟩:=I.lstM hH;refine call_meets F.slot_list_append ⟨_,e,rfl⟩ F.entry_list_append (F.args_list_append_2 _ _) (PySem.list_append l its.toArray n u (by rw[UC];omega)) ⟨e,?_⟩;refine⟨.non,_,I.lset (its':=its++[u]) hH e (by simp) (r.append<|.cons ru .nil) ?_,rfl,q⟩;rw[Vm,List.length_singleton];omega
abbrev Oy:R2:=λx y H Q=>∃l b xs zs,x=.ref l/\y=.ref b/\H l=a_ (.lst xs)/\H b=a_ (.lst zs)/\xs.length+zs.length<=UG/\∀p,H p=b_->Q (.ref p) (R_ p<|.lst<|xs++zs)
def Ml:Yg (V6 .Add) Oy:=by
 intro td s σ H x y v u Q I rx ry h;let⟨l,b,xs,zs,rfl,rfl,hH,hB,hz,q⟩:=h;cases rx
 cases ry
 let⟨z,its,n,r,hl,e⟩:=I.lstM hH;let⟨z2,da,n2,r2,nv,e2⟩:=I.lstM hB;refine PySem.P.add_list e e2 ?_ (by rw[UC,UC];omega);let ea:its.toArray++da.toArray=(its++da).toArray:=by simp
 rw[ea];show⟨.ref _,_,I.lnew (t':=s.toks) (r.append r2) (by rw[Vm];omega),rfl,q _ I.fresh⟩
end L2
namespace Att
open PySem PySem.W PySem.Calls PyProof.Rows
variable{P:Params}{h:u_}
def tY:∀(ns:x_ Int)(vs:x_ q_),WellAll P h vs (ns.map WData.int)->IntsAre vs ns:=by
 intro ns
 induction ns with
 |nil=>
  intro vs w;rw[XW]at w;cases w
  show .nil
 |cons n ns ih=>
  intro vs w;rw[UJ]at w;cases w with
  |cons a b=>
   cases a
   show .cons _ _<|ih _ b
variable{args:x_ WData}{l:OpenLaw}{n:Nat}{vals:x_ q_}
def Eu(hn:l.most=a_ n)(jt:l.row.toRowW.claim.pre args=true)(wm:WellAll P h vals args):
  ∃a vs ns,vals=[US a]/\args=[WData.list<|ns.map WData.int]/\h.get? a=a_ {cls:=.type "list",data:=.seq vs.toArray}/\IntsAre vs ns/\ns.length<=n:=by
 let hsh:WShape.hasAll [] args [.list .int]=true:=(pre_splitW jt).1;let hc:l.pre.holds [] { args:=args}=true:=(pre_splitW jt).2;let⟨d,r,rfl,h1,h2⟩:=hasAllW_cons hsh;obtain rfl:=hasAllW_nil h2;let⟨xs,rfl,h3⟩:=hasW_list h1;let⟨ns,rfl⟩:=items_int h3;let hlen:ns.length<=n:=by
  unfold OpenLaw.pre at hc;let h4:(WTm.not<|.lt (.lit<|.int (n:Int))<|.len<|.arg 0).holds [] { args:=[.list<|ns.map .int]}=true:=by let h4:=(holds_andW hc).1;rw[hn]at h4;show h4
  let h5:=condW_of h4<|w_not<|w_lt w_lit<|w_len_list<|w_arg rfl;rw[Uu]at h5;refine Nat.le_of_not_lt λq=>?_;let q':(n:Int)<((ns.length:Nat):Int):=⋯
  first
   |(rw[decide_eq_true q']at h5;show absurd h5<|by decide)
   |(simp at h5;omega)
 cases wm with
 |cons w1 w2=>
  cases w2
  cases w1 with
  |list ho hall=>exact⟨_,_,ns,rfl,rfl,ho,tY ns _ hall,hlen⟩
def Ew(l:OpenLaw)(args:x_ WData):l.row.toRowW.claim.post args (.bool true) args=true:=
 postW_of (r:=l.row.toRowW) (X:=(true == true))
  (show WShape.has [] (.bool true) .bool=true by first|rfl|decide|simp[WShape.has,WShape.arms,WShape.armsAll])
  (show(WTm.eq .res<|.lit<|.bool true).value [] { args:=args,res:=a_<|.bool true,after:=args}=a_ (.bool<|true == true) from w_eq_bool (w_res rfl) w_lit) rfl
variable{XP:(m_ 0)->u_->Prop}{YP:ve->u_->Prop}{loose:x_ Str}
def attach_call{q:vj}{d:DefRec}(hn:l.most=a_ n)(qz:d.params.defaults=[])(call:∀(w:ve)(s₀ s₁:r_)(mg mb:m_ 0)(fa:s_)(o:Obj)(pm cd doc:q_)(a:s_)(vs:x_ q_)(ns:x_ Int),
   Ground q loose [] XP w s₀ mg mb s₁.heap->YP w s₁.heap->
   s₁.heap.get? fa=a_ o->o.data=.func (docDef d.name d.params d.body d.scope pm cd doc)->s₁.heap.CodeRec cd d.name->mg d.name=c_ fa->
   s₁.heap.get? a=a_ {cls:=.type "list",data:=.seq vs.toArray}->IntsAre vs ns->ns.length<=n->s₁.gens=#[]->
   codeAny (model l.prog w) callerA (.call (.ref fa) ⟨[.ref a],[]⟩) (λr s'=>r=.ok (.ret (.bool true))/\OldK s₁.heap s'.heap/\s'.os=s₁.os/\AllBare s'.gens) s₁):
  WalkO q loose XP YP l.row.toRowW d [] (λf vs=>PySem.call f vs):=by
 intro w s₀ s₁ mg mb G Y fa o pm cd doc dV kV ho hd f7 hD hmg hg args vals as jt hlay hrd wm hlo;obtain rfl:dV=.none:=Dflts.none hD qz;obtain rfl:kV=.none:=Dflts.noKw hD;let⟨a,vs,ns,rfl,rfl,m6,hints,hlen⟩:=Eu hn jt wm;refine enter_call<|codeAny_mono (call w s₀ s₁ mg mb fa o pm cd doc a vs ns G Y ho (fd_plain hd) f7 hmg m6 hints hlen hg) λr s' hq=>?_;let⟨rfl,h2,h3,h4⟩:=hq;show⟨.inl ⟨.bool true,.bool true,[],rfl,λ_=>rfl,.bool true,Ew l _,λ_=>⟨List.Pairwise.nil,λ_ hm=>(nomatch hm)⟩⟩,h2,h3,h4⟩
end Att
namespace L2
def yH:∀{vs:x_ q_}{ns:x_ Int},IntsAre vs ns->aJ (ns.map V.int) vs
 |_,_,.nil=>.nil
 |_,_,.cons n t h=>.cons ⟨t,rfl⟩ (yH h)
abbrev G3(H:Hp):Prop:=∀b,H b=b_\/∃o xs,H b=a_ (.frz o<|.lst xs)
variable{CX:CXT}{K:Us}{P:vj}{a:s_}{fd:V7}{mg:m_ 0}{ns:x_ Int}{sp:Sp}{s₁:r_}{w:ve}{x:Str}
def G4{mb:m_ 0}{k:Nat}{fa:s_}{vs:x_ q_}(KX:K.In s₁.heap)(zt:s₁.heap.Ns VI mg)(hb:s₁.heap.Ns builtinsNs mb)(mq:∀x:Str,x≠"__name__" -> mb x=WV x)(u6:s₁.heap.NoLimit)(hg:s₁.gens=#[])(ha:s₁.heap.get? a=a_ {cls:=.type "list",data:=.seq vs.toArray})(hi:IntsAre vs ns)(hl:ns.length<=UG)(hr:eT k callerA)(F:∀base:u_,K.In base->base.Ns VI mg->cB P w K mg base CX k fa fd [x] sp)(p7:∀(s:r_)(u:q_),BindsTo s fd ⟨[u],[]⟩ [(x,u)])(j4:∀H:Hp,G3 H->SqL K H a (ns.map V.int)->sp [.ref a] H (λv _=>v=.bl true) λ_ _ _=>False)(we:∀H e s',CX [] H s₁ (λ_ _ _=>False) e s'->False):
  codeAny (model P w) callerA (.call (.ref fa) ⟨[.ref a],[]⟩) (λr s'=>r=.ok (.ret<|.bool true)/\OldK s₁.heap s'.heap/\s'.os=s₁.os/\AllBare s'.gens) s₁:=by
 let rv:=yH hi;let xk:=hi.length
 -- from an abstract heap in which nothing but the script may be tracked
 let core:∀H:Hp,G3 H->SqL K H a (ns.map V.int)->HOk P w H s₁.heap->(∀b,H b≠b_->b=a)->(H a≠b_->K.lookup a=b_)->
   codeAny (model P w) callerA (.call (.ref fa) ⟨[.ref a],[]⟩) (λr s'=>r=.ok (.ret<|.bool true)/\OldK s₁.heap s'.heap/\s'.os=s₁.os/\AllBare s'.gens) s₁:=by
  intro H hO hS hok hA hK;let fi:∀{b:s_}{o:Obj},s₁.heap.get? b=a_ o->H b=b_->(zY s₁.heap H).get? b=a_ o:=λe n=>FB e n;let se:∀{b:s_}{o:Obj}{es:Array VQ}{ep:Nat},s₁.heap.get? b=a_ o->o.data=.dict es ep->H b=b_:=λ{b o es ep} e d=>by
   cases q:H b with
   |none=>rfl
   |some u=>have e':b=a:=hA b (by rw[q];simp);subst e';rw[ha]at e;cases e;let d':Data.seq vs.toArray _=Data.dict es ep:=d;cases d'
  let ux:∀{b:s_}{m:m_ 0},s₁.heap.Ns b m->(zY s₁.heap H).Ns b m:=λ{b m} ⟨o,es,ep,e,d,r⟩=>⟨o,es,ep,fi e (se e d),d,r⟩;let RY:K.In (zY s₁.heap H):=λb o e=>fi (KX b o e) (by
   cases q:H b with
   |none=>rfl
   |some u=>have e':b=a:=hA b (by rw[q];simp);subst e';rw[hK (by rw[q];simp)]at e;cases e)
  let hM:Mod K mg (zY s₁.heap H):=⟨RY,ux zt,⟨mb,ux hb,mq⟩,let ⟨mc,h1,h2⟩:=u6;⟨mc,ux h1,h2⟩⟩;let e0:xO P w K mg (zY s₁.heap H) callerA [] s₁ H:=⟨rfl,hM,λb o e=>Jg e,Nat.le_of_eq<|Ei _ _,trivial,λb hb=>absurd (show b∈([]:x_ s_) from hb) (by simp),hok,.of_eq hg⟩
  refine codeAny_mono ((F _ RY<|ux zt).run callerA [] s₁ H ⟨[.ref a],[]⟩ [.ref a] [.ref a] _ _ hr e0 (p7 s₁<|.ref a) (.cons rfl .nil)<|j4 H hO hS) λr s' h=>?_;cases r with
  |error e=>exact(we H e s' h).elim
  |ok fl=>
   cases fl with
   |next=>exact VV h
   |brk=>exact VV h
   |cont=>exact VV h
   |ret u=>
    let⟨v,H',os,bare,un,v9,r',q⟩:=h;let q':v=.bl true:=q;subst q';obtain rfl:u=Value.bool true:=r';refine⟨rfl,OldK.of_keep λb o e=>?_,os,bare⟩;cases q:H b with
    |none=>exact un.keep b o e q (by intro z;show absurd (show b∈([]:x_ s_) from z) (by simp)) (by simp)
    |some u=>
     rcases hO b with z|⟨ob,xs,z⟩
     ·rw[q]at z;cases z
     ·let z2:=un.frzs b ob _ z;let⟨e1,_⟩:=hok b _ z;let⟨e2,_⟩:=v9 b _ z2;rw[e]at e1;cases e1;show e2
 cases hk:K.lookup a with
 |some o=>
  -- the script is one of the module's own objects
  let e:=KX a o hk;rw[ha]at e;cases e
  refine core (λ_=>b_) (λ_=>.inl rfl) (.inr ⟨_,vs.toArray,_,hk,rfl,rfl,rfl,by rw[UC,xk];show hl,ke rv⟩) (λb u z=>by let z':(b_:y_ HO)=a_ u:=z;cases z') (λb z=>absurd rfl z) λz=>absurd rfl z
 |none=>
  refine core (λb=>if b=a then a_ (.frz {cls:=.type "list",data:=.seq vs.toArray}<|.lst<|ns.map V.int) else b_) (λb=>?_) (.inl<|.inr ⟨{cls:=.type "list",data:=.seq vs.toArray},X2 0⟩) (λb u z=>?_) (λb z=>?_) λ_=>hk
  ·by_cases hb:b=a
   ·show .inr ⟨_,_,if_pos hb⟩
   ·show .inl (if_neg hb)
  ·by_cases hb:b=a
   ·let z':=(if_pos hb).symm.trans z;cases z'
    subst hb;show⟨ha,by rw[Uu];show hl,vs,_,rv,ha⟩
   ·let z':=(if_neg hb).symm.trans z;cases z'
  ·by_cases hb:b=a
   ·show hb
   ·show absurd (if_neg hb) z
variable{XP:(m_ 0)->u_->Prop}{YP:ve->u_->Prop}{l:PySem.W.OpenLaw}{loose:x_ Str}{n:Nat}
def walk_of{k:Nat}{q:vj}{d:DefRec}{K:Params->Us}{CX:ve->CXT}{sp:ve->Sp}(hn:l.most=a_ n)(ue:n<=UG)(qz:d.params.defaults=[])(hr:eT k callerA)(hY:∀(w:ve)(h:u_),YP w h->(K w.params).In h)(F:∀(w:ve)(mg:m_ 0)(fa:s_)(h:u_),(K w.params).In h->h.Ns VI mg->mg d.name=c_ fa->
   ∃fd:V7,(∀(s:r_)(u:q_),BindsTo s fd ⟨[u],[]⟩ [(x,u)])/\
    ∀base:u_,(K w.params).In base->base.Ns VI mg->cB l.prog w (K w.params) mg base (CX w) k fa fd [x] (sp w))(j4:∀(w:ve)(H:Hp)(a:s_)(ns:x_ Int),ns.length<=n->G3 H->SqL (K w.params) H a (ns.map V.int)->sp w [.ref a] H (λv _=>v=.bl true) λ_ _ _=>False)(we:∀(w:ve)(H:Hp)(s:r_)(e:q_)(s':r_),CX w [] H s (λ_ _ _=>False) e s'->False):
  PySem.W.WalkO q loose XP YP l.row.toRowW d [] (λf vs=>PySem.call f vs):=by
 refine Att.attach_call hn qz λw s₀ s₁ mg mb fa o pm cd doc a vs ns G Y ho hd f7 hmg m6 hints hlen hg=>?_;let KX:=hY w _ Y;let⟨fd,hb,hF⟩:=F w mg fa _ KX G.T.g hmg;show G4 KX G.T.g G.T.b G.T.builtins G.T.nolimit hg m6 hints (U1 hlen ue) hr hF hb (λH hO hS=>j4 w H a ns hlen hO hS) λH e s'=>we w H s₁ e s'
abbrev inClass(s:w_)(j:Nat):w_:=match s with
 |.ClassDef _ _ _ body _ _ _ _ _ _ _=>body.getD j (.Pass ⟨0,0,0,0⟩)
 |_=>.Pass ⟨0,0,0,0⟩
abbrev eX(s:w_):Arguments:=match s with
 |.FunctionDef _ a _ _ _ _ _ _ _ _=>a
 |_=>{ posonlyargs:=[],args:=[],vararg:=b_,kwonlyargs:=[],kw_defaults:=[],kwarg:=b_,defaults:=[]}
abbrev cK(s:w_):x_ w_:=match s with
 |.FunctionDef _ _ b _ _ _ _ _ _ _=>b
 |_=>[]
abbrev aS(s:w_):Scope:=match s with
 |.FunctionDef _ _ _ _ _ _ sc _ _ _=>sc
 |_=>{ kind:=.function,names:=[],isGenerator:=false,isCoroutine:=false}
@[reducible]def CX0:CXT:=λ_ _ _ _ _ _=>False
@[reducible]def E0:XK:=λ_ _ _=>False
variable{X:Cx}
def Bb:nW CX0 X E0:=λ_ _ _ _ _ _ _ h=>h.elim
structure Fun(K:Us)(x qual:Str)(st:w_)(f:s_)(fd:V7):Prop where
 ex:∃(oc:q_)(od:y_ s_)(kV doc pm:q_)(an:y_ s_)(cdv ct:q_)(osl:l_ 0),
  fd=We x qual (eX st) (cK st) (aS st) .none kV doc pm an cdv ct/\K.lookup f=some ⟨oc,od,.func fd,osl⟩/\X0 K cdv qual=true
 kp:Wo K (.ref f)=true
variable{N ps:x_ Str}{qual:Str}{st:w_}
def Fun.ok{base:u_}{f:s_}{k:Nat}(F:Fun K x qual st f fd)(S:pC N ps (aS st))(len:∀vs H Q E,sp vs H Q E->vs.length=ps.length)(ix:∀(cdv:q_)(A:t_)(outer:x_ Env)(s:r_)(H:Hp)(vs:x_ V)(Q:VK)(E:XK),eT k (A.deeper (envOfC qual (aS st) (e_ s) f cdv))->sp vs H Q E->
   ∃t,PSs (xP CX0 P w K mg base N qual (aS st) f cdv A outer s H E).nox (cK st) t/\t { nx:=λ_ H'=>Q .non H',rt:=Q} (start N vs) H):cB P w K mg base CX0 (k+1) f fd ps sp:=by
 let⟨oc,od,kV,doc,pm,an,cdv,ct,osl,rfl,lk,f7⟩:=F.ex;refine Os lk f7 S len λA outer s H vs Q E hr j4=>?_;let⟨t,h,q⟩:=ix cdv A outer s H vs Q E hr j4;show⟨t,h.nox,q⟩
def Fun.binds{f:s_}(F:Fun K x qual st f fd)(h:∀(kV doc pm:q_)(an:y_ s_)(cdv ct:q_)(us:x_ q_),us.length=ps.length->bindArgs (We x qual (eX st) (cK st) (aS st) .none kV doc pm an cdv ct) ⟨us,[]⟩=pure (ps.zip us)):Binds K fd ps []:=by let⟨oc,od,kV,doc,pm,an,cdv,ct,osl,rfl,lk,f7⟩:=F.ex;show .all<|h kV doc pm an cdv ct
variable{an od:y_ s_}{cdv ct doc pm:q_}{osl:l_ 0}
def Cy{f:s_}{oc:q_}{kV:q_}(l:K.lookup f=a_ ⟨oc,od,.func<|We x qual (eX st) (cK st) (aS st) .none kV doc pm an cdv ct,osl⟩)(c:X0 K cdv qual=true)(k:Wo K (.ref f)=true):Fun K x qual st f (We x qual (eX st) (cK st) (aS st) .none kV doc pm an cdv ct):=⟨⟨oc,od,kV,doc,pm,an,cdv,ct,osl,rfl,l,c⟩,k⟩
variable{A:t_}
def Oz{k:Nat}(hr:eT k A):A.units+1<cLine:=Nat.lt_of_le_of_lt (Nat.add_le_add_left (by decide:1<=64) _) hr.units
variable{B:Prop}
def Ex{A:Prop}(h:B):if false=true then A else B:=by rw[if_neg UH];show h
def Ey{A:Prop}(h:A):if true=true then A else B:=by rw[X2 0];show h
abbrev Bc(H H':Hp):Prop:=∀b o,H b=a_ o->H' b=a_ o
variable{y:V}
section
variable{κ:Type}[Yv 0]
abbrev lP(kvs:x_ (κ×V))(k:κ):y_ V:=(kvs.find? λkv=>decide (kv.1=k)).map (·.2)
abbrev putK(kvs:x_ (κ×V))(k:κ)(v:V):x_ (κ×V):=if(kvs.any λkv=>decide (kv.1=k))=true then kvs.map (λkv=>if kv.1=k then(kv.1,v) else kv) else kvs++[(k,v)]
def pE{p:κ×V}{r:x_ (κ×V)}{k:κ}(e:p.1=k):lP (p::r) k=a_ p.2:=by simp[lP,Wt,e]
def pF{p:κ×V}{r:x_ (κ×V)}{k:κ}(e:¬ p.1=k):lP (p::r) k=lP r k:=by simp[lP,Wt,e]
def uV(k:κ):∀kvs:x_ (κ×V),(kvs.any λkv=>decide (kv.1=k))=(lP kvs k).isSome
 |[]=>rfl
 |p::r=>by
  rw[Xg];by_cases e:p.1=k
  ·simp only[pE e,decide_eq_true e,Bool.true_or,Xr]
  ·rw[pF e,decide_eq_false e,Bool.false_or];show uV k r
def sW(kvs:x_ (κ×V))(k:κ)(v:V):(putK kvs k v).length<=kvs.length+1:=by
 unfold putK;split
 ·rw[Uu];omega
 ·rw[Vm,VA,List.length_nil];omega
def lN.isSome_eq{o:y_ V}{u:y_ q_}(r:lN o u):o.isSome=u.isSome:=by
 cases o with
 |none=>cases u with
  |none=>rfl
  |some _=>exact(show False from r).elim
 |some _=>cases u with
  |none=>exact(show False from r).elim
  |some _=>rfl
def lN.getD{o:y_ V}{u:y_ q_}{d:V}{d':q_}(r:lN o u)(rd:RelV d d'):RelV (o.getD d) (u.getD d'):=by
 cases o with
 |none=>cases u with
  |none=>exact rd
  |some _=>exact(show False from r).elim
 |some _=>cases u with
  |none=>exact(show False from r).elim
  |some _=>exact r
def KV.val{kvs:x_ (κ×V)}{vs:x_ (κ×q_)}(r:KV kvs vs)(k:κ):lN (lP kvs k) (valueAt vs k):=by
 unfold KV at r
 induction r with
 |nil=>exact Wl
 | @cons p q ps qs h t ih=>
  let⟨h1,h2⟩:=h;by_cases e:p.1=k
  ·let e':q.1=k:=h1.symm.trans e;let b:valueAt (q::qs) k=a_ q.2:=by simp[valueAt,Wt,e']
   rw[pE e,b];show h2
  ·let e':¬ q.1=k:=λz=>e<|h1.trans z;let b:valueAt (q::qs) k=valueAt qs k:=by simp[valueAt,Wt,e']
   rw[pF e,b];show ih
def KV.any{kvs:x_ (κ×V)}{vs:x_ (κ×q_)}(r:KV kvs vs)(k:κ):(kvs.any λkv=>decide (kv.1=k))=vs.any λkv=>decide (kv.1=k):=by
 unfold KV at r
 induction r with
 |nil=>rfl
 |cons h t ih=>rw[Xg,Xg,ih,h.1]
def KV.repl{kvs:x_ (κ×V)}{vs:x_ (κ×q_)}(r:KV kvs vs)(k:κ){u:q_}(ry:RelV y u):
  KV (kvs.map λkv=>if kv.1=k then(kv.1,y) else kv) (vs.map λkv=>if kv.1=k then(kv.1,u) else kv):=by
 unfold KV at r⊢
 induction r with
 |nil=>exact .nil
 | @cons p q ps qs h t ih=>
  rw[UJ,UJ];refine .cons ?_ ih;let⟨h1,h2⟩:=h;by_cases e:p.1=k
  ·rw[if_pos e,if_pos<|h1.symm.trans e];show⟨h1,ry⟩
  ·rw[if_neg e,if_neg<|λz=>e<|h1.trans z];show⟨h1,h2⟩
def KV.put{kvs:x_ (κ×V)}{vs:x_ (κ×q_)}(r:KV kvs vs)(k:κ){u:q_}(ry:RelV y u):KV (putK kvs k y) (stored vs k u):=by
 unfold putK stored;rw[r.any k];by_cases e:(vs.any λkv=>decide (kv.1=k))=true
 ·rw[if_pos e,if_pos e];show r.repl k ry
 ·rw[if_neg e,if_neg e];show Paired.snoc r ⟨rfl,ry⟩
def KV.length{kvs:x_ (κ×V)}{vs:x_ (κ×q_)}(r:KV kvs vs):kvs.length=vs.length:=Ve r
end
def sX{k:Key}{u:q_}(r:RelV (kV k) u):(aV P w).is k u=true:=by
 cases k with
 |inl i=>let⟨t,e⟩:=(show ∃t,u=Value.int i t from r);subst e;show B0 P w i t
 |inr x=>let⟨t,e⟩:=(show ∃t,u=Value.str x t from r);subst e;show sR P w x t
def yI{P:vj}{w:ve}:∀{ks:x_ Key}{us:x_ q_},aJ (ks.map kV) us->ItemsAre (aV P w) ks us
 |[],_,r=>by rw[XW]at r;cases r;show .nil
 |k::ks,_,r=>by
  rw[UJ]at r;cases r with
  |cons h t=>exact .cons (sX h)<|yI t
@[reducible]def KT(H:Hp):x_ (x_ Key×V)->x_ (x_ Key×s_×q_)->Prop:=Paired λp q=>p.1=q.1/\H q.2.1=a_ (.tup<|p.1.map kV)/\RelV p.2 q.2.2
variable{H:Hp}
def KT.val{kvs:x_ (x_ Key×V)}{xs:x_ (x_ Key×s_×q_)}(r:KT H kvs xs)(k:x_ Key):lN (lP kvs k) ((atKey xs k).map (·.2)):=by
 induction r with
 |nil=>exact Wl
 | @cons p q ps qs h t ih=>
  let⟨h1,_,h2⟩:=h;by_cases e:p.1=k
  ·let e':q.1=k:=h1.symm.trans e;let b:atKey (q::qs) k=a_ q.2:=by simp[atKey,Wt,e']
   rw[pE e,b];show h2
  ·let e':¬ q.1=k:=λz=>e<|h1.trans z;let b:atKey (q::qs) k=atKey qs k:=by simp[atKey,Wt,e']
   rw[pF e,b];show ih
def KT.repl{kvs:x_ (x_ Key×V)}{xs:x_ (x_ Key×s_×q_)}(r:KT H kvs xs)(k:x_ Key){u:q_}(ry:RelV y u):
  KT H (kvs.map λkv=>if kv.1=k then(kv.1,y) else kv) (xs.map<|putAt k u):=by
 induction r with
 |nil=>exact .nil
 | @cons p q ps qs h t ih=>
  rw[UJ,UJ];refine .cons ?_ ih;let⟨h1,h2,h3⟩:=h;unfold putAt;by_cases e:p.1=k
  ·rw[if_pos e,if_pos<|h1.symm.trans e];show⟨h1,h2,ry⟩
  ·rw[if_neg e,if_neg<|λz=>e<|h1.trans z];show⟨h1,h2,h3⟩
def KT.put{kvs:x_ (x_ Key×V)}{xs:x_ (x_ Key×s_×q_)}(r:KT H kvs xs)(k:x_ Key){b:s_}{u:q_}(hb:H b=a_ (.tup<|k.map kV))(ry:RelV y u):
  KT H (putK kvs k y) (storedH xs k b u):=by
 let e:(kvs.any λkv=>decide (kv.1=k))=(atKey xs k).isSome:=by rw[uV,(r.val k).isSome_eq,Wm]
 unfold putK storedH;rw[e];by_cases q:(atKey xs k).isSome=true
 ·rw[if_pos q,if_pos q];show r.repl k ry
 ·rw[if_neg q,if_neg q];show Paired.snoc r ⟨rfl,hb,ry⟩
variable{H':Hp}
def KT.keeps{kvs:x_ (x_ Key×V)}{xs:x_ (x_ Key×s_×q_)}(r:KT H kvs xs)(ht:∀b ys,H b=a_ (.tup ys)->H' b=a_ (.tup ys)):KT H' kvs xs:=Paired.mapP r λ_ _ z=>⟨z.1,ht _ _ z.2.1,z.2.2⟩
def Lq{h:u_}{u:HO}(ok:HOk P w H h)(e:Rd H a u):bM P w H h a u:=e.ok ok
def sY{h:u_}{kvs:x_ (Key×V)}(ok:HOk P w H h)(e:Rd H a (.dK kvs)):kvs.length<=UG/\(a == VM)=false/\∃vs,KV kvs vs/\h.DictOf (aV P w) a vs:=show bM P w H h a (.dK kvs) from Lq ok e
def Be{h:u_}{kvs:x_ (Key×V)}(ok:HOk P w H h)(e:H a=a_ (.dK kvs)):kvs.length<=UG/\(a == VM)=false/\∃vs,KV kvs vs/\h.DictOf (aV P w) a vs:=sY ok<|.inl e
def nX{h:u_}{ks:x_ Key}(ok:HOk P w H h)(e:H a=a_ (.tup<|ks.map kV)):(tupleKind<|aV P w).is h ks a:=by
 let⟨_,its,r,o,h1,h2,⟨n,h3⟩,_⟩:=(show bM P w H h a (.tup<|ks.map kV) from ok a _ e)
 show⟨o,its.toArray,n,h1,h2,h3,by simpa using yI r⟩
def uW{h:u_}{kvs:x_ (x_ Key×V)}(ok:HOk P w H h)(e:Rd H a (.dT kvs)):kvs.length<=UG/\(a == VM)=false/\
  ∃xs,KT H kvs xs/\h.DictOfH (tupleKind<|aV P w) a xs:=by
 let⟨z,y,xs,r,o,es,ep,h1,h2,h3,h4,h5⟩:=(show bM P w H h a (.dT kvs) from Lq ok e)
 refine⟨z,y,xs,r,o,es,ep,h1,h2,h3,h4,λx hx=>?_,h5⟩;let all:∀{l:x_ (x_ Key×V)}{m:x_ (x_ Key×s_×q_)},KT H l m->∀x∈m,(tupleKind<|aV P w).is h x.1 x.2.1:=by
  intro l m q
  induction q with
  |nil=>intro x hx;show nomatch hx
  | @cons p q ps qs hq t ih=>
   intro x hx;rcases UF.mp hx with e|hx
   ·subst e;show nX ok (by rw[<-hq.1];show hq.2.1)
   ·show ih x hx
 show all r x hx
def OA{h:u_}{kvs:x_ (x_ Key×V)}(ok:HOk P w H h)(e:H a=a_ (.dT kvs)):kvs.length<=UG/\(a == VM)=false/\
  ∃xs,KT H kvs xs/\h.DictOfH (tupleKind<|aV P w) a xs:=uW ok<|.inl e
abbrev nY(H:Hp)(a:s_)(y:V)(r:y_ V):Prop:=(∃kvs k,Rd H a (.dK kvs)/\y=kV k/\r=lP kvs k)\/∃kvs k b,Rd H a (.dT kvs)/\y=.ref b/\H b=a_ (.tup<|k.map kV)/\r=lP kvs k
abbrev Mm(H:Hp)(a:s_)(y v:V)(H':Hp):Prop:=
 (∃kvs k,H a=a_ (.dK kvs)/\y=kV k/\kvs.length<UG/\H'=R_ a (.dK<|putK kvs k v))\/
 ∃kvs k b,H a=a_ (.dT kvs)/\y=.ref b/\H b=a_ (.tup<|k.map kV)/\kvs.length<UG/\H'=R_ a (.dT<|putK kvs k v)
def nY.k{H:Hp}{a:s_}{kvs:x_ (Key×V)}{k:Key}(e:H a=a_ (.dK kvs)):nY H a (kV k) (lP kvs k):=.inl ⟨kvs,k,.inl e,rfl,rfl⟩
def Mm.k{H:Hp}{a:s_}{kvs:x_ (Key×V)}{k:Key}{v:V}(e:H a=a_ (.dK kvs))(hl:kvs.length<UG):Mm H a (kV k) v (R_ a<|.dK<|putK kvs k v):=.inl ⟨kvs,k,e,rfl,hl,rfl⟩
variable{td:gV 0}{s:r_}{σ:St}
def Inv.big(I:H_ s):VM<(e_ s):=by let h:VI<(e_ s):=(I.mod.glob.keeps I.bk).lt;show Nat.lt_trans (by decide) h
variable{E Q:f_ 0}{v:V}
def Ez{u:q_}(hu:A.units+1<cLine)(I:H_ s)(g:nY H a y (a_ v))(ry:RelV y u)(h:∀w' s',H_ s'->RelV v w'->Q w' s'):
  wpAny (g_ X) A (getItem (.ref a) u) Q E s:=by
 rcases g with⟨kvs,k,e,ey,l⟩|⟨kvs,k,b,e,ey,eb,l⟩
 ·subst ey;let⟨z,hd,vs,rel,dd⟩:=sY I.hok e;let⟨w',hw,dh⟩:=lN.some_of (v:=v) (o:=valueAt vs k) (by rw[l];show rel.val k);show wpAny_getItem_of (sX ry) dd.mapOf hw<|h w' _ (I.tok _) dh
 ·subst ey;cases(show u=US b from ry)
  let⟨z,hd,xs,rel,dd⟩:=uW I.hok e;let⟨w',hw,dh⟩:=lN.some_of (v:=v) (o:=(atKey xs k).map (·.2)) (by rw[l];show rel.val k);let⟨p,hp,ie⟩:=UI.mp hw;refine wpAny_getItem_heap (WX hu) (nX I.hok eb) dd hp ?_;rw[ie];show h w' _ (I.tok _) dh
def QZ{u:q_}{o:y_ V}(hu:A.units+1<cLine)(I:H_ s)(g:nY H a y o)(ry:RelV y u)(h:∀s',H_ s'->Q (.bool o.isSome) s'):
  wpAny (g_ X) A (Vc .In u<|.ref a) Q E s:=by
 rcases g with⟨kvs,k,e,ey,l⟩|⟨kvs,k,b,e,ey,eb,l⟩
 ·subst ey;let⟨z,hd,vs,rel,dd⟩:=sY I.hok e;refine wpAny_in_of (sX ry) hd dd.mapOf ?_;rw[<-(rel.val k).isSome_eq,<-l];show h _<|I.tok _
 ·subst ey;cases(show u=US b from ry)
  let⟨z,hd,xs,rel,dd⟩:=uW I.hok e;refine wpAny_in_heap (WX hu) (nX I.hok eb) hd dd ?_;let q:=(rel.val k).isSome_eq;rw[Wm]at q;rw[<-q,<-l];show h _<|I.tok _
def JC{u:q_}{o:y_ V}(hu:A.units+1<cLine)(I:H_ s)(g:nY H a y o)(ry:RelV y u)(h:∀s',H_ s'->Q (.bool<|!o.isSome) s'):
  wpAny (g_ X) A (Vc .NotIn u<|.ref a) Q E s:=by
 rcases g with⟨kvs,k,e,ey,l⟩|⟨kvs,k,b,e,ey,eb,l⟩
 ·subst ey;let⟨z,hd,vs,rel,dd⟩:=sY I.hok e;refine wpAny_notIn_of (sX ry) hd dd.mapOf ?_;rw[<-(rel.val k).isSome_eq,<-l];show h _<|I.tok _
 ·subst ey;cases(show u=US b from ry)
  let⟨z,hd,xs,rel,dd⟩:=uW I.hok e;refine wpAny_notIn_heap (WX hu) (nX I.hok eb) hd dd ?_;let q:=(rel.val k).isSome_eq;rw[Wm]at q;rw[<-q,<-l];show h _<|I.tok _
variable{h':u_}{t':Nat}
def pG{ob:HO}(I:H_ s)(mu:Mut (H a))(hs:V1 a s.heap h')(he:∃q,h'.get? a=a_ q)(new:Yj (R_ a ob) h' a ob):
  h_ (R_ a ob) {s with heap:=h',toks:=t'}:=
 I.write (x:=a) (e:=a) mu (.inl rfl) (λb q hb z=>(hs.2 b hb).trans z) he new
def Mn{kvs:x_ (Key×V)}{vs:x_ (Key×q_)}(z:kvs.length<=UG)(hd:(a == VM)=false)(rel:KV kvs vs)(dd:h'.DictOf (aV P w) a vs):
  bM P w H' h' a (.dK kvs):=⟨z,hd,vs,rel,dd⟩
def EA{u:q_}{r:q_}{Q:jn Unit}(hu:A.units+1<cLine)(I:H_ s)(g:Mm H a y v H')(ry:RelV y u)(rv:RelV v r)(h:∀s',h_ H' s'->Q () s'):
  wpAny (g_ X) A (setItem (.ref a) u r) Q E s:=by
 rcases g with⟨kvs,k,e,ey,l,eH⟩|⟨kvs,k,b,e,ey,eb,l,eH⟩
 ·subst ey eH;let⟨z,hd,vs,rel,dd⟩:=Be I.hok e;let hz:vs.length<=UG:=by rw[<-rel.length];show z
  let hl:(putK kvs k v).length<=UG:=by have:=sW kvs k v;omega
  refine wpAny_setItem_pairs (hsz:=hz) (sX ry) dd λh' je hs=>h _ ?_;let he:∃q,h'.get? a=a_ q:=let ⟨q,_,_,hq,_⟩:=je;⟨q,hq⟩;show pG I (by rw[e];show Wl) hs he<|Mn hl hd (rel.put k rv) je
 ·subst ey eH;cases(show u=US b from ry)
  let⟨z,hd,xs,rel,dd⟩:=OA I.hok e;let hz:xs.length<=UG:=by rw[<-Ve rel];show z
  let hl:(putK kvs k v).length<=UG:=by have:=sW kvs k v;omega
  refine wpAny_setItem_heap (hsz:=hz) (WX hu) (nX I.hok eb) dd λh' je hs=>h _ ?_;let⟨q,es,ep,hq,h2,h3,h4,_,h5⟩:=je;refine pG I (by rw[e];show Wl) hs ⟨q,hq⟩ ⟨hl,hd,_,(rel.put k eb rv).keeps λc ys ec=>?_,q,es,ep,hq,h2,h3,h4,h5⟩;rw[aH<|Oa ec e<|λz=>nomatch z];show ec
def OB{kvs:x_ (Key×V)}(I:H_ s)(e:Rd H a (.dK kvs))(h:∀t s',H_ s'->Q (.int kvs.length t) s'):wpAny (g_ X) A (call (.builtin "len") [.ref a]) Q E s:=by let⟨z,hd,vs,rel,dd⟩:=sY I.hok e;refine call_len_dict hd dd (by rw[<-rel.length];rw[Vs]at z;omega) ?_;rw[<-rel.length];show h _ _<|I.tok _
def Bf{o:y_ V}(I:H_ s)(g:nY H a y o):s.TypeIs (.ref a) "dict" := by
 rcases g with⟨kvs,k,e,_,_⟩|⟨kvs,k,b,e,_,_,_⟩
 ·let⟨_,_,vs,_,dd⟩:=sY I.hok e;show dd.typeIs
 ·let⟨_,_,xs,_,dd⟩:=uW I.hok e;show dd.typeIs
def G5(h:u_)(hb:VM<h.objs.size):bM P w H (h.push {cls:=.type "dict",data:=.dict #[]}) h.objs.size (.dK []):=⟨U5 _,beq_eq_false_iff_ne.mpr<|Va<|UR hb,[],.nil,Heap.DictOf.new h⟩
abbrev Mp:TE:=λ_ H Q=>∀p,H p=b_->Q (.ref p) (R_ p<|.dK [])
variable{pos:Pos}
def G6:PE X (.Dict [] [] pos) Mp:=λtd s σ H Q I h=>wpAny_Dict_empty ⟨.ref<|e_ s,_,I.laid (a:=(e_ s)) (o:=.dK []) (t':=s.toks) (λ_ _ q=>SZ _ q) (Uv _)<|G5 s.heap I.big,rfl,h _<|I.hok.fresh<|Uv _⟩
section
variable{d:V}{u r:q_}{o:y_ V}
def Mq(hu:A.units+1<cLine)(I:H_ s)(g:nY H a y o)(ry:RelV y u)(h:∀w' s',H_ s'->RelV (o.getD .non) w'->Q w' s'):
  wpAny (g_ X) A (call (.builtin "dict.get") [.ref a,u]) Q E s:=by
 rcases g with⟨kvs,k,e,ey,l⟩|⟨kvs,k,b,e,ey,eb,l⟩
 ·subst ey;let⟨z,hd,vs,rel,dd⟩:=sY I.hok e;refine WG Vw dd.typeIs VW (Xh _ _) (meets_dict_get (aV X.prog X.w) a (sX ry) hd) ⟨_,dd.mapOf,h _ _ (I.tok _) ?_⟩;rw[l];show(rel.val k).getD rfl
 ·subst ey;cases(show u=US b from ry)
  let⟨z,hd,xs,rel,dd⟩:=uW I.hok e;refine WG Vw dd.typeIs VW (Xh _ _) (meetsH_dict_get (tupleKind<|aV X.prog X.w) a b hd) ⟨WX hu,k,xs,nX I.hok eb,dd,h _ _ (I.tok _) ?_⟩;rw[l];show(rel.val k).getD rfl
def Mr(hu:A.units+1<cLine)(I:H_ s)(g:nY H a y o)(ry:RelV y u)(rd:RelV d r)(h:∀w' s',H_ s'->RelV (o.getD d) w'->Q w' s'):
  wpAny (g_ X) A (call (.builtin "dict.get") [.ref a,u,r]) Q E s:=by
 rcases g with⟨kvs,k,e,ey,l⟩|⟨kvs,k,b,e,ey,eb,l⟩
 ·subst ey;let⟨z,hd,vs,rel,dd⟩:=sY I.hok e;refine WG Vw dd.typeIs VW (PySem.F.args_dict_get_3 _ _ _) (meets_dict_get_default (aV X.prog X.w) a (sX ry) hd r) ⟨_,dd.mapOf,h _ _ (I.tok _) ?_⟩;rw[l];show(rel.val k).getD rd
 ·subst ey;cases(show u=US b from ry)
  let⟨z,hd,xs,rel,dd⟩:=uW I.hok e;refine WG Vw dd.typeIs VW (PySem.F.args_dict_get_3 _ _ _) (meetsH_dict_get_default (tupleKind<|aV X.prog X.w) a b hd r) ⟨WX hu,k,xs,nX I.hok eb,dd,h _ _ (I.tok _) ?_⟩;rw[l];show(rel.val k).getD rd
end
def EB:dJ X (.builtin "len") (λxs H Q=>∃a kvs,xs=[V.ref a]/\H a=a_ (.dK kvs)/\Q (.int kvs.length) H):=by
 intro td s σ H xs us Q I r h;let⟨a,kvs,rfl,ha,q⟩:=h;let⟨u,rfl,ru⟩:=vals1 r;cases ru
 show OB I (.inl ha) λt s' I'=>⟨.int kvs.length,H,I',⟨t,rfl⟩,q⟩
abbrev Dz(ifs:x_ v_)(env:Env):Sem Bool:=forIn ifs true λc r=>if r=true then do let ok <-isTrue c env (eval c env);pure (ForInStep.yield ok) else pure (ForInStep.yield r)
variable{R:jn Result}{env:Env}{ifs:x_ v_}{iter:v_}{prog:vj}{scope:Scope}
def A6{elt target:v_}{it acc:q_}(I:jn Nat)(turn:∀n s,I n s->p_ (pyNext it) (λr s₁=>match r with
   |none=>R (.ok .next) s₁
   | some v=>p_ (letOwnedTupleGo target it v) (fun _ Sl=>p_ (assign target env v) (fun _ s₂=>
     p_ (Dz ifs env) (λok s₃=>
      if ok=true then k_ prog w A (eval elt env) (λx s₄=>p_ (call (.builtin "list.append") [acc,x]) (λ_ s₅=>∃m,m<n/\I m s₅) (λ_ _=>False) s₄) (λ_ _=>False) s₃
      else ∃m,m<n/\I m s₃) (λ_ _=>False) s₂) (λ_ _=>False) Sl) (λ_ _=>False) s₁) (λ_ _=>False) s)(n:Nat)(h:I n s):
  codeAny (model prog w) A (.compLoop (.ListComp elt [⟨target,iter,ifs,0⟩] scope pos) 0 it acc env) R s:=by
 refine codeAny_loop rfl I (λn s hI=>?_) n h
 show wpAny _ A ((compTurn (.ListComp elt [⟨target,iter,ifs,0⟩] scope pos) 0 it acc env).onRaise (λx=>do noteFrame x env;theTreesLotGoes x)) _ _ s
 refine wpAny_noted ?_;rw[compTurn_list];refine SB<|wpAny_standAt<|SB<|WH (turn n s hI) (λr s₁ h₁=>?_) λ_ _ h'=>h'.elim;cases r with
 |none=>exact SL h₁
 |some v=>
  refine SB<|WH h₁ (λ_ Sl SJ=>?_) λ_ _ h'=>h'.elim;refine SB<|WH SJ (λ_ s₂ h₂=>SB<|WH h₂ (λok s₃ h₃=>?_) λ_ _ h'=>h'.elim) λ_ _ h'=>h'.elim;cases ok with
  |false=>exact SL ⟨rfl,h₃⟩
  |true=>exact SB<|SB<|WH h₃ (λx s₄ h₄=>SB (WH h₄ (λ_ s₅ h₅=>SL (SL ⟨rfl,h₅⟩)) λ_ _ h'=>h'.elim)) λ_ _ h'=>h'.elim
abbrev gR(cells:x_ (Str×s_)):x_ (Str×Xq)->x_ (Str×s_)->x_ (Str×s_)
 |[],cs=>cs
 |(n,k)::r,cs=>gR cells r (if(k == Vn)=true then(n,(cells.lookup n).getD 0)::cs else cs)
def xS(h:∀y∈scope.names,y.2=Vn->∃c,env.cells.lookup y.1=a_ c):closureFor scope env=pure (gR env.cells scope.names []):=by
 have go:∀(names:x_ (Str×Xq))(cs:x_ (Str×s_)),(∀y∈names,y.2=Vn->∃c,env.cells.lookup y.1=a_ c)->
   (forIn names cs λ(x:Str×Xq)(r:x_ (Str×s_))=>match x with
    |(name,kind)=>if(kind == Vn)=true then(do let y <-cellOf env name;pure (ForInStep.yield ((name,y)::r))) else(pure (ForInStep.yield r):Sem _))=(pure (gR env.cells names cs):Sem _):=by
  intro names
  induction names with
  |nil=>intro cs _;rfl
  |cons y r ih=>
   intro cs hy
   let⟨n,k⟩:=y
   rw[List.forIn_cons]
   have Io:=λSQ=>ih SQ λy hm=>hy y<|Uw _ hm
   by_cases hk:(k == Vn)=true
   ·let⟨c,hc⟩:=hy (n,k) Uy (ke hk)
    have e1:cellOf env n=pure c:=by unfold cellOf;rw[show env.cells.lookup n=a_ c from hc]
    have e2:gR env.cells ((n,k)::r) cs=gR env.cells r ((n,c)::cs):=by
     show gR env.cells r (if(k == Vn)=true then _ else _)=_
     rw[if_pos hk,show env.cells.lookup n=a_ c from hc];rfl
    rw[e2,<-Io ((n,c)::cs)]
    simp only[hk,if_true,e1,pure_bind]
   ·have e2:gR env.cells ((n,k)::r) cs=gR env.cells r cs:=by
     show gR env.cells r (if(k == Vn)=true then _ else _)=_
     rw[if_neg hk]
    rw[e2,<-Io cs]
    simp only[hk,if_false,pure_bind]
    try rfl
 have:=go scope.names [] h
 unfold closureFor
 simpa using this
def sZ{cells:x_ (Str×s_)}{x:Str}{c:s_}:∀(names:x_ (Str×Xq))(cs:x_ (Str×s_)),(gR cells names cs).lookup x=a_ c->cs.lookup x=a_ c\/(∃y∈names,y.1=x/\y.2=Vn/\c=(cells.lookup x).getD 0)
 |[],_,h=>.inl h
 |(n,k)::r,cs,h=>by
  rcases sZ r _ h with h1|⟨y,hy,e⟩
  ·by_cases hk:(k == Vn)=true
   ·rw[if_pos hk]at h1;by_cases hx:x=n
    ·subst hx;simp only[UU,beq_self_eq_true]at h1;show .inr ⟨(x,k),Uy,rfl,ke hk,(UW h1).symm⟩
    ·have:(x == n)=false:=by simpa using hx
     simp only[UU,this]at h1;show .inl h1
   ·rw[if_neg hk]at h1;show .inl h1
  ·show .inr ⟨y,Uw _ hy,e⟩
def uX{cells:x_ (Str×s_)}{x:Str}:∀(names:x_ (Str×Xq))(cs:x_ (Str×s_)),((∃c,cs.lookup x=a_ c)\/∃y∈names,y.1=x/\y.2=Vn)->∃c,(gR cells names cs).lookup x=a_ c
 |[],_,h=>by
  rcases h with h|⟨y,hy,_⟩
  ·show h
  ·cases hy
 |(n,k)::r,cs,h=>by
  refine uX r _ ?_;rcases h with⟨c,h⟩|⟨y,hy,e1,e2⟩
  ·left;by_cases hk:(k == Vn)=true
   ·rw[if_pos hk];by_cases hx:x=n
    ·subst hx;simp[UU]
    ·have:(x == n)=false:=by simpa using hx
     show⟨c,by simp only[UU,this];show h⟩
   ·rw[if_neg hk];show⟨c,h⟩
  ·rcases UF.mp hy with rfl|hy
   ·left;let hk:(k == Vn)=true:=by simpa using e2
    rw[if_pos hk];let hx:n=x:=e1;subst hx;simp[UU]
   ·show .inr ⟨y,hy,e1,e2⟩
abbrev jV(os:Scope)(oN:x_ Str)(sc:Scope)(N:x_ Str)(js:x_ (y_ Nat)):Bool:=
 (match sc.kind with|.function=>true|_=>false)&&sc.names.all (λy=>match y.2 with
  |.cell=>(match sc.names.lookup y.1 with|some .cell=>true|_=>false)
  |_=>true) &&
 sc.names.all (λy=>match y.2 with
  |.local=>(match sc.names.lookup y.1 with|some .local=>true|_=>false)
  |.free=>(match sc.names.lookup y.1,os.names.lookup y.1 with|some .free,a_ .cell=>true|some .free,a_ .free=>true|_,_=>false)
  |_=>true) &&
 js.length == N.length&&(js.zip N).all (λp=>match p.1 with
  |none=>true
  |some j=>(match oN[j]? with|some x=>decide (x=p.2)|none=>false)&&(match sc.names.lookup p.2 with|some .free=>true|_=>false))
structure Mt(os:Scope)(oN:x_ Str)(sc:Scope)(N:x_ Str)(js:x_ (y_ Nat)):Prop where
 kind:sc.kind=.function
 own:∀y∈sc.names,y.2=.cell->sc.names.lookup y.1=some .cell
 nm:∀y∈sc.names,y.2=.local->sc.names.lookup y.1=some .local
 fr:∀y∈sc.names,y.2=.free->os.names.lookup y.1=some .cell\/os.names.lookup y.1=some .free
 len:js.length=N.length
 cap:∀(i j:Nat),js[i]?=some (some j)->∃x,N[i]?=some x/\oN[j]?=some x/\sc.names.lookup x=some .free
variable{js:x_ (y_ Nat)}{oN:x_ Str}{os sc:Scope}
def EC(h:jV os oN sc N js=true):Mt os oN sc N js:=by
 unfold jV at h;simp only[UQ]at h;let⟨⟨⟨⟨h1,h2⟩,h3⟩,h4⟩,h5⟩:=h;refine⟨?_,λy hy e=>?_,λy hy e=>?_,λy hy e=>?_,ke h4,λi j e=>?_⟩
 ·cases hk:sc.kind <;> rw[hk]at h1 <;> first|rfl|exact absurd h1 UH
 ·have:=UK.mp h2 y hy;rw[e]at this;dsimp only at this;cases hl:sc.names.lookup y.1 with
  |none=>rw[hl]at this;show absurd this UH
  |some k=>cases k <;> rw[hl]at this <;> first|rfl|exact absurd this UH
 ·have:=UK.mp h3 y hy;rw[e]at this;dsimp only at this;cases hl:sc.names.lookup y.1 with
  |none=>rw[hl]at this;show absurd this UH
  |some k=>cases k <;> rw[hl]at this <;> first|rfl|exact absurd this UH
 ·have:=UK.mp h3 y hy;rw[e]at this;dsimp only at this;cases hl:sc.names.lookup y.1 with
  |none=>rw[hl]at this;show absurd this UH
  |some k=>
   rw[hl]at this;cases ho:os.names.lookup y.1 with
   |none=>rw[ho]at this;cases k <;> exact absurd this UH
   |some k'=>rw[ho]at this;cases k <;> cases k' <;> first|exact .inl rfl|exact .inr rfl|exact absurd this UH
 ·let hlen:js.length=N.length:=by simpa using h4
  let⟨hi,ej⟩:=SC.mp e;let hN:i<N.length:=⋯;let hz:(js.zip N)[i]?=a_ (a_ j,N[i]):=by rw[W2];show⟨e,by simp[hN]⟩
  have:=UK.mp h5 _<|UP hz;simp only[UQ]at this;let⟨t1,t2⟩:=this;refine⟨N[i],by simp[hN],?_,?_⟩
  ·cases ho:oN[j]? with
   |none=>rw[ho]at t1;show absurd t1 UH
   |some x=>rw[ho]at t1;rw[of_decide_eq_true t1]
  ·cases hl:sc.names.lookup N[i] with
   |none=>rw[hl]at t2;show absurd t2 UH
   |some k=>rw[hl]at t2;cases k <;> first|rfl|exact absurd t2 UH
def cT{κ:Type}{x:Str}{k:κ}:∀{l:x_ (Str×κ)},l.lookup x=a_ k->(x,k)∈l
 |[],h=>by simp at h
 |(n,v)::r,h=>by
  by_cases hx:x=n
  ·subst hx;simp only[UU,beq_self_eq_true]at h;cases h
   show Uy
  ·have:(x == n)=false:=by simpa using hx
   simp only[UU,this]at h;show Uw _<|cT h
def lU{sc:Scope}{env:Env}:∀{names:x_ (Str×Xq)}{x:Str}{k:Xq},(names.map λ(n,k)=>if(k == Vn&&env.scope.kind == .function&&env.kindOf n == a_ .cell) then(n,XY) else(n,k)).lookup x=a_ k->
  names.lookup x=a_ k\/(k=.cell/\names.lookup x=a_ .free)
 |[],_,_,h=>by simp at h
 |(n,q)::r,x,k,h=>by
  let ih:=@lU sc env r x k;by_cases hc:(q == Vn&&env.scope.kind == .function&&env.kindOf n == a_ .cell)=true
  ·simp only[UJ]at h;rw[if_pos hc]at h;let hq:q=.free:=by simp only[UQ]at hc;simpa using hc.1.1
   by_cases hx:x=n
   ·subst hx;simp only[UU,beq_self_eq_true]at h⊢;show .inr ⟨(UW h).symm,by rw[hq]⟩
   ·let e:(x == n)=false:=by simpa using hx
    simp only[UU,e]at h⊢;show ih h
  ·simp only[UJ]at h;rw[if_neg hc]at h;by_cases hx:x=n
   ·subst hx;simp only[UU,beq_self_eq_true]at h⊢;show .inl h
   ·let e:(x == n)=false:=by simpa using hx
    simp only[UU,e]at h⊢;show ih h
def pH{env:Env}:∀{names:x_ (Str×Xq)}{x:Str},names.lookup x=a_ .free->
  (names.map λ(n,k)=>if(k == Vn&&env.scope.kind == .function&&env.kindOf n == a_ .cell) then(n,XY) else(n,k)).lookup x=a_ .free\/
  (names.map λ(n,k)=>if(k == Vn&&env.scope.kind == .function&&env.kindOf n == a_ .cell) then(n,XY) else(n,k)).lookup x=a_ .cell
 |[],_,h=>by simp at h
 |(n,q)::r,x,h=>by
  let ih:=@pH env r x;by_cases hc:(q == Vn&&env.scope.kind == .function&&env.kindOf n == a_ .cell)=true
  ·simp only[UJ];rw[if_pos hc];by_cases hx:x=n
   ·subst hx;simp only[UU,beq_self_eq_true]
    first|exact .inr rfl|exact .inr trivial
   ·let e:(x == n)=false:=by simpa using hx
    simp only[UU,e]at h⊢;show ih h
  ·simp only[UJ];rw[if_neg hc];by_cases hx:x=n
   ·subst hx;simp only[UU,beq_self_eq_true]at h⊢;show .inl h
   ·let e:(x == n)=false:=by simpa using hx
    simp only[UU,e]at h⊢;show ih h
def aX:∀(names:x_ (Str×Xq))(n:Nat)(acc:x_ (Str×s_)),VD n names acc=VD n names []++acc
 |[],_,_=>rfl
 |(x,k)::r,n,acc=>by
  unfold VD;split
  ·rw[aX r _ ((x,n)::acc),aX r _ [(x,n)],XD];rfl
  ·show aX r n acc
def jW{x:Str}{c:s_}:∀{names:x_ (Str×Xq)}{n:Nat},(x,c)∈VD n names []->(x,XY)∈names
 |[],_,h=>by cases h
 |(y,k)::r,n,h=>by
  unfold VD at h;split at h
  ·rename_i hk;rw[aX,UN]at h;rcases h with h|h
   ·show Uw _ (jW h)
   ·let e:=UX.mp h;let ex:x=y:=congrArg WN e;let ek:k=.cell:=by simpa using hk
    rw[ex,ek];show Uy
  ·show Uw _ (jW h)
def tB{α:Type}{x:Str}{c:α}:∀{l:x_ (Str×α)},(x,c)∈l->∃d,l.lookup x=a_ d
 |(y,d)::r,h=>by
  by_cases e:x=y
  ·subst e;show⟨d,by simp[UU]⟩
  ·let z:(x == y)=false:=by simpa using e
   rcases UF.mp h with q|q
   ·show absurd (congrArg WN q) e
   ·let⟨d',hd⟩:=tB q;show⟨d',by simp only[UU,z];show hd⟩
def fN{x:Str}:∀{names:x_ (Str×Xq)}{n:Nat},(x,XY)∈names->∃c,(VD n names []).lookup x=a_ c
 |(y,k)::r,n,h=>by
  let go:∃c,(x,c)∈VD n ((y,k)::r) []:=by
   rcases UF.mp h with q|q
   ·let ex:x=y:=congrArg WN q;let ek:k=.cell:=(congrArg Prod.snd q).symm;refine⟨n,?_⟩;unfold VD;rw[if_pos (by rw[ek];rfl),aX,ex];show Ut _ Uy
   ·unfold VD;split
    ·let⟨c,hc⟩:=fN (n:=n+1) q;rw[aX];show⟨c,U8 _<|mem_of_lookup hc⟩
    ·let⟨c,hc⟩:=fN (n:=n) q;show⟨c,mem_of_lookup hc⟩
  let⟨c,hc⟩:=go;show tB hc
def pI{α:Type}{x:Str}:∀{l r:x_ (Str×α)},(l++r).lookup x=(l.lookup x).or (r.lookup x)
 |[],_=>by simp
 |(y,d)::l,r=>by
  let ih:=pI (x:=x) (l:=l) (r:=r);cases e:x == y with
  |true=>simp[UU,e]
  |false=>simp only[WT,UU,e];show ih
variable{M:Model}{builtins globals:s_}{closure:x_ (Str×s_)}{code:q_}{func:y_ s_}
def rB{outer:Env}{Q:jn Env}(hQ:Q (newEnv scope (e_ s) globals (VD (s.heap.objs.size+1) scope.names closure) qual func code (a_ outer) builtins) {s with heap:=pushCells (s.heap.push {cls:=.type "dict",data:=.dict #[]}) scope.names}):
  wpAny M A (newFunctionEnv scope globals closure [] qual func code (a_ outer) builtins) Q E s:=by
 simp only[newFunctionEnv,Xr,if_true];refine SB<|wpAny_alloc ?_;refine SB (wpAny_layCells _ (λname kind cells=>by cases hkc:kind == XY <;> simp[hkc]) _ _ _ _ ?_);rw[show({s with heap:=s.heap.push {cls:=.type "dict",data:=.dict #[]} }:r_).heap.objs.size=(e_ s)+1 from VL ..]
 rw[List.forIn_nil];show SB<|SL<|SL hQ
abbrev Cx.comp(X:Cx)(sc:Scope)(N:x_ Str)(C:s_)(fp:x_ s_)(s₀:r_)(H₀:Hp):Cx:=
 { X with N:=N,s₀:=s₀,H₀:=H₀,env:=compEnvC sc (VD (C+1) sc.names<|P_ []) C X.env,outer:=X.stack,ex:=fp,fn:=λx=>(match Yp 0 with|some .cell=>true|_=>false),pn:=[],xe:=λ_ _=>False}
abbrev Cz:St->Nat->y_ V
 |[],_=>b_
 |x::_,0=>x
 |_::r,n+1=>Cz r n
def uY:∀{σ:St}{i:Nat}{v:V},Cz σ i=a_ v->σ[i]?=a_ (a_ v)
 |[],_,_,h=>by cases h
 |x::_,0,v,h=>by let h':x=a_ v:=h;simp[h']
 |_::r,n+1,v,h=>by rw[VN];show uY (σ:=r) (i:=n) h
abbrev jX(js:x_ (y_ Nat))(σ:St):St:=js.map λo=>match o with
 |none=>b_
 |some j=>Cz σ j
variable{i:Nat}
def JD(h:(jX js σ)[i]?=a_ (a_ v)):∃j,js[i]?=a_ (a_ j)/\σ[j]?=a_ (a_ v):=by
 unfold jX at h;rw[UD]at h;cases e:js[i]? with
 |none=>rw[e]at h;cases h
 |some o=>
  rw[e]at h;cases o with
  |none=>cases h
  |some j=>exact⟨j,rfl,uY<|UW h⟩
abbrev PTs(X:Cx)(ifs:x_ v_)(t:TT):Prop:=
 ∀(td:gV 0)(s:r_)(σ:St)(H:Hp)(Q:Bool->Hp->Prop),H_ s->t σ H Q->wpAny (g_ X) X.A (Dz ifs X.env) (TP X td σ Q) X.xe s
abbrev OC:TT:=λ_ H Q=>Q true H
def JE:PTs X [] OC:=λ_ _ _ H _ I h=>wpAny_tests_nil ⟨H,I,h⟩
def JF{c:v_}{t:TT}(h:PT X c t):PTs X [c] t:=λtd s σ H Q I q=>wpAny_tests_one<|Ym Q I q
abbrev Lr(js:x_ (y_ Nat))(g:TG)(tt:TT)(te:TE)(σ:St)(acc:s_)(x:V)(H:Hp)(N:Hp->Prop):Prop:=g x (jX js σ) H λσ2 H4=>tt σ2 H4 λb H5=>if b=true then te σ2 H5 λv H6=>∃ys,H6 acc=a_ (.lst ys)/\ys.length<UG/\N (upd H6 acc<|.lst<|ys++[v]) else N H5
abbrev DA(js:x_ (y_ Nat))(wi:TI)(g:TG)(tt:TT)(te:TE):TE:=λσ H Q=>wi σ H λJ H1=>∀acc,H1 acc=b_->
 ∃W:Nat->Nat->Hp->Prop,(∃m,W 0 m<|upd H1 acc<|.lst [])/\∀i m H2,W i m H2->
  (J.stop i H2/\Q (.ref acc) H2)\/(J.go i H2/\∃N:Hp->Prop,(∀H',N H'->∃m',m'<m/\W (i+1) m' H')/\∀x H3,J.yld i H2 x H3->Lr js g tt te σ acc x H3 N)
variable{Q0:f_ 0}{te:TE}{tg:v_}{use:y_ (q_->Sem Unit)}{dn pos':Pos}
section
variable{elt:v_}{wi:TI}{g:TG}{tt:TT}
structure Off(X:Cx)(td:gV 0)(H:Hp)(C:s_)(s:r_):Prop where
 ns:∃m,s.heap.Ns C m
 none:H C=none
 loc:C≠X.env.locals
 new:X.s₀.heap.objs.size<=C
 cells:∀x c,X.env.cells.lookup x=some c->c≠C
 td:∀p∈X.pn++td,p.1≠C
def Off.go{C:s_}(o:Off X td H C s)(I:H_ s)(hs:V1 C s.heap h'):H_ {s with heap:=h'}:=I.turned (t':=s.toks) (λb ob hb e=>(hs.2 b hb).trans e) o.none o.loc (.inr o.new) o.cells o.td
def yJ(hc:X.calm=true)(ib:X.env.scope=os)(jo:X.N=oN)(ok:jV os oN sc N js=true)(hi:PI X tg iter wi)(hg:∀C fp s₀ H₀,PG (N_ N C fp s₀ H₀) tg g)(ht:∀C fp s₀ H₀,PTs (N_ N C fp s₀ H₀) ifs tt)(he:∀C fp s₀ H₀,PE (N_ N C fp s₀ H₀) elt te){Q:VK}(I:H_ s)(h:DA js wi g tt te σ H Q)(xw:∀acc C s6 H6,h_ H6 s6->Off X td H6 C s6->Q (.ref acc) H6->compPost (g_ X) X.A X.xe use Q0 (.ref acc) C (.ok .next) s6)(hs:∀x,V2 iter X.env x=pure x:=by intro _;rfl):
  wpAny (g_ X) X.A (comprehension (.ListComp elt [⟨tg,iter,ifs,0⟩] sc pos) sc X.env (firstIterPos [⟨tg,iter,ifs,0⟩] pos) (newList []) false (eval iter X.env) use) Q0 X.xe s:=by
 let S:=EC ok;subst ib jo;let Sb:∀y∈sc.names,y.2=Vn->∃c,X.env.cells.lookup y.1=a_ c:=λy hy e=>I.ok.has y.1<|S.fr y hy e;let ka:∀x c,(P_ []).lookup x=a_ c->L_ 0=a_ c:=λx c e=>by
  rcases sZ _ _ e with z|⟨y,hy,e1,e2,e3⟩
  ·cases z
  ·let⟨d,hd⟩:=Sb y hy e2;rw[e1]at hd;rw[hd]at e3;rw[hd,e3];rfl
 refine wpAny_comprehension_free (use:=use) rfl hs (xS Sb) S.kind S.nm<|thn (hi td s σ H _ I h) λv s1 h1=>thn h1 λu3 s2 h2=>?_;let⟨it,fp,tn,J,H2,e,I2,T,uc,f2,q⟩:=h2;subst e;let⟨W,⟨m0,w0⟩,turn⟩:=q (e_ s2) I2.fresh;refine U0<|rB ?_;let I3:h_ (upd H2 (e_ s2)<|.lst []) {s2 with heap:=s2.heap.push {cls:=.type "list",data:=.seq ([]:x_ q_).toArray},toks:=s2.toks}:=I2.lnew (its:=[]) (ys:=[]) .nil<|U5 _;generalize S8:upd H2 (e_ s2) (HO.lst [])=H3 at w0 I3;generalize TL:({s2 with heap:=s2.heap.push {cls:=.type "list",data:=.seq ([]:x_ q_).toArray},toks:=s2.toks}:r_)=s3 at I3;let T':({s2 with heap:=s2.heap.push {cls:=.type "list",dict:=b_,data:=.seq ([]:x_ q_).toArray} }:r_)=s3:=TL;let zx:s2.heap.push {cls:=.type "list",dict:=b_,data:=.seq ([]:x_ q_).toArray}=s3.heap:=by rw[<-T']
 (try rw[zx])
 let hC:∀b o,s3.heap.get? b=a_ o->b≠(e_ s3):=λb o e=>UR<|UE e;let old:∀b o,s3.heap.get? b=a_ o->(pushCells (s3.heap.push {cls:=.type "dict",data:=.dict #[]}) sc.names).get? b=a_ o:=λb o e=>pushCells_keeps _ _ b o<|SZ _ e;let qv:(pushCells (s3.heap.push {cls:=.type "dict",data:=.dict #[]}) sc.names).Ns (e_ s3) (λ_=>b_):=(Heap.Ns.new s3.heap<|.type "dict").keeps<|pushCells_keeps _ _;let qa:=cellsFrom_ok sc.names (s3.heap.push {cls:=.type "dict",data:=.dict #[]}) (s3.heap.objs.size+1) [] ⟨λ_ _ hm=>(nomatch hm),List.Pairwise.nil⟩ (by rw[VL];show Uv _);rw[VL]at qa;generalize pushCells (s3.heap.push {cls:=.type "dict",data:=.dict #[]}) sc.names=h₁ at old qv qa⊢;let p8:∀{x c},(VD (s3.heap.objs.size+1) sc.names<|P_ []).lookup x=a_ c->((x,c)∈VD (s3.heap.objs.size+1) sc.names []/\h₁.IsCell c b_/\(e_ s3)+1<=c)\/(L_ 0=a_ c/\c<(e_ s3)):=λ{x c} e=>by
  rw[aX,pI]at e;cases eo:(VD (s3.heap.objs.size+1) sc.names []).lookup x with
  |some d=>
   rw[eo]at e;cases e
   have:=mem_of_lookup eo;show .inl ⟨this,qa.empty x c this⟩
  |none=>rw[eo]at e;let e:=ka x c e;let⟨v,z⟩:=I3.cell x c e;show .inr ⟨e,z.lt⟩
 let zy:∀{x c},Yp 0=a_ .free->(P_ []).lookup x=a_ c->(VD (s3.heap.objs.size+1) sc.names<|P_ []).lookup x=a_ c:=λ{x c} hf e=>by
  rw[aX,pI];cases eo:(VD (s3.heap.objs.size+1) sc.names []).lookup x with
  |some d=>have:=S.own _ (jW<|mem_of_lookup eo) rfl;rw[hf]at this;cases this
  |none=>exact e
 let pd:tn 0 s3.heap:=T.keep 0 _ _ uc λb hb o e=>by rw[<-zx];show SZ _ e
 let vo:∀b∈fp,∃o,s3.heap.get? b=a_ o/\∀v,o.data≠.cell v:=T.obj 0 _ pd;let f3:∀b∈fp,B4 X td H3 b:=λb hb=>by let⟨o,ho,_⟩:=T.obj 0 _ uc b hb;refine⟨?_,(f2 b hb).2⟩;rw[<-S8,aH<|UR<|UE ho];show(f2 b hb).1
 -- the block's context
 let uk:(N_ N (e_ s3) fp s3 H3).Ok:=by
  refine⟨I.ok.mod,S.kind,I.ok.glob,I.ok.blt,Uv _,λx y c e1 e2=>?_,λx hx=>?_,λx c z e=>?_,I.ok.hd,I.ok.frames,.inl rfl,λb hb=>?_,I3.bs,
   U1 I.ok.bsz I3.sz,λb o e hb=>?_,λb hb hf=>?_,I3.stack,I3.stkFree⟩
  ·rcases p8 e1 with⟨m1,_,g1⟩|⟨z1,g1⟩ <;> rcases p8 e2 with⟨m2,_,g2⟩|⟨z2,g2⟩
   ·show name_of_addr qa.apart m1 m2
   ·show absurd (UM g2<|Nat.le_of_succ_le g1) (Vx _)
   ·show absurd (UM g1<|Nat.le_of_succ_le g2) (Vx _)
   ·show I.ok.inj x y c z1 z2
  ·let fr:Yp 0=a_ .free->∃c,(VD (s3.heap.objs.size+1) sc.names<|P_ []).lookup x=a_ c:=λhf=>
    let ⟨c,hc⟩:=uX (cells:=X.env.cells) (x:=x) sc.names []<|.inr ⟨_,cT hf,rfl,rfl⟩
    ⟨c,zy hf hc⟩
   let fin:∀{k},(relabel sc X.env).names.lookup x=a_ k->(k=.cell\/k=.free)->∃c,(VD (s3.heap.objs.size+1) sc.names<|P_ []).lookup x=a_ c:=λ{k} e hk=>by
    rcases lU (sc:=sc) e with z|⟨_,z⟩
    ·rcases hk with rfl|rfl
     ·let⟨c,hc⟩:=fN (n:=(e_ s3)+1)<|cT z;show⟨c,by rw[aX,pI,hc];rfl⟩
     ·show fr z
    ·show fr z
   rcases hx with hx|hx
   ·show fin hx (.inl rfl)
   ·show fin hx (.inr rfl)
  ·let z:Yp 0=a_ .cell:=by
    let z:(match Yp 0 with|some .cell=>true|_=>false)=true:=z
    split at z
    ·assumption
    ·cases z
   let e:(VD (s3.heap.objs.size+1) sc.names<|P_ []).lookup x=a_ c:=e;let⟨d,hd⟩:=fN (n:=(e_ s3)+1)<|cT z;rw[aX,pI,hd]at e;cases e
   show Nat.le_of_succ_le (qa.empty x c<|mem_of_lookup hd).2
  ·let⟨o,ho,_⟩:=vo b hb;refine⟨hC b o ho,λx c e=>?_⟩;rcases p8 e with⟨_,_,g1⟩|⟨z1,_⟩
   ·show Vv (UM (UE ho)<|Nat.le_of_succ_le g1)
   ·show(f3 b hb).2.2.2.2.1 x c z1
  ·rcases(f3 b hb).2.2.2.1 with z|z
   ·show I.ok.noex b o e z
   ·show absurd (UM (UE e)<|U1 I.ok.bsz z) (Vx _)
  ·rcases UF.mp (I3.stkSub b hf) with z|z
   ·show(f3 b hb).2.1 z
   ·show(f3 b hb).2.2.1 z
 -- what the block takes from around it
 let sr:∀(i:Nat)(x:Str)(v:V),N[i]?=a_ x->(jX js σ)[i]?=a_ (a_ v)->∃u c o,RelV v u/\((compEnvC sc (VD (s3.heap.objs.size+1) sc.names<|P_ []) (e_ s3) X.env).kindOf x=a_ .cell\/(compEnvC sc (VD (s3.heap.objs.size+1) sc.names<|P_ []) (e_ s3) X.env).kindOf x=a_ .free)/\
   (VD (s3.heap.objs.size+1) sc.names<|P_ []).lookup x=a_ c/\s3.heap.get? c=a_ o/\o.data=.cell (a_ u)/\H3 c=b_/\c∉fp:=by
  intro i x v hN hv;let⟨j,hj,hσ⟩:=JD hv;let⟨x',ic,ho,hf⟩:=S.cap i j hj;rw[hN]at ic;cases ic;let⟨m,hn,hl⟩:=I3.loc;let xm:Vis X.env.scope x:=by
   rcases S.fr _ (cT hf) rfl with z|z
   ·show .inr (.inl z)
   ·show .inr (.inr z)
  let⟨u,r,l⟩:=hl j x v ho hσ xm;let⟨c,sk⟩:=uX (cells:=X.env.cells) (x:=x) sc.names []<|.inr ⟨_,cT hf,rfl,rfl⟩;let wg:=ka x c sk;let fj:s3.heap.IsCell c (a_ u):=by
   rcases l with⟨k,_⟩|⟨_,c',e,z⟩
   ·exfalso;rcases S.fr _ (cT hf) rfl with z|z
    ·let k':T_ 0=a_ .local:=k;rw[z]at k';cases k'
    ·let k':T_ 0=a_ .local:=k;rw[z]at k';cases k'
   ·rw[wg]at e;cases e;show z
  let⟨o,gg,hd⟩:=fj;refine⟨u,c,o,r,?_,zy hf sk,gg,hd,I3.freeC x c wg,λhb=>(f3 c hb).2.2.2.2.1 x c wg rfl⟩;show(pH (env:=X.env) hf).symm
 -- at any state of the block,its names as at its start
 let qy:∀{dt:gV 0}{σ8:St}{H8:Hp}{s8:r_},Inv (N_ N (e_ s3) fp s3 H3) dt σ8 H8 s8->Inv (N_ N (e_ s3) fp s3 H3) [] (jX js σ) H8 s8:=λ{dt σ8 H8 s8} I8=>by
  refine⟨I8.ok,I8.os,I8.bare,I8.base,?_,I8.cell,I8.free,I8.freeC,λp hp=>by simp[Cx.comp]at hp,I8.hok,?_⟩
  ·let⟨m,hn,_⟩:=I8.loc;refine⟨m,hn,λi x v hN hv _=>?_⟩;let⟨u,c,o,r,k,hl,ho,hd,S4,Tg⟩:=sr i x v hN hv;refine⟨u,r,.inr ⟨k,c,hl,?_⟩⟩;let⟨sl,e⟩:=I8.base.any ho S4 Tg;show⟨_,e,hd⟩
  ·change(jX js σ).length=N.length
   unfold jX;rw[Uu,S.len]
 let I4:Inv (N_ N (e_ s3) fp s3 H3) [] (jX js σ) H3 {s3 with heap:=h₁}:=by
  refine⟨uk,rfl,I3.bare,Un.kept old,⟨_,qv,λi x v hN hv _=>?_⟩,λx c e=>?_,I3.fresh,λx c e=>?_,λp hp=>by simp[Cx.comp]at hp,I3.hok.kept old,?_⟩
  ·let⟨u,c,o,r,k,hl,ho,hd,_,_⟩:=sr i x v hN hv;show⟨u,r,.inr ⟨k,c,hl,o,old c o ho,hd⟩⟩
  ·rcases p8 e with⟨_,g1,_⟩|⟨z1,_⟩
   ·show⟨_,g1⟩
   ·let⟨v,o,ho,hd⟩:=I3.cell x c z1;show⟨v,o,old c o ho,hd⟩
  ·rcases p8 e with⟨_,_,g1⟩|⟨z1,_⟩
   ·show I3.hok.fresh ⋯
   ·show I3.freeC x c z1
  ·change(jX js σ).length=N.length
   unfold jX;rw[Uu,S.len]
 let Sj:tn 0 h₁:=T.keep 0 _ _ pd λb hb o e=>old b o e;let mr:∀{H':Hp},(∀b∈fp,H' b=b_)->∀b∈fp,B4 (N_ N (e_ s3) fp s3 H3) [] H' b:=λ{H'} hn b hb=>⟨hn b hb,(uk.exf b hb).1,uk.exfs b hb,.inl hb,(uk.exf b hb).2,λp hp=>by simp[Cx.comp]at hp⟩;let fin:∀(s6:r_)(H6:Hp),Inv (N_ N (e_ s3) fp s3 H3) [] (jX js σ) H6 s6->Q (.ref<|e_ s2) H6->compPost (g_ X) X.A X.xe use Q0 (.ref<|e_ s2) (e_ s3) (.ok .next) s6:=λs6 H6 I6 q6=>by
  let I7:h_ H6 s6:=I3.call' (ch:=fp) I6.os I6.base I6.hok I6.bare λb hb=>⟨(f3 b hb).2.2.2.1,(f3 b hb).2.1,(f3 b hb).2.2.2.2.1,(f3 b hb).2.2.2.2.2⟩;refine xw _ _ _ _ I7 ⟨let ⟨m,hn,_⟩:=I6.loc;⟨m,hn⟩,I6.free,Vv I3.lt,I3.sz,λx c e=>?_,λp hp=>?_⟩ q6
  ·let⟨v,z⟩:=I3.cell x c e;show UR z.lt
  ·show UR (UE (I3.pin p hp).1)
 let loop:codeAny (g_ X) X.A (.compLoop (.ListComp elt [⟨tg,iter,ifs,0⟩] sc pos) 0 (.ref it) (.ref<|e_ s2)<|compEnvC sc (VD (s3.heap.objs.size+1) sc.names<|P_ []) (e_ s3) X.env)
   (compPost (g_ X) X.A X.xe use Q0 (.ref<|e_ s2)<|e_ s3) {s3 with heap:=h₁}:=by
  refine A6 (λn s'=>∃i H',Inv (N_ N (e_ s3) fp s3 H3) [] (jX js σ) H' s'/\tn i s'.heap/\(∀b∈fp,H' b=b_)/\W i n H') ?_ m0 ⟨0,H3,I4,Sj,λb hb=>(f3 b hb).1,w0⟩;rintro n s5 ⟨i,H5,I5,ot,jx,w5⟩;rcases turn i n H5 w5 with⟨stop,qn⟩|⟨go,Nn,hN,step⟩
  ·refine thn (T.done (N_ N (e_ s3) fp s3 H3) rfl rfl rfl hc i [] s5 (jX js σ) H5 (λ_ _=>False) I5 (mr jx) ot stop) λr s6 z9=>?_;let⟨hr,I6⟩:=z9;subst hr;show fin s6 H5 I6 qn
  ·refine thn (T.item (N_ N (e_ s3) fp s3 H3) rfl rfl rfl hc i [] s5 (jX js σ) H5 (λ_ _=>False) I5 (mr jx) ot go) λr s6 z9=>?_;let⟨u,hr,h6⟩:=z9;subst hr;refine thn h6 λ_ s7 z9=>?_;let⟨x,H7,I7,r7,y7,wq,T6⟩:=z9;let T4:=I7.pinned (mr T6)<|T.obj _ _ wq;refine thn (hg _ _ _ _ _ s7 _ H7 x u _ T4 r7<|step x H7 y7) λ_ s8 z9=>?_;let⟨σ8,H8,I8,q8⟩:=z9;refine thn (ht _ _ _ _ _ s8 σ8 H8 _ I8 q8) λb s9 z9=>?_;let⟨H9,I9,q9⟩:=z9;let again:∀{σ':St}{H':Hp}{s':r_},Inv (N_ N (e_ s3) fp s3 H3) ([]++uS fp s7.heap) σ' H' s'->Nn H'->∃m,m<n/\∃i H',Inv (N_ N (e_ s3) fp s3 H3) [] (jX js σ) H' s'/\tn i s'.heap/\(∀b∈fp,H' b=b_)/\W i m H':=λ{σ' H' s'} I' n'=>by let⟨m',hm,w'⟩:=hN H' n';refine⟨m',hm,i+1,H',qy I',T.keep _ _ _ wq λb hb o e=>(I'.pin (b,o)<|Ut _<|Ut _<|jT hb e).1,λb hb=>?_,w'⟩;let⟨o,e,d⟩:=T.obj _ _ wq b hb;show(I'.pin (b,o)<|Ut _<|Ut _<|jT hb e).2.1
   cases b with
   |false=>exact again I9 q9
   |true=>refine thn (he _ _ _ _ _ s9 σ8 H9 _ I9 q9) λu' TY z9=>?_;let⟨v,TU,Ul,rv,ys,ak,hz,S3⟩:=z9;refine thn (yG (X:=N_ N (e_ s3) fp s3 H3) _ TY σ8 TU (.ref<|e_ s2) [v] (.ref<|e_ s2) [u'] (λ_ H'=>Nn H') Ul rfl (.cons rv .nil) ⟨_,ys,v,rfl,rfl,ak,hz,S3⟩) λ_ s11 z9=>?_;let⟨_,H11,SF,_,SM⟩:=z9;show again SF SM
 show codeAny_compStart_list loop<|T.self X.A 0 _ _ _ Sj loop
def JG(hc:X.calm=true)(ib:X.env.scope=os)(jo:X.N=oN)(ok:jV os oN sc N js=true)(hi:PI X tg iter wi)
  (hg:∀C fp s₀ H₀,PG (N_ N C fp s₀ H₀) tg g) (ht:∀C fp s₀ H₀,PTs (N_ N C fp s₀ H₀) ifs tt) (he:∀C fp s₀ H₀,PE (N_ N C fp s₀ H₀) elt te)
  (hs:∀x,V2 iter X.env x=pure x:=by intro _;rfl):PE X (.ListComp elt [⟨tg,iter,ifs,0⟩] sc pos) (DA js wi g tt te):=by
 intro td s σ H Q I h;rw[eval_ListComp];refine yJ (use:=b_) hc ib jo ok hi hg ht he I h (λacc C s6 H6 I6 o q=>?_) hs;show⟨o.ns.choose,o.ns.choose_spec,λh' ig=>⟨.ref acc,H6,o.go I6 ig,rfl,q⟩⟩
def CA(hN:X.N.Nodup)(ic:X.N[i]?=a_ x)(jl:T_ 0=a_ .local)(hc:X.calm=true)(ib:X.env.scope=os)(jo:X.N=oN)(ok:jV os oN sc N js=true)(hi:PI X tg iter wi)(hg:∀C fp s₀ H₀,PG (N_ N C fp s₀ H₀) tg g)(ht:∀C fp s₀ H₀,PTs (N_ N C fp s₀ H₀) ifs tt)(he:∀C fp s₀ H₀,PE (N_ N C fp s₀ H₀) elt te)(q0:XX (.ListComp elt [⟨tg,iter,ifs,0⟩] sc pos) (a_<|.Name x pos') dn.line X.env=pure true:=by rfl)(hs:∀x,V2 iter X.env x=pure x:=by intro _;rfl):PS X (.Assign [.Name x pos'] (.ListComp elt [⟨tg,iter,ifs,0⟩] sc pos) dn) (LU (DA js wi g tt te)<|FG i):=by
 intro td s σ H D I h
 rw[exec_Assign_Name_used _ _ _ _ q0]
 refine SB<|wpAny_standAt<|SB ?_
 show wpAny _ X.A (do let _ <-comprehension (.ListComp elt [⟨tg,iter,ifs,0⟩] sc pos) sc X.env _ (newList []) false (eval iter X.env) (a_<|assign (.Name x pos') X.env)) _ _ s
 refine SB<|thn (yJ (use:=a_<|assign (.Name x pos') X.env) (Q0:=λ_ s'=>SP X td D .next s') hc ib jo ok hi hg ht he I h (λacc C s6 H6 I6 o q=>?_) hs) λ_ s' hq=>SL<|SL hq
 show wpAny _ X.A (assign (.Name x pos') X.env<|.ref acc) _ _ _
 refine wpAny_assign_Name<|yA I6 hN ic (.inl jl) (v:=.ref acc) rfl (λs7 I7 ⟨a,hs7,ha⟩=>?_)<|.inr jl
 have yz:C≠a:=by
  rcases ha with rfl|ha
  ·exact o.loc
  ·exact λe=>o.cells x a ha e.symm
 let⟨m,hn⟩:=o.ns
 have o7:Off X td H6 C s7:=⟨⟨m,hn.sameBut hs7 yz⟩,o.none,o.loc,o.new,o.cells,o.td⟩
 exact⟨m,hn.sameBut hs7 yz,λh' ig=>⟨_,H6,o7.go I7 ig,q⟩⟩
end
abbrev OD:V->y_ Int->y_ Int->Hp->VK->Prop:=λx lo hi H Q=>∃z,x=.str z/\z.length<=UG/\Q (.str<|Txt.slice z lo hi) H
def part_of{v:q_}{o:y_ Int}(h:IsPart v o):∃p:y_ (Int×Tok),v=partValue p/\p.map (·.1)=o:=by
 cases h with
 |none=>exact⟨b_,rfl,rfl⟩
 |int i t=>exact⟨a_ (i,t),rfl,rfl⟩
def Mu:SlR X OD:=by
 intro td s σ H x v vl vu lo hi sl Q I rx hs pl pu h;let⟨z,rfl,hz,q⟩:=h;let⟨t,rfl⟩:=rx;let⟨l,rfl,rfl⟩:=part_of pl;let⟨u,rfl,rfl⟩:=part_of pu;let⟨o,ho,hc,hd⟩:=hs;refine⟨"str",_,PySem.F.slot_str_getitem.lookup,typeIs_str s z t,?_⟩;refine wpAny_getItem_str_slice (l:=l) (u:=u) (st:=b_) ⟨o,ho,hc,hd⟩ rfl ?_;let e:sliceMade z t l u b_=if((1:Int) == 1&&(Xt (l.map (·.1)) (u.map (·.1)) 1 z.length).length == z.length)=true then Made.val (.str z t) else Made.str ⟨((Xt (l.map (·.1)) (u.map (·.1)) 1 z.length).filterMap (z.cps[·]?)).toArray⟩:=rfl;let hle:=Txt.slice_le z (l.map (·.1)) (u.map (·.1));unfold Txt.slice at q hle;rw[e];by_cases cq:((1:Int) == 1&&(Xt (l.map (·.1)) (u.map (·.1)) 1 z.length).length == z.length)=true
 ·rw[if_pos cq]at q⊢;show⟨.str z,H,I,⟨t,rfl⟩,q⟩
 ·rw[if_neg cq]at q hle⊢;show⟨U1 hle hz,.str _,H,I.tok _,⟨_,rfl⟩,q⟩
def uZ:∀{ss:x_ Str}{us:x_ q_},aJ (ss.map V.str) us->StrsAre us ss
 |[],_,r=>by cases r;show .nil
 |x::ss,_,r=>by
  cases r with
  |cons h t=>let⟨tk,rfl⟩:=h;show .cons x tk<|uZ t
def yK:∀{us:x_ q_}{ss:x_ Str},StrsAre us ss->aJ (ss.map V.str) us
 |_,_,.nil=>.nil
 |_,_,.cons x t h=>.cons ⟨t,rfl⟩ (yK h)
def rC:dJ X (.builtin "sorted") (λxs H Q=>∃p ss,xs=[.ref p]/\SqL X.K H p (ss.map V.str)/\ss.length<64/\
  ∀l jc,H l=b_->jc.Perm ss->sortedS jc=true->Q (.ref l) (R_ l (.lst (jc.map V.str)))):=by
 intro td s σ H xs us Q I r h;let⟨p,ss,rfl,hq,jy,q⟩:=h;let⟨u,rfl,ru⟩:=vals1 r;cases ru
 let⟨its,rv,pl,hz⟩:=I.list hq;let hlen:=rv.length;rw[Uu]at hlen;refine sorted_strs pl.isList (uZ rv) ⋯ λout jc a1 a2 a3=>?_;let⟨e,he⟩:=sortedAll_at s.heap its out;refine⟨.ref<|s.heap.objs.size+1,_,I.laid (t':=s.toks) (o:=.lst<|jc.map V.str) (λb ob h=>sortedAll_old h) (Vb _) ?_,rfl,q _ jc (I.hok.fresh<|Vb _) a2 a3⟩;refine⟨?_,out.toList,e,yK a1,by rw[he]⟩;rw[Uu,a2.length_eq];show VR (Nat.lt_trans jy<|by decide)
variable{es:x_ v_}
def gT{k:Nat}{t:TGs}(K:Us)(hK:X.K=K)(hc:X.calm=true)(h:PGs X es t)(hn:(WR es X.env).length=n:=by rfl)(dg:(WR es X.env).findIdx? (·.1)=b_:=by rfl):PG X (.Tuple es k pos) (Oi K n t):=by subst hK;show LS hc h hn dg
variable{e:v_}{f:q_->q_->Sem q_}{g:Int->Int->Int}
section
variable{a b:v_}{t t':TE}
def PE.imp(h:PE X e t)(i:∀σ H Q,t' σ H Q->t σ H Q):PE X e t':=λtd s σ H Q I q=>Ym Q I<|i σ H Q q
def PT.imp{t t':TT}(h:PT X e t)(i:∀σ H Q,t' σ H Q->t σ H Q):PT X e t':=λtd s σ H Q I q=>Ym Q I<|i σ H Q q
def OpR.imp{r r':R2}(h:Yg f r)(i:∀x y H Q,r' x y H Q->r x y H Q):Yg f r':=λtd s σ H x y v u Q I rx ry q=>Ym x y v u Q I rx ry<|i x y H Q q
def dJ.imp{f:q_}{r r':x_ V->Hp->VK->Prop}(h:dJ X f r)(i:∀xs H Q,r' xs H Q->r xs H Q):dJ X f r':=λtd s σ H xs us Q I rx q=>Ym xs us Q I rx<|i xs H Q q
abbrev cV(i:Nat):TE:=λσ H Q=>match Cz σ i with
 |some v=>Q v H
 |none=>False
def cv(i:Nat)(hN:X.N[i]?=a_ x:=by rfl)(hv:Vis X.env.scope x:=by first|exact Or.inl rfl|exact Or.inr (Or.inl rfl)|exact Or.inr (Or.inr rfl))(hd:(x == ("__debug__" : Str))=false:=by decide)(f7:(x == ("__classdict__" : Str))=false:=by decide):PE X (.Name x pos) (cV i):=by
 refine(FC hN hv hd f7).imp λσ H Q h=>?_;unfold cV at h;cases e:Cz σ i with
 |none=>rw[e]at h;show h.elim
 |some v=>rw[e]at h;show⟨v,uY e,h⟩
abbrev OE(K:Us):R2:=λx y H Q=>match x,y with
 |.int i,.int j=>Q (.int<|i+j) H
 |.str i,.str j=>i.length+j.length<=UG/\Q (.str<|i++j) H
 |.ref _,.ref _=>Oy x y H Q\/Lp K x y H Q
 |_,_=>False
def JH(K:Us)(hK:X.K=K):Yg (V6 .Add) (OE K):=by
 subst hK;refine(M0.or<|Cm.or<|Ml.or Jz).imp λx y H Q h=>?_;cases x <;> cases y <;> first
  |exact .inl ⟨_,_,rfl,rfl,h⟩
  |exact .inr (.inl ⟨_,_,rfl,rfl,h.1,h.2⟩)
  |exact .inr (.inr h)
  |exact h.elim
abbrev Bg(C:Int->Int->Prop)(f:Int->Int->Int):R2:=λx y H Q=>match x,y with
 |.int i,.int j=>C i j/\Q (.int<|f i j) H
 |_,_=>False
abbrev G7(f:Int->Int->Int):R2:=λx y H Q=>match x,y with
 |.int i,.int j=>Q (.int<|f i j) H
 |_,_=>False
def A7{C:Int->Int->Prop}(h:Yg f (rI C λi j=>.int<|g i j)):Yg f (Bg C g):=h.imp λx y H Q q=>by cases x <;> cases y <;> first|exact⟨_,_,rfl,rfl,q.1,q.2⟩|exact q.elim
def G8(h:Yg f (rI0 λi j=>.int<|g i j)):Yg f (G7 g):=h.imp λx y H Q q=>by cases x <;> cases y <;> first|exact⟨_,_,rfl,rfl,q⟩|exact q.elim
def JI:Yg (V6 .Sub) (G7 λi j=>i-j):=G8 M1
def JJ:Yg (V6 .Mult) (Bg B7 λi j=>i*j):=A7 M3
def JK:Yg (V6 .FloorDiv) (Bg FI λi j=>i/j):=A7 Jp
def JL:Yg (V6 .Mod) (Bg (λ_ j=>0<j) λi j=>i%j):=A7 M4
abbrev Bh(f:Int->Int->Bool)(g:x_ Nat->x_ Nat->Bool):R2:=λx y H Q=>match x,y with
 |.int i,.int j=>Q (.bl<|f i j) H
 |.str i,.str j=>Q (.bl<|g i.cps.toList j.cps.toList) H
 |_,_=>False
def A8{p:Int->Int->Bool}{g:x_ Nat->x_ Nat->Bool}(h1:Yg f (rI0 λi j=>.bl<|p i j))(h2:Yg f (λx y H Q=>∃i j,x=.str i/\y=.str j/\Q (.bl<|g i.cps.toList j.cps.toList) H)):Yg f (Bh p g):=(h1.or h2).imp λx y H Q q=>by cases x <;> cases y <;> first|exact .inl ⟨_,_,rfl,rfl,q⟩|exact .inr ⟨_,_,rfl,rfl,q⟩|exact q.elim
def Mv:Yg (Vc .Lt) (Bh (λi j=>decide (i<j)) λi j=>decide (i<j)):=A8 On Ek
def Mx:Yg (Vc .Gt) (Bh (λi j=>decide (j<i)) λi j=>decide (j<i)):=A8 Oq λtd s σ H x y v u Q I rx ry h=>by let⟨i,j,rfl,rfl,q⟩:=h;let⟨t,rfl⟩:=rx;let⟨t',rfl⟩:=ry;show PySem.P.gt_str<|zZ I q rfl
def My:Yg (Vc .LtE) (Bh (λi j=>decide (i<=j)) λi j=>!decide (j<i)):=A8 Oo λtd s σ H x y v u Q I rx ry h=>by let⟨i,j,rfl,rfl,q⟩:=h;let⟨t,rfl⟩:=rx;let⟨t',rfl⟩:=ry;show PySem.P.le_str<|zZ I q rfl
end
variable{ta tb:TE}{vs:x_ V}
section
variable{a b:v_}{t t':TE}
def OF{x:V}{Q:Bool->Prop}(h:match x with|.bl c=>Q c|_=>False):∃c,x=.bl c/\Q c:=by cases x <;> first|exact⟨_,rfl,h⟩|exact h.elim
abbrev R0(ta tb:TE):TE:=λσ H Q=>ta σ H λx H1=>match x with
 |.bl c=>if c=true then tb σ H1 Q else Q (.bl false) H1
 |_=>False
def JM{rest:x_ v_}(ha:PE X a ta)(hb:PE X (.BoolOp .And (b::rest) pos) tb):PE X (.BoolOp .And (a::b::rest) pos) (R0 ta tb):=by
 intro td s σ H Q I h;refine BoolOp_and<|thn (ha td s σ H _ I h) λv s1 z9=>?_;let⟨x,H1,I1,r1,q1⟩:=z9;let⟨c,rfl,q1⟩:=OF q1;cases r1
 refine wpAny_truthy_bool ?_;cases c with
 |true=>exact hb td s1 σ H1 Q I1 q1
 |false=>exact⟨.bl false,H1,I1,rfl,q1⟩
def JN(hu:X.A.units+1<cLine):IxR X (λx y H Q=>∃p v,x=.ref p/\nY H p y (a_ v)/\Q v H):=by
 intro value slice td s σ H x y v u Q I rx ry h hs;let⟨p,w,rfl,g,q⟩:=h;cases rx
 let hT:=Bf I g;unfold subscriptTail;refine SB ?_;rw[getitemInPython_of_ne hT.not_modules];refine SB<|wpAny_specialOf hT PySem.F.slot_dict_getitem.lookup ?_;let fin:wpAny (g_ X) X.A (subscripted slice false (.ref p) u) (λr s₃=>wpAny (g_ X) X.A (letTemporaryGo value (.ref p) r >>= λ_=>pure r) (X3 Q) X.xe s₃) X.xe s:=by rw[hs];show wpAny_operating<|Ez hu I g ry λw' s3 I3 dh=>SB<|wpAny_letTemporaryGo<|SL ⟨w,H,I3,dh,q⟩
 first
  |exact SL (SB fin)
  |exact SB (SL<|SB fin)
  |exact SB fin
abbrev OG(K:Us):R2:=λx y H Q=>match x with
 |.str z=>(match y with
  |.int i=>z.length<=UG/\∃c,atI z.cps.toList i=a_ c/\Q (.str ⟨#[c]⟩) H
  |_=>False)
 |.ref p=>(∃xs i v,y=.int i/\(SqL K H p xs\/SqT K H p xs)/\atI xs i=a_ v/\Q v H)\/∃v,nY H p y (a_ v)/\Q v H
 |_=>False
def IxR.imp{r r':R2}(h:IxR X r)(i:∀x y H Q,r' x y H Q->r x y H Q):IxR X r':=λa b td s σ H x y v u Q I rx ry q hs=>h a b td s σ H x y v u Q I rx ry (i x y H Q q) hs
def ixC(hu:X.A.units+1<cLine)(K:Us)(hK:X.K=K):IxR X (OG K):=by
 subst hK;refine(JA.or<|Md.or<|Mf.or<|JN hu).imp λx y H Q h=>?_;cases x with
 |str z=>
  cases y with
  |int i=>let⟨h1,c,h2,h3⟩:=h;show .inr<|.inr<|.inl ⟨z,i,c,rfl,rfl,h1,h2,h3⟩
  |_=>exact h.elim
 |ref p=>
  rcases h with⟨xs,i,v,rfl,hs|hs,ha,hq⟩|⟨v,g,hq⟩
  ·show .inl ⟨p,xs,i,v,rfl,rfl,hs,ha,hq⟩
  ·show .inr (.inl ⟨p,xs,i,v,rfl,rfl,hs,ha,hq⟩)
  ·show .inr (.inr<|.inr ⟨p,v,rfl,g,hq⟩)
 |_=>exact h.elim
def Mz(hu:X.A.units+1<cLine)(K:Us)(hK:X.K=K):Yg (Vc .In) (λx y H Q=>rIn K false x y H Q\/∃a o,y=.ref a/\nY H a x o/\Q (.bl o.isSome) H):=by
 subst hK;refine Et.or λtd s σ H x y v u Q I rx ry h=>?_;let⟨a,o,rfl,g,q⟩:=h;cases ry
 show QZ hu I g rx λs' I'=>⟨.bl o.isSome,H,I',rfl,q⟩
def ED(hu:X.A.units+1<cLine)(K:Us)(hK:X.K=K):Yg (Vc .NotIn) (λx y H Q=>rIn K true x y H Q\/∃a o,y=.ref a/\nY H a x o/\Q (.bl<|!o.isSome) H):=by
 subst hK;refine A3.or λtd s σ H x y v u Q I rx ry h=>?_;let⟨a,o,rfl,g,q⟩:=h;cases ry
 show JC hu I g rx λs' I'=>⟨.bl<|!o.isSome,H,I',rfl,q⟩
abbrev OH(K:Us):x_ V->Hp->VK->Prop:=λxs H Q=>match xs with
 |[.str y]=>y.length<=UG/\Q (.int y.length) H
 |[.ref p]=>(∃xs,(SqL K H p xs\/SqT K H p xs)/\Q (.int xs.length) H)\/∃kvs,H p=a_ (.dK kvs)/\Q (.int kvs.length) H
 |_=>False
def EE(K:Us)(hK:X.K=K):dJ X (.builtin "len") (OH K):=by
 subst hK;intro td s σ H xs us Q I r h
 match xs,h with
 |[.str y],h=>exact FN td s σ H _ us Q I r ⟨_,_,rfl,⟨h.1,rfl⟩,h.2⟩
 |[.ref p],h=>
  rcases h with⟨ys,hs,q⟩|⟨kvs,hs,q⟩
  ·show A4 td s σ H _ us Q I r ⟨p,ys,rfl,hs,q⟩
  ·show EB td s σ H _ us Q I r ⟨p,kvs,rfl,hs,q⟩
abbrev OI:x_ V->Hp->VK->Prop:=λxs H Q=>match xs with
 |[.int i,.int j]=>Q (.int<|if j>i then j else i) H
 |_=>False
def EF(hc:X.calm=true):dJ X (.builtin "max") OI:=(El hc).imp λxs H Q h=>by
 match xs,h with
 |[.int i,.int j],h=>exact⟨i,j,rfl,h⟩
def CB(K:Us)(hK:X.K=K):dJ X (.type "list") (λxs H Q=>∃p ys,xs=[.ref p]/\(SqL K H p ys\/SqT K H p ys)/\∀l,H l=b_->Q (.ref l) (R_ l<|.lst ys)):=by subst hK;show A5
def Bi(K:Us)(hK:X.K=K):dJ X (.type "tuple") (λxs H Q=>∃p ys,xs=[.ref p]/\((SqL K H p ys/\∀l,H l=b_->Q (.ref l) (R_ l<|.tup ys))\/(SqT K H p ys/\Q (.ref p) H))):=by subst hK;show xR
abbrev OJ(ta:TA):TI:=λσ H R=>ta σ H λvs H1=>match vs with
 |[.int j]=>(-(2 ^ 62)<=j/\j<2 ^ 62)/\R (Itr 0 j.toNat) H1
 |_=>False
abbrev OK(ta:TA):TI:=λσ H R=>ta σ H λvs H1=>match vs with
 |[.int i,.int j]=>(-(2 ^ 62)<=i/\i<2 ^ 62/\-(2 ^ 62)<=j/\j<2 ^ 62)/\R (Itr i (j-i).toNat) H1
 |_=>False
def JO{Q:Int->Prop}(h:match vs with|[.int i]=>Q i|_=>False):∃i,vs=[.int i]/\Q i:=by
 split at h
 · show⟨_,rfl,h⟩
 · show h.elim
def pr1{x:v_}{ta:TA}{p:Pos}(hg:Gl X "range")(hm:X.mg "range" = b_)(ha:PA X [x] ta)(hs:UL [x] X.env=[(false,eval x X.env)]:=by rfl):PI X tg (.Call (.Name "range" p) [x] [] pos) (OJ ta):=by intro td s σ H R I h;refine Call_<|jS I hg hm boot_range<|WK (thn (ha pos td s σ H _ I h) λus s1 z9=>?_) hs rfl;let⟨vs,H1,I1,r1,q1⟩:=z9;let⟨j,rfl,⟨h1,h2⟩,q⟩:=JO q1;let⟨u,rfl,t,rfl⟩:=vals1 r1;show call_range_1<|B6 I1 ⋯ ⋯ h1 h2 (ke q)
def G9{Q:Int->Int->Prop}(h:match vs with|[.int i,.int j]=>Q i j|_=>False):∃i j,vs=[.int i,.int j]/\Q i j:=by
 split at h
 ·show⟨_,_,rfl,h⟩
 ·show h.elim
def pr2{x y:v_}{ta:TA}{p:Pos}(hg:Gl X "range")(hm:X.mg "range" = b_)(ha:PA X [x,y] ta)(hs:UL [x,y] X.env=[(false,eval x X.env),(false,eval y X.env)]:=by rfl)(g8:UL [y] X.env=[(false,eval y X.env)]:=by rfl):
  PI X tg (.Call (.Name "range" p) [x,y] [] pos) (OK ta):=by
 intro td s σ H R I h;refine Call_ (jS I hg hm boot_range<|WK (thn (ha pos td s σ H _ I h) λus s1 hz=>?_) (by rw[hs,g8]) (by rw[g8];rfl));let⟨vs,H1,I1,r1,q1⟩:=hz;let⟨i,j,e,⟨h1,h2,h3,h4⟩,q⟩:=G9 (Q:=λi j=>(-(2 ^ 62)<=i/\i<2 ^ 62/\-(2 ^ 62)<=j/\j<2 ^ 62)/\R (Itr i (j-i).toNat) H1) q1;subst e;let⟨u,w',rfl,⟨t,rfl⟩,⟨t',rfl⟩⟩:=vals2 r1;show call_range_2<|B6 I1 h1 h2 h3 h4 q
abbrev OL(t:TE):TO:=λσ H Q=>t σ H λx H1=>match x with
 |.int i=>Q (a_ i) H1
 |_=>False
def Ga{x:v_}(h:PE X x te):PO X (a_ x) (OL te):=by
 intro td s σ H Q I hw;rw[evalPart_some];refine thn (Ym _ I hw) λu s1 z9=>?_;let⟨x,H1,I1,r1,q1⟩:=z9;cases x with
 |int i=>let⟨t,rfl⟩:=r1;show⟨a_ i,H1,I1,.int i t,q1⟩
 |_=>exact q1.elim
end
structure Def(K:Us)(mg:m_ 0)(x:Str)(st:w_)(f:s_)(fd:V7)(ps:x_ Str):Prop where
 fn:Fun K x x st f fd
 mg:mg x=c_ f
 bd:Binds K fd ps []
def OM{f:s_}{k:Nat}{t:TA}{p:Pos}(D:Def X.K X.mg x st f fd ps)(G:G_ CX0 k f fd ps sp)(hr:eT k X.A)(ha:PA X (e::es) t)(hg:Gl X x:=by rfl)(b5:(x == ("__debug__" : Str))=false:=by decide)(he:UL (e::es) X.env=(false,S_ 0)::U_ 0:=by rfl)(bh:(Yc<|U_ 0).any (·.1)=false:=by rfl):
  PE X (.Call (.Name x p) (e::es) [] pos) (FU sp [] E0 t):=Jv G hr hg D.mg D.fn.kp D.bd .nil Bb ha b5 he bh
def MA{α:Type}{xs:x_ α}{i:Int}(h0:0<=i)(h1:i<xs.length):∃v,atI xs i=a_ v/\xs[i.toNat]?=a_ v:=by
 let h2:i.toNat<xs.length:=⋯;refine⟨xs[i.toNat],?_,by simp[h2]⟩;unfold atI ixN;rw[if_pos h0,if_pos h1];simp[h2]
def aK{α:Type}{xs:x_ α}{v:α}(h:xs[i]?=a_ v):atI xs (i:Int)=a_ v:=by let h1:=(SC.mp h).1;unfold atI ixN;rw[if_pos ⋯,if_pos ⋯];simpa using h
variable{o:HO}
def Bc.upd(h:H a=b_):Bc H (R_ a o):=λb u e=>by rw[aH<|cS e h];show e
def Def.mk'{h:u_}{f:s_}{oc:q_}{kV:q_}(X:K.In h)(G:h.Ns VI mg)(a:X1 K VI x=a_ (c_ f))(l:K.lookup f=a_ ⟨oc,od,.func<|We x x (eX st) (cK st) (aS st) .none kV doc pm an cdv ct,osl⟩)(c:X0 K cdv x=true)(k:Wo K (.ref f)=true)(b:∀(kV doc pm:q_)(an:y_ s_)(cdv ct:q_)(us:x_ q_),us.length=ps.length->bindArgs (We x x (eX st) (cK st) (aS st) .none kV doc pm an cdv ct) ⟨us,[]⟩=pure (ps.zip us)):
  Def K mg x st f (We x x (eX st) (cK st) (aS st) .none kV doc pm an cdv ct) ps:=
 ⟨Cy l c k,WD X G a,(Cy (st:=st) l c k).binds b⟩
open PySem.SeqAt
inductive D where
 |non|bl (b:Bool)|int (i:Int)|str (x:Str)|tup (xs:x_ D)
mutual
def D.depth:D->Nat
 |.tup xs=>D.depths xs+1
 |_=>0
def D.depths:x_ D->Nat
 |[]=>0
 |x::xs=>max (D.depth x) (D.depths xs)
end
def D.depths_le:∀{xs:x_ D}{i:Nat}{d:D},xs[i]?=a_ d->d.depth<=D.depths xs
 |[],_,_,h=>by simp at h
 |x::xs,0,d,h=>by
  have:x=d:=by simpa using h
  subst this
  change x.depth<=max x.depth (D.depths xs)
  omega
 |x::xs,i+1,d,h=>by
  have:=D.depths_le (xs:=xs) (i:=i) (d:=d)<|ke h
  change d.depth<=max x.depth (D.depths xs)
  omega
mutual
def Rep(K:Us)(H:Hp):D->V->Prop
 |.non,v=>v=.non
 |.bl b,v=>v=.bl b
 |.int i,v=>v=.int i
 |.str x,v=>v=.str x
 |.tup ds,v=>∃a vs,v=.ref a/\SqT K H a vs/\eV K H ds vs
def eV(K:Us)(H:Hp):x_ D->x_ V->Prop
 |[],[]=>True
 |d::ds,v::vs=>Rep K H d v/\eV K H ds vs
 |[],_::_=>False
 |_::_,[]=>False
end
mutual
def eqD:D->D->Bool
 |.non,.non=>true
 |.bl a,.bl b=>a == b
 |.bl a,.int b=>(if a then 1 else 0) == b
 |.int a,.bl b=>a == (if b then 1 else 0)
 |.int a,.int b=>a == b
 |.str a,.str b=>a == b
 |.tup xs,.tup ys=>gO xs ys
 |_,_=>false
def gO:x_ D->x_ D->Bool
 |[],[]=>true
 |x::xs,y::ys=>eqD x y&&gO xs ys
 |[],_::_=>false
 |_::_,[]=>false
end
mutual
def ltD:D->D->y_ Bool
 |.int a,.int b=>a_ (decide (a<b))
 |.str a,.str b=>a_ (decide (a.cps.toList<b.cps.toList))
 |.tup xs,.tup ys=>pJ xs ys
 |_,_=>b_
def pJ:x_ D->x_ D->y_ Bool
 |[],[]=>a_ false
 |[],_::_=>a_ true
 |_::_,[]=>a_ false
 |x::xs,y::ys=>if eqD x y=true then pJ xs ys else ltD x y
end
mutual
theorem vA:∀d:D,eqD d d=true
 |.non=>rfl
 |.bl b=>by simp[eqD]
 |.int i=>by simp[eqD]
 |.str x=>by simp[eqD]
 |.tup xs=>by simp only[eqD];show yL xs
theorem yL:∀ds:x_ D,gO ds ds=true
 |[]=>rfl
 |d::ds=>by simp only[gO,vA d,yL ds,Bool.and_self]
end
abbrev jY(H H':Hp):Prop:=∀a xs,Rd H a (.tup xs)->Rd H' a (.tup xs)
def jY.refl(H:Hp):jY H H:=λ_ _ h=>h
variable{H1 H2:Hp}
def jY.trans(a:jY H H1)(b:jY H1 H2):jY H H2:=λc xs h=>b c xs<|a c xs h
def jY.same(s:Bc H H'):jY H H':=λa xs h=>by
 rcases h with h|⟨o,h⟩
 ·show .inl (s _ _ h)
 ·show .inr ⟨o,s _ _ h⟩
abbrev tH:y_ HO->Prop
 |some (.tup _)=>False
 |some (.frz _ _)=>False
 |_=>True
def jY.upd{p:s_}(h:tH (H p)):jY H (R_ p o):=λa xs q=>by
 let ne:a≠p:=by
  rintro rfl;rcases q with q|⟨ob,q⟩
  ·rw[q]at h;show h
  ·rw[q]at h;show h
 rcases q with q|⟨ob,q⟩
 ·show .inl (by rw[aH ne];show q)
 ·show .inr ⟨ob,by rw[aH ne];show q⟩
def jY.sq{xs:x_ V}(t:jY H H')(h:SqT K H a xs):SqT K H' a xs:=by
 rcases h with h|h
 ·show .inl (t a xs h)
 ·show .inr h
mutual
theorem Rep.tp(t:jY H H'):∀{d:D}{v:V},Rep K H d v->Rep K H' d v
 |.non,_,h=>h
 |.bl _,_,h=>h
 |.int _,_,h=>h
 |.str _,_,h=>h
 |.tup ds,_,⟨a,vs,e,q,r⟩=>⟨a,vs,e,t.sq q,eV.tp t r⟩
theorem eV.tp(t:jY H H'):∀{ds:x_ D}{vs:x_ V},eV K H ds vs->eV K H' ds vs
 |[],[],_=>trivial
 |_::_,_::_,⟨h,r⟩=>⟨Rep.tp t h,eV.tp t r⟩
 |[],_::_,h=>h.elim
 |_::_,[],h=>h.elim
end
def eV.length:∀{ds:x_ D}{vs:x_ V},eV K H ds vs->ds.length=vs.length
 |[],[],_=>rfl
 |_::_,_::_,⟨_,r⟩=>by simp[eV.length r]
 |[],_::_,h=>h.elim
 |_::_,[],h=>h.elim
def eV.get:∀{ds:x_ D}{vs:x_ V}{i:Nat}{v:V},eV K H ds vs->vs[i]?=a_ v->∃d,ds[i]?=a_ d/\Rep K H d v
 |[],[],_,_,_,e=>by simp at e
 |d::_,w::_,0,v,⟨h,_⟩,e=>by
  have:w=v:=by simpa using e
  subst this;show⟨d,rfl,h⟩
 |_::ds,_::vs,i+1,v,⟨_,r⟩,e=>by
  let⟨d,h1,h2⟩:=eV.get (ds:=ds) (vs:=vs) (i:=i) (v:=v) r<|ke e;show⟨d,ke h1,h2⟩
 |[],_::_,_,_,h,_=>h.elim
 |_::_,[],_,_,h,_=>h.elim
def eV.at:∀{ds:x_ D}{vs:x_ V}{i:Nat}{d:D},eV K H ds vs->ds[i]?=a_ d->∃v,vs[i]?=a_ v/\Rep K H d v
 |[],[],_,_,_,e=>by simp at e
 |d::_,w::_,0,d',⟨h,_⟩,e=>by
  have:d=d':=by simpa using e
  subst this;show⟨w,rfl,h⟩
 |_::ds,_::vs,i+1,d,⟨_,r⟩,e=>by
  let⟨v,h1,h2⟩:=eV.at (ds:=ds) (vs:=vs) (i:=i) (d:=d) r<|ke e;show⟨v,ke h1,h2⟩
 |[],_::_,_,_,h,_=>h.elim
 |_::_,[],_,_,h,_=>h.elim
variable{b:Bool}{its its':x_ q_}{nh:x_ V}
section
def jZ{v u:q_}(h:RcAt A s v u b)(hs:v=u->b=true)(hf:∀f t,v≠.float f t):EqAt A s v u b:=λprog w E Q hq=>by
 unfold eqBool;refine VY ?_;refine wpAny_ite_split (λUm=>?_)<|λ_=>?_
 ·let e:=hs<|eq_of_beq Um;subst e;show SB<|Xo<|SL hq
 ·cases v <;> first|exact absurd rfl (hf _ _)|exact SB (h prog w E _<|wpAny_truthy_bool hq)|(cases u <;> exact SB (h prog w E _<|wpAny_truthy_bool hq))
def yM{d:D}{x:V}{v:q_}(h:Rep K H d x)(r:RelV x v):∀f t,v≠.float f t:=λf t e=>by
 subst e;cases d with
 |non=>cases h;cases r
 |bl b=>cases h;cases r
 |int b=>cases h;let⟨_,z⟩:=r;cases z
 |str b=>cases h;let⟨_,z⟩:=r;cases z
 |tup ds=>let⟨_,_,rfl,_⟩:=h;cases r
def uL(I:H_ s):∀(n:Nat)(d e:D)(v:V),d.depth<=n->Rep X.K H d v->Rep X.K H e v->d=e
 |n,.non,e,v,_,h,h'=>by
  cases h
  cases e <;> first|(let⟨_,_,z,_⟩:=h';show absurd z (by intro q;cases q))|rfl|exact absurd h' (by intro z;cases z)
 |n,.bl b,e,v,_,h,h'=>by
  cases h
  cases e <;> first|(let⟨_,_,z,_⟩:=h';show absurd z (by intro q;cases q))|(cases h';rfl)|exact absurd h' (by intro z;cases z)
 |n,.int i,e,v,_,h,h'=>by
  cases h
  cases e <;> first|(let⟨_,_,z,_⟩:=h';show absurd z (by intro q;cases q))|(cases h';rfl)|exact absurd h' (by intro z;cases z)
 |n,.str x,e,v,_,h,h'=>by
  cases h
  cases e <;> first|(let⟨_,_,z,_⟩:=h';show absurd z (by intro q;cases q))|(cases h';rfl)|exact absurd h' (by intro z;cases z)
 |0,.tup ds,e,v,hd,h,h'=>absurd hd (by change ¬ V_ 0+1<=0;omega)
 |n+1,.tup ds,e,v,hd,h,h'=>by
  let⟨a,vs,rfl,q,r⟩:=h;cases e with
  |tup es=>
   let⟨a',nh,ea,q',r'⟩:=h';cases ea
   have:=I.tuple_inj q q';subst this;let d8:V_ 0+1<=n+1:=hd;have:ds=es:=by
    apply W8;intro i;cases hi:ds[i]? with
    |none=>have h1:=r.length;let h2:=r'.length;have:ds.length<=i:=List.getElem?_eq_none_iff.mp hi;show(List.getElem?_eq_none_iff.mpr ⋯).symm
    |some d=>let⟨v,hv,hr⟩:=r.at hi;let⟨e,he,j6⟩:=r'.get hv;rw[he,uL I n d e v (by have:=D.depths_le hi;omega) hr j6]
   rw[this]
  |_=>cases h'
def pK{xs ys:x_ D}:((U9<|min xs.length ys.length).all (λj=>match xs[j]?,ys[j]? with|some x,a_ y=>eqD x y|_,_=>false)&&xs.length == ys.length)=gO xs ys:=by
 induction xs generalizing ys with
 |nil=>
  cases ys with
  |nil=>rfl
  |cons y ys=>simp[gO]
 |cons x xs ih=>
  cases ys with
  |nil=>simp[gO]
  |cons y ys=>
   have:=ih (ys:=ys);let e:min (x::xs).length (y::ys).length=min xs.length ys.length+1:=by simp only[VA];omega
   rw[e,List.range_succ_eq_map,WW,Xu];simp only[List.getElem?_cons_zero,Function.comp_def,VN,VA,gO];rw[<-this];let e2:(xs.length+1 == ys.length+1)=(xs.length == ys.length):=by simp
   rw[e2,Bool.and_assoc]
def ON(I:H_ s):∀(n:Nat)(d e:D)(A:t_)(x y:V)(v u:q_),d.depth<=n->A.units+n<cLine->Rep X.K H d x->Rep X.K H e y->RelV x v->RelV y u->RcAt A s v u (eqD d e):=by
 intro n
 induction n with
 |zero=>
  intro d e A x y v u hd hu hx hy rx ry;cases d with
  |tup ds=>exact absurd hd (by change ¬ V_ 0+1<=0;omega)
  |non=>
   cases hx;cases rx;cases e with
   |non=>cases hy;cases ry;show RcAt.none_none
   |bl b=>cases hy;cases ry;show RcAt.none_bool b
   |int b=>cases hy;let⟨t,rfl⟩:=ry;show RcAt.none_int b t
   |str b=>cases hy;let⟨t,rfl⟩:=ry;show RcAt.none_str b t
   |tup es=>let⟨a,vs,rfl,q,r⟩:=hy;cases ry;let⟨its,_,p,_⟩:=I.tuple q;show RcAt.none_tuple p ⋯
  |bl a=>
   cases hx;cases rx;cases e with
   |non=>cases hy;cases ry;show RcAt.bool_none a
   |bl b=>cases hy;cases ry;show RcAt.bool_bool a b
   |int b=>cases hy;let⟨t,rfl⟩:=ry;show RcAt.bool_int a b t
   |str b=>cases hy;let⟨t,rfl⟩:=ry;show RcAt.bool_str a b t
   |tup es=>let⟨a',vs,rfl,q,r⟩:=hy;cases ry;let⟨its,_,p,_⟩:=I.tuple q;show RcAt.bool_tuple a p ⋯
  |int a=>
   cases hx;let⟨t',rfl⟩:=rx;cases e with
   |non=>cases hy;cases ry;show RcAt.int_none a t'
   |bl b=>cases hy;cases ry;show RcAt.int_bool a t' b
   |int b=>cases hy;let⟨t,rfl⟩:=ry;show RcAt.int_int a t' b t
   |str b=>cases hy;let⟨t,rfl⟩:=ry;show RcAt.int_str a t' b t
   |tup es=>let⟨a',vs,rfl,q,r⟩:=hy;cases ry;let⟨its,_,p,_⟩:=I.tuple q;show RcAt.int_tuple a t' p ⋯
  |str a=>
   cases hx;let⟨t',rfl⟩:=rx;cases e with
   |non=>cases hy;cases ry;show RcAt.str_none a t'
   |bl b=>cases hy;cases ry;show RcAt.str_bool a t' b
   |int b=>cases hy;let⟨t,rfl⟩:=ry;show RcAt.str_int a t' b t
   |str b=>cases hy;let⟨t,rfl⟩:=ry;show RcAt.str_str a t' b t
   |tup es=>let⟨a',vs,rfl,q,r⟩:=hy;cases ry;let⟨its,_,p,_⟩:=I.tuple q;show RcAt.str_tuple a t' p ⋯
 |succ n ih=>
  intro d e A x y v u hd hu hx hy rx ry;by_cases h0:d.depth<=n
  ·show ih d e A x y v u h0 ⋯ hx hy rx ry
  ·cases d with
   |non=>exact absurd (show D.depth .non<=n from U5 n) h0
   |bl b=>exact absurd (show D.depth (.bl b)<=n from U5 n) h0
   |int b=>exact absurd (show D.depth (.int b)<=n from U5 n) h0
   |str b=>exact absurd (show D.depth (.str b)<=n from U5 n) h0
   |tup ds=>
    let nj:V_ 0<=n:=by have:V_ 0+1<=n+1:=hd;omega
    let⟨a,vs,rfl,q,r⟩:=hx;cases rx
    let⟨its,rv,p,_⟩:=I.tuple q;cases e with
    |non=>cases hy;cases ry;show RcAt.tuple_none p ⋯
    |bl b=>cases hy;cases ry;show RcAt.tuple_bool b p ⋯
    |int b=>cases hy;let⟨t,rfl⟩:=ry;show RcAt.tuple_int b t p ⋯
    |str b=>cases hy;let⟨t,rfl⟩:=ry;show RcAt.tuple_str b t p ⋯
    |tup es=>
     let⟨a',nh,rfl,q',r'⟩:=hy;cases ry
     let⟨its',bg,p',_⟩:=I.tuple q';let l1:=r.length;let l2:=r'.length;let l3:=rv.length;let l4:=bg.length;let key:=RcAt.tuples (A:=A) (e:=λj=>match ds[j]?,es[j]? with|some x,a_ y=>eqD x y|_,_=>false) p p' ⋯ (λj h1 h2=>by
      let i7:j<ds.length:=by simp at h1;omega
      let fe:j<es.length:=by simp at h2;omega
      let g1:ds[j]?=a_ ds[j]:=by simp[i7]
      let g2:es[j]?=a_ es[j]:=by simp[fe]
      let⟨xv,p9,my⟩:=r.at g1;let⟨yv,rn,n9⟩:=r'.at g2;let⟨xu,n0,d9⟩:=rv.get p9;let⟨yu,mw,df⟩:=bg.get rn;let e1:its.toArray[j]=xu:=by have:its[j]?=a_ xu:=n0;simpa using(SC.mp this).2
      let e2:its'.toArray[j]=yu:=by have:its'[j]?=a_ yu:=mw;simpa using(SC.mp this).2
      rw[e1,e2];simp only[g1,g2];let zk:=D.depths_le g1;refine jZ (ih ds[j] es[j] A.in1 xv yv xu yu ⋯ (by change A.units+1+n<cLine;omega) my n9 d9 df) (λev=>by
      subst ev;let xq:xv=yv:=RelV.inj d9 df;subst xq;rw[uL I n ds[j] es[j] xv ⋯ my n9];show vA _) (yM my d9))
     let sz:((U9<|min its.toArray.size its'.toArray.size).all (λj=>match ds[j]?,es[j]? with|some x,a_ y=>eqD x y|_,_=>false)&&its.toArray.size == its'.toArray.size)=eqD (.tup ds) (.tup es):=by
      let a1:its.toArray.size=ds.length:=by simp;omega
      let a2:its'.toArray.size=es.length:=by simp;omega
      rw[a1,a2];simp only[eqD];show pK
     rw[<-sz];show key
def MB(I:H_ s){d e:D}{x:V}{v u:q_}(hd:d.depth<=n)(hu:A.units+n<cLine)(hx:Rep X.K H d x)(hy:Rep X.K H e y)(rx:RelV x v)(ry:RelV y u):EqAt A s v u (eqD d e):=jZ (ON I n d e A x y v u hd hu hx hy rx ry) (λev=>by subst ev;let xq:x=y:=RelV.inj rx ry;subst xq;rw[uL I n d e x hd hx hy];show vA _)<|yM hx rx
def MD(I:H_ s):∀(n:Nat)(d e:D)(A:t_)(x y:V)(v u:q_),d.depth<=n->A.units+n<cLine->Rep X.K H d x->Rep X.K H e y->RelV x v->RelV y u->RcNeAt A s v u (!eqD d e):=by
 intro n
 induction n with
 |zero=>
  intro d e A x y v u hd hu hx hy rx ry;cases d with
  |tup ds=>exact absurd hd (by change ¬ V_ 0+1<=0;omega)
  |non=>
   cases hx;cases rx;cases e with
   |non=>cases hy;cases ry;show RcNeAt.none_none
   |bl b=>cases hy;cases ry;show RcNeAt.none_bool b
   |int b=>cases hy;let⟨t,rfl⟩:=ry;show RcNeAt.none_int b t
   |str b=>cases hy;let⟨t,rfl⟩:=ry;show RcNeAt.none_str b t
   |tup es=>let⟨a,vs,rfl,q,r⟩:=hy;cases ry;let⟨its,_,p,_⟩:=I.tuple q;show RcNeAt.none_tuple p ⋯
  |bl a=>
   cases hx;cases rx;cases e with
   |non=>cases hy;cases ry;show RcNeAt.bool_none a
   |bl b=>cases hy;cases ry;show RcNeAt.bool_bool a b
   |int b=>cases hy;let⟨t,rfl⟩:=ry;show RcNeAt.bool_int a b t
   |str b=>cases hy;let⟨t,rfl⟩:=ry;show RcNeAt.bool_str a b t
   |tup es=>let⟨a',vs,rfl,q,r⟩:=hy;cases ry;let⟨its,_,p,_⟩:=I.tuple q;show RcNeAt.bool_tuple a p ⋯
  |int a=>
   cases hx;let⟨t',rfl⟩:=rx;cases e with
   |non=>cases hy;cases ry;show RcNeAt.int_none a t'
   |bl b=>cases hy;cases ry;show RcNeAt.int_bool a t' b
   |int b=>cases hy;let⟨t,rfl⟩:=ry;show RcNeAt.int_int a t' b t
   |str b=>cases hy;let⟨t,rfl⟩:=ry;show RcNeAt.int_str a t' b t
   |tup es=>let⟨a',vs,rfl,q,r⟩:=hy;cases ry;let⟨its,_,p,_⟩:=I.tuple q;show RcNeAt.int_tuple a t' p ⋯
  |str a=>
   cases hx;let⟨t',rfl⟩:=rx;cases e with
   |non=>cases hy;cases ry;show RcNeAt.str_none a t'
   |bl b=>cases hy;cases ry;show RcNeAt.str_bool a t' b
   |int b=>cases hy;let⟨t,rfl⟩:=ry;show RcNeAt.str_int a t' b t
   |str b=>cases hy;let⟨t,rfl⟩:=ry;show RcNeAt.str_str a t' b t
   |tup es=>let⟨a',vs,rfl,q,r⟩:=hy;cases ry;let⟨its,_,p,_⟩:=I.tuple q;show RcNeAt.str_tuple a t' p ⋯
 |succ n ih=>
  intro d e A x y v u hd hu hx hy rx ry;by_cases h0:d.depth<=n
  ·show ih d e A x y v u h0 ⋯ hx hy rx ry
  ·cases d with
   |non=>exact absurd (show D.depth .non<=n from U5 n) h0
   |bl b=>exact absurd (show D.depth (.bl b)<=n from U5 n) h0
   |int b=>exact absurd (show D.depth (.int b)<=n from U5 n) h0
   |str b=>exact absurd (show D.depth (.str b)<=n from U5 n) h0
   |tup ds=>
    let nj:V_ 0<=n:=by have:V_ 0+1<=n+1:=hd;omega
    let⟨a,vs,rfl,q,r⟩:=hx;cases rx
    let⟨its,rv,p,_⟩:=I.tuple q;cases e with
    |non=>cases hy;cases ry;show RcNeAt.tuple_none p ⋯
    |bl b=>cases hy;cases ry;show RcNeAt.tuple_bool b p ⋯
    |int b=>cases hy;let⟨t,rfl⟩:=ry;show RcNeAt.tuple_int b t p ⋯
    |str b=>cases hy;let⟨t,rfl⟩:=ry;show RcNeAt.tuple_str b t p ⋯
    |tup es=>
     let⟨a',nh,rfl,q',r'⟩:=hy;cases ry
     let⟨its',bg,p',_⟩:=I.tuple q';let l1:=r.length;let l2:=r'.length;let l3:=rv.length;let l4:=bg.length;let key:=RcNeAt.tuples (A:=A) (e:=λj=>match ds[j]?,es[j]? with|some x,a_ y=>eqD x y|_,_=>false) p p' ⋯ (λj h1 h2=>by
      let i7:j<ds.length:=by simp at h1;omega
      let fe:j<es.length:=by simp at h2;omega
      let g1:ds[j]?=a_ ds[j]:=by simp[i7]
      let g2:es[j]?=a_ es[j]:=by simp[fe]
      let⟨xv,p9,my⟩:=r.at g1;let⟨yv,rn,n9⟩:=r'.at g2;let⟨xu,n0,d9⟩:=rv.get p9;let⟨yu,mw,df⟩:=bg.get rn;let e1:its.toArray[j]=xu:=by have:its[j]?=a_ xu:=n0;simpa using(SC.mp this).2
      let e2:its'.toArray[j]=yu:=by have:its'[j]?=a_ yu:=mw;simpa using(SC.mp this).2
      rw[e1,e2];simp only[g1,g2];let zk:=D.depths_le g1;show MB I (n:=n) ⋯ (by change A.units+1+n<cLine;omega) my n9 d9 df)
     let sz:(!((U9<|min its.toArray.size its'.toArray.size).all (λj=>match ds[j]?,es[j]? with|some x,a_ y=>eqD x y|_,_=>false)&&its.toArray.size == its'.toArray.size))=(!eqD (.tup ds) (.tup es)):=by
      let a1:its.toArray.size=ds.length:=by simp;omega
      let a2:its'.toArray.size=es.length:=by simp;omega
      rw[a1,a2];simp only[eqD];rw[pK]
     rw[<-sz];show key
abbrev R1(K:Us):R2:=λx y H Q=>∃d e,Rep K H d x/\Rep K H e y/\d.depth<=40/\Q (.bl<|eqD d e) H
abbrev R3(K:Us):R2:=λx y H Q=>∃d e,Rep K H d x/\Rep K H e y/\d.depth<=40/\Q (.bl<|!eqD d e) H
def ME(hu:X.A.units+64<cLine)(K:Us)(hK:X.K=K):Yg (Vc .Eq) (R1 K):=by subst hK;intro td s σ H x y v u Q I rx ry h;let⟨d,e,hx,hy,hd,q⟩:=h;show ON I 40 d e X.A x y v u hd ⋯ hx hy rx ry X.prog X.w X.xe _ ⟨.bl _,H,I,rfl,q⟩
def MF(hu:X.A.units+64<cLine)(K:Us)(hK:X.K=K):Yg (Vc .NotEq) (R3 K):=by subst hK;intro td s σ H x y v u Q I rx ry h;let⟨d,e,hx,hy,hd,q⟩:=h;show MD I 40 d e X.A x y v u hd ⋯ hx hy rx ry X.prog X.w X.xe _ ⟨.bl _,H,I,rfl,q⟩
abbrev EG(K:Us)(H:Hp)(ds:x_ D)(v:V):Prop:=∃a vs,v=.ref a/\SqL K H a vs/\eV K H ds vs
def yN{xs ys:x_ D}(h:xs.length=ys.length):(U9 xs.length).all (λj=>match xs[j]?,ys[j]? with|some x,a_ y=>eqD x y|_,_=>false)=gO xs ys:=by have:=pK (xs:=xs) (ys:=ys);rw[h,Nat.min_self,beq_self_eq_true,Bool.and_true]at this;rw[h];show this
def Bj{xs ys:x_ D}(h:gO xs ys=true):xs.length=ys.length:=by rw[<-pK,UQ]at h;show eq_of_beq h.2
def vB{I:H_ s}{ds es:x_ D}(r:eV X.K H ds vs)(r':eV X.K H es nh)(rv:aJ vs its)(bg:aJ nh its')(hd:V_ 0<=40)(hu:A.units+42<cLine):
  ∀j(h1:j<its.toArray.size)(h2:j<its'.toArray.size),EqAt A.in1 s its.toArray[j] its'.toArray[j] (match ds[j]?,es[j]? with|some x,a_ y=>eqD x y|_,_=>false):=λj h1 h2=>by
 let l1:=r.length;let l2:=r'.length;let l3:=rv.length;let l4:=bg.length;let i7:j<ds.length:=by simp at h1;omega
 let fe:j<es.length:=by simp at h2;omega
 let g1:ds[j]?=a_ ds[j]:=by simp[i7]
 let g2:es[j]?=a_ es[j]:=by simp[fe]
 let⟨xv,p9,my⟩:=r.at g1;let⟨yv,rn,n9⟩:=r'.at g2;let⟨xu,n0,d9⟩:=rv.get p9;let⟨yu,mw,df⟩:=bg.get rn;let e1:its.toArray[j]=xu:=by simpa using(SC.mp n0).2
 let e2:its'.toArray[j]=yu:=by simpa using(SC.mp mw).2
 rw[e1,e2];simp only[g1,g2];let zk:=D.depths_le g1;show MB I (n:=40) ⋯ (by change A.units+1+40<cLine;omega) my n9 d9 df
abbrev R4(K:Us):R2:=λx y H Q=>∃ds es,EG K H ds x/\EG K H es y/\V_ 0<=40/\Q (.bl<|gO ds es) H
abbrev R5(K:Us):R2:=λx y H Q=>∃ds es,EG K H ds x/\EG K H es y/\V_ 0<=40/\Q (.bl<|!gO ds es) H
def MG(hu:X.A.units+64<cLine)(K:Us)(hK:X.K=K):Yg (Vc .Eq) (R4 K):=by
 subst hK;intro td s σ H x y v u Q I rx ry h;let⟨ds,es,⟨a,vs,rfl,q,r⟩,⟨b,nh,rfl,q',r'⟩,hd,k⟩:=h;cases rx;cases ry;let⟨its,rv,p,_⟩:=I.list q;let⟨its',bg,p',_⟩:=I.list q';let l1:=r.length;let l2:=r'.length;let l3:=rv.length;let l4:=bg.length;by_cases hl:ds.length=es.length
 ·refine eq_listAt p.isList p'.isList (by simp;omega) ⋯ (vB (I:=I) r r' rv bg hd ⋯) ⟨.bl _,H,I,rfl,?_⟩;let e1:its.toArray.size=ds.length:=by simp;omega
  rw[e1,yN hl];show k
 ·refine eq_list_lengthsAt p.isList p'.isList (by simp;omega) ⋯ ⟨.bl false,H,I,rfl,?_⟩;let e:gO ds es=false:=by
   cases h:gO ds es with
   |false=>rfl
   |true=>exact absurd (Bj h) hl
  rw[e]at k;show k
def MH(hu:X.A.units+64<cLine)(K:Us)(hK:X.K=K):Yg (Vc .NotEq) (R5 K):=by
 subst hK;intro td s σ H x y v u Q I rx ry h;let⟨ds,es,⟨a,vs,rfl,q,r⟩,⟨b,nh,rfl,q',r'⟩,hd,k⟩:=h;cases rx;cases ry;let⟨its,rv,p,_⟩:=I.list q;let⟨its',bg,p',_⟩:=I.list q';let l1:=r.length;let l2:=r'.length;let l3:=rv.length;let l4:=bg.length;by_cases hl:ds.length=es.length
 ·refine RcNeAt.lists p.isList p'.isList (by simp;omega) ⋯ (vB (I:=I) r r' rv bg hd ⋯) X.prog X.w X.xe _ ⟨.bl _,H,I,rfl,?_⟩;let e1:its.toArray.size=ds.length:=by simp;omega
  rw[e1,yN hl];show k
 ·refine RcNeAt.lists_lengths p.isList p'.isList (by simp;omega) ⋯ X.prog X.w X.xe _ ⟨.bl true,H,I,rfl,?_⟩;let e:gO ds es=false:=by
   cases h:gO ds es with
   |false=>rfl
   |true=>exact absurd (Bj h) hl
  rw[e]at k;show k
abbrev OO(K:Us)(neg:Bool):R2:=λx y H Q=>∃d p ds vs,y=.ref p/\(SqL K H p vs\/SqT K H p vs)/\Rep K H d x/\eV K H ds vs/\V_ 0<=40/\Q (.bl<|if neg then !ds.any (λe=>eqD e d) else ds.any (λe=>eqD e d)) H
abbrev isD(K:Us)(H:Hp)(d:D)(u:q_):Bool:=@decide (∃e x,RelV x u/\Rep K H e x/\e.depth<=40/\eqD e d=true)<|V9 _
def Gb(I:H_ s){d e:D}{x:V}{u:q_}(r:RelV x u)(h:Rep X.K H e x)(hd:e.depth<=40):isD X.K H d u=eqD e d:=by
 unfold isD;cases q:eqD e d with
 |true=>exact @decide_eq_true _ (V9 _) ⟨e,x,r,h,hd,q⟩
 |false=>refine @decide_eq_false _ (V9 _) ?_;rintro⟨e',x',r',h',d8,q'⟩;let ex:x'=x:=RelV.inj r' r;subst ex;rw[uL I 40 e' e x' d8 h' h]at q';rw[q]at q';cases q'
def pL(I:H_ s){d:D}:∀{ds:x_ D}{vs:x_ V}{us:x_ q_},eV X.K H ds vs->aJ vs us->V_ 0<=40->us.any (isD X.K H d)=ds.any λe=>eqD e d
 |[],[],_,_,.nil,_=>rfl
 |e::ds,_::_,_,⟨h,r⟩,.cons rv j8,hd=>by
  let h1:e.depth<=40/\V_ 0<=40:=by have:max e.depth (V_ 0)<=40:=hd;omega
  rw[Xg,Xg,Gb I rv h h1.1,pL I r j8 h1.2]
 |[],_::_,_,h,_,_=>h.elim
 |_::_,[],_,h,_,_=>h.elim
def pM(I:H_ s){A:t_}{d:D}{x:V}{v:q_}(hx:Rep X.K H d x)(rx:RelV x v)(hu:A.units+42<cLine):∀{ds:x_ D}{vs:x_ V}{us:x_ q_},eV X.K H ds vs->aJ vs us->V_ 0<=40->∀u∈us,EqAt A.in1 s u v (isD X.K H d u)
 |[],[],_,_,.nil,_=>λu hu=>by cases hu
 |e::ds,_::_,_,⟨h,r⟩,.cons rv j8,hd=>λu hm=>by
  let h1:e.depth<=40/\V_ 0<=40:=by have:max e.depth (V_ 0)<=40:=hd;omega
  rcases UF.mp hm with rfl|hm
  ·rw[Gb I rv h h1.1];show MB I (n:=40) h1.1 (by change A.units+1+40<cLine;omega) h hx rv rx
  ·show pM I hx rx hu r j8 h1.2 u hm
 |[],_::_,_,h,_,_=>h.elim
 |_::_,[],_,h,_,_=>h.elim
def MJ(hu:X.A.units+64<cLine)(K:Us)(hK:X.K=K):Yg (Vc .In) (OO K false):=by
 subst hK;intro td s σ H x y v u Q I rx ry h;let⟨d,p,ds,vs,rfl,hq,hx,hr,hd,k⟩:=h;cases ry
 rcases hq with hq|hq
 ·let⟨its,r,pl,hz⟩:=I.list hq;refine SeqAt.in_listAt (isD X.K H d) pl.isList (λw hw=>pM I hx rx ⋯ hr r hd w (ke hw)) ⟨.bl _,H,I,rfl,?_⟩;rw[show its.toArray.any (isD X.K H d)=its.any (isD X.K H d) by simp,pL I hr r hd];show k
 ·let⟨its,r,pl,hz⟩:=I.tuple hq;refine SeqAt.in_tupleAt (isD X.K H d) pl (λw hw=>pM I hx rx ⋯ hr r hd w (ke hw)) ⟨.bl _,H,I,rfl,?_⟩;rw[show its.toArray.any (isD X.K H d)=its.any (isD X.K H d) by simp,pL I hr r hd];show k
def EH(hu:X.A.units+64<cLine)(K:Us)(hK:X.K=K):Yg (Vc .NotIn) (OO K true):=by
 subst hK;intro td s σ H x y v u Q I rx ry h;let⟨d,p,ds,vs,rfl,hq,hx,hr,hd,k⟩:=h;cases ry
 rcases hq with hq|hq
 ·let⟨its,r,pl,hz⟩:=I.list hq;refine SeqAt.notIn_listAt (isD X.K H d) pl.isList (λw hw=>pM I hx rx ⋯ hr r hd w (ke hw)) ⟨.bl _,H,I,rfl,?_⟩;rw[show its.toArray.any (isD X.K H d)=its.any (isD X.K H d) by simp,pL I hr r hd];show k
 ·let⟨its,r,pl,hz⟩:=I.tuple hq;refine SeqAt.notIn_tupleAt (isD X.K H d) pl (λw hw=>pM I hx rx ⋯ hr r hd w (ke hw)) ⟨.bl _,H,I,rfl,?_⟩;rw[show its.toArray.any (isD X.K H d)=its.any (isD X.K H d) by simp,pL I hr r hd];show k
end
open PySem
abbrev keyLt:Sum Int Str->Sum Int Str->Bool
 |.inl a,.inl b=>decide (a<b)
 |.inr a,.inr b=>decide (a.cps.toList<b.cps.toList)
 |_,_=>false
abbrev bI:x_ (Sum Int Str)->x_ (Sum Int Str)->Bool
 |[],[]=>false
 |[],_::_=>true
 |_::_,[]=>false
 |x::xs,y::ys=>if x=y then bI xs ys else keyLt x y
abbrev fS:Sum Int Str->Bool
 |.inl _=>true
 |.inr _=>false
@[reducible]def shape(ks:x_ (Sum Int Str)):x_ Bool:=ks.map fS
def DB{a b:Str}(h:a.cps.toList=b.cps.toList):a=b:=by
 cases a;cases b
 congr;show Array.toList_inj.mp h
def Gc{a b:Sum Int Str}(h:keyLt a b=true):keyLt b a=false:=by
 cases a <;> cases b <;> first|rfl|skip
 ·have:_<_:=of_decide_eq_true h;show decide_eq_false ⋯
 ·show decide_eq_false (List.lt_asymm<|of_decide_eq_true h)
def yO{a b:Sum Int Str}(k:fS a=fS b)(h:keyLt a b=false)(h':keyLt b a=false):a=b:=by
 cases a <;> cases b <;> first|cases k|skip
 ·let h1:=of_decide_eq_false h;let h2:=of_decide_eq_false h';congr 1;omega
 ·let h1:=of_decide_eq_false h;let h2:=of_decide_eq_false h';congr 1;show DB<|List.le_antisymm (Xi.mp h2)<|Xi.mp h1
def Gd:∀{a b c:Sum Int Str},fS a=fS b->fS b=fS c->keyLt b a=false->keyLt c b=false->keyLt c a=false
 |.inl a,.inl b,.inl c,_,_,h,h'=>by let h1:¬ b<a:=of_decide_eq_false h;let h2:¬ c<b:=of_decide_eq_false h';show decide_eq_false ⋯
 |.inr a,.inr b,.inr c,_,_,h,h'=>by let h1:a.cps.toList<=b.cps.toList:=Xi.mp<|of_decide_eq_false h;let h2:b.cps.toList<=c.cps.toList:=Xi.mp<|of_decide_eq_false h';show decide_eq_false<|Xi.mpr<|List.le_trans h1 h2
 |.inl _,.inr _,_,k,_,_,_=>by cases k
 |.inr _,.inl _,_,k,_,_,_=>by cases k
 |.inl _,.inl _,.inr _,_,k,_,_=>by cases k
 |.inr _,.inr _,.inl _,_,k,_,_=>by cases k
def uM:∀{a b:x_ (Sum Int Str)},bI a b=true->bI b a=false
 |[],[],_=>rfl
 |[],_::_,_=>rfl
 |_::_,[],h=>by cases h
 |x::xs,y::ys,h=>by
  unfold bI at h⊢;by_cases e:x=y
  ·subst e;rw[X2 0]at h⊢;show uM h
  ·rw[if_neg e]at h;rw[if_neg λz=>e z.symm];show Gc h
def pN:∀{a b:x_ (Sum Int Str)},shape a=shape b->bI a b=false->bI b a=false->a=b
 |[],[],_,_,_=>rfl
 |[],_::_,s,_,_=>by cases s
 |_::_,[],s,_,_=>by cases s
 |x::xs,y::ys,s,h,h'=>by
  let s1:fS x=fS y:=by simpa using congrArg List.head? s
  let s2:shape xs=shape ys:=by simpa using congrArg List.tail s
  unfold bI at h h';by_cases e:x=y
  ·subst e;rw[X2 0]at h h';rw[pN s2 h h']
  ·rw[if_neg e]at h;rw[if_neg λz=>e z.symm]at h';show absurd (yO s1 h h') e
def pO:∀{a b c:x_ (Sum Int Str)},shape a=shape b->shape b=shape c->bI b a=false->bI c b=false->bI c a=false
 |[],[],[],_,_,_,_=>rfl
 |[],[],_::_,_,s',_,_=>by cases s'
 |[],_::_,_,s,_,_,_=>by cases s
 |_::_,[],_,s,_,_,_=>by cases s
 |_::_,_::_,[],_,s',_,_=>by cases s'
 |x::xs,y::ys,z::zs,s,s',h,h'=>by
  let s1:fS x=fS y:=by simpa using congrArg List.head? s
  let s2:shape xs=shape ys:=by simpa using congrArg List.tail s
  let s3:fS y=fS z:=by simpa using congrArg List.head? s'
  let s4:shape ys=shape zs:=by simpa using congrArg List.tail s'
  unfold bI at h h'⊢;by_cases e:y=x
  ·subst e;rw[X2 0]at h;by_cases e':z=y
   ·subst e';rw[X2 0]at h'⊢;show pO s2 s4 h h'
   ·rw[if_neg e']at h'⊢;show h'
  ·rw[if_neg e]at h;by_cases e':z=y
   ·subst e';rw[if_neg e];show h
   ·rw[if_neg e']at h';by_cases e2:z=x
    ·subst e2;exfalso;show e<|yO s3 h h'
    ·rw[if_neg e2];show Gd s1 s3 h h'
open PySem PySem.W PyProof.Rows
section
variable(lt:Nat->Nat->Bool)
abbrev evT{α:Type}:KasT α->α
 |.ret a=>a
 |.ask i j k=>evT (k<|lt i j)
def jI{α β:Type}(f:α->KasT β):∀t:KasT α,F_ (t.bind f)=F_ (f<|F_ t)
 |.ret _=>rfl
 |.ask i j k=>jI f (k<|lt i j)
@[reducible]def pa'(p:Array Nat)(i:Nat):Nat:=p.getD i 0
abbrev STo(p:Array Nat)(k:Nat):Prop:=∀i j,i<=j->j<k->lt (Yf j) (Yf i)=false
abbrev NIc(p:Array Nat)(k:Nat):Prop:=∀i j,i<=j->j<k->lt (Yf i) (Yf j)=false
end
def gU{p:Array Nat}:Yf i=(p[i]?).getD 0:=by unfold pa';simp[Array.getD_eq_getD_getElem?]
structure Ge(lt:Nat->Nat->Bool)(p:Array Nat)(n f:Nat)(r:Array Nat×Nat×Nat):Prop where
 perm:r.1.Perm p
 lo:n<=r.2.1
 hi:r.2.1<=n+f
 q:r.2.2+1<=r.2.1
 ni:NIc lt r.1 r.2.1
 eq:∀i j,r.2.1-(r.2.2+1)<=i->i<r.2.1->r.2.1-(r.2.2+1)<=j->j<r.2.1->lt (pa' r.1 i) (pa' r.1 j)=false
variable{nrem:Nat}
section
variable{lt:Nat->Nat->Bool}(tr:∀i j k,lt j i=false->lt k j=false->lt k i=false)(as:∀i j,lt i j=true->lt j i=false)
include as in
def gH(i:Nat):lt i i=false:=by
 cases h:lt i i with
 |false=>rfl
 |true=>have:=as i i h;rw[h]at this;show this
include tr as
def CC(p:Array Nat):∀f n,1<=n->STo lt p n->n<=F_ (kas_asc p f n)/\F_ (kas_asc p f n)<=n+f/\STo lt p (F_<|kas_asc p f n)
 |0,n,_,h=>⟨Uv _,Uv _,h⟩
 |f+1,n,h1,h=>by
  let e:F_ (kas_asc p (f+1) n)=F_ (if lt (p.getD n 0) (p.getD (n-1) 0)=true then KasT.ret n else kas_asc p f (n+1)):=rfl;rw[e];by_cases c:lt (p.getD n 0) (p.getD (n-1) 0)=true
  ·rw[if_pos c];show⟨Uv _,Nat.le_add_right _ _,h⟩
  ·rw[if_neg c];let c':lt (p.getD n 0) (p.getD (n-1) 0)=false:=by simpa using c
   let h2:STo lt p (n+1):=λi j cp hj=>by
    rcases Wa (Nat.le_of_lt_succ hj) with hj|rfl
    ·show h i j cp hj
    ·rcases Wa cp with hi|rfl
     ·show tr _ _ _ (h i (j-1) ⋯ ⋯) c'
     ·show gH as _
   let⟨a,b,c⟩:=CC p f (n+1) ⋯ h2;show⟨⋯,⋯,c⟩
def rev_eq{p:Array Nat}{a:Nat}(hn:n<=p.size)(eq:∀i j,a<=i->i<n->a<=j->j<n->lt (Yf i) (Yf j)=false)(i j:Nat):
  lt (pa' (kas_rev p a n) i) (pa' (kas_rev p a n) j)=lt (Yf i) (Yf j):=by
 let g:∀k,pa' (kas_rev p a n) k=if a<=k/\k<n then pa' p (a+n-1-k) else Yf k:=λk=>by rw[gU,gU,gU];unfold kas_rev;rw[getElem?_mirror_all hn];split <;> rfl
 let sim:∀k,∃k',pa' (kas_rev p a n) k=Yf k'/\lt (Yf k) (Yf k')=false/\lt (Yf k') (Yf k)=false:=λk=>by
  rw[g];by_cases h:a<=k/\k<n
  ·rw[if_pos h];show⟨_,rfl,eq _ _ h.1 h.2 ⋯ ⋯,eq _ _ ⋯ ⋯ h.1 h.2⟩
  ·rw[if_neg h];show⟨k,rfl,gH as _,gH as _⟩
 let⟨i',ei,i1,i2⟩:=sim i;let⟨j',ej,j1,j2⟩:=sim j;rw[ei,ej];cases h1:lt (Yf i) (Yf j) with
 |false=>exact tr _ _ _ j1<|tr _ _ _ h1 i2
 |true=>
  cases h2:lt (Yf i') (Yf j') with
  |true=>rfl
  |false=>have:=tr _ _ _ j2<|tr _ _ _ h2 i1;rw[h1]at this;show this.symm
def A9:∀f (p:Array Nat) n q,n+f<=p.size->q+1<=n->NIc lt p n->(∀i j,n-(q+1)<=i->i<n->n-(q+1)<=j->j<n->lt (Yf i) (Yf j)=false)->Ge lt p n f (F_<|kas_desc f p n q)
 |0,p,n,q,_,hq,hN,hE=>⟨Xv _,Uv _,Uv _,hq,hN,hE⟩
 |f+1,p,n,q,hs,hq,hN,hE=>by
  let e:F_ (kas_desc (f+1) p n q)=F_ (if lt (p.getD n 0) (p.getD (n-1) 0)=true then(if q>0 then kas_desc f (kas_rev p (n-(q+1)) n) (n+1) 0 else kas_desc f p (n+1) 0)
    else .ask (p.getD (n-1) 0) (p.getD n 0) λd=>if d=true then .ret (p,n,q) else kas_desc f p (n+1) (q+1)):=rfl
  by_cases c:lt (p.getD n 0) (p.getD (n-1) 0)=true
  ·let down:∀p':Array Nat,p'.Perm p->(∀i j,lt (pa' p' i) (pa' p' j)=lt (Yf i) (Yf j))->F_ (kas_desc (f+1) p n q)=F_ (kas_desc f p' (n+1) 0)->Ge lt p n (f+1) (F_<|kas_desc (f+1) p n q):=λp' hp hl Ti=>by
    let r8:NIc lt p' (n+1):=λi j cp hj=>by
     rw[hl];rcases Wa (Nat.le_of_lt_succ hj) with hj|rfl
     ·show hN i j cp hj
     ·rcases Wa cp with hi|rfl
      ·show tr _ _ _ (as _ _ c) (hN i (j-1) ⋯ ⋯)
      ·show gH as _
    let qk:∀i j,n+1-(0+1)<=i->i<n+1->n+1-(0+1)<=j->j<n+1->lt (pa' p' i) (pa' p' j)=false:=λi j h1 h2 h3 h4=>by
     have:i=j:=⋯;subst this;show gH as _
    let ih:=A9 f p' (n+1) 0 (by rw[hp.size_eq];omega) ⋯ r8 qk;rw[<-Ti]at ih;let⟨a1,a2,a3,a4,a5,a6⟩:=ih;show⟨a1.trans hp,⋯,⋯,a4,a5,a6⟩
   rw[if_pos c]at e;by_cases hq0:q>0
   ·rw[if_pos hq0]at e;show down _ (Xw _ _ _ _) (rev_eq tr as ⋯ hE) e
   ·rw[if_neg hq0]at e;show down p (Xv _) (λ_ _=>rfl) e
  ·rw[if_neg c]at e;let c':lt (p.getD n 0) (p.getD (n-1) 0)=false:=by simpa using c
   let e2:F_ (kas_desc (f+1) p n q)=F_ (if lt (p.getD (n-1) 0) (p.getD n 0)=true then KasT.ret (p,n,q) else kas_desc f p (n+1) (q+1)):=e;by_cases d:lt (p.getD (n-1) 0) (p.getD n 0)=true
   ·rw[if_pos d]at e2;rw[e2];show⟨Xv _,Uv _,Nat.le_add_right _ _,hq,hN,hE⟩
   ·rw[if_neg d]at e2;let d':lt (p.getD (n-1) 0) (p.getD n 0)=false:=by simpa using d
    let r8:NIc lt p (n+1):=λi j cp hj=>by
     rcases Wa (Nat.le_of_lt_succ hj) with hj|rfl
     ·show hN i j cp hj
     ·rcases Wa cp with hi|rfl
      ·show tr _ _ _ d' (hN i (j-1) ⋯ ⋯)
      ·show gH as _
    let qk:∀i j,n+1-(q+1+1)<=i->i<n+1->n+1-(q+1+1)<=j->j<n+1->lt (Yf i) (Yf j)=false:=λi j h1 h2 h3 h4=>by
     by_cases hi:i=n
     ·by_cases hj:j=n
      ·rw[hi,hj];show gH as _
      ·rw[hi];show tr _ _ _ (hE (n-1) j ⋯ ⋯ ⋯ ⋯) c'
     ·by_cases hj:j=n
      ·rw[hj];show tr _ _ _ d'<|hE i (n-1) ⋯ ⋯ ⋯ ⋯
      ·show hE i j ⋯ ⋯ ⋯ ⋯
    let ih:=A9 f p (n+1) (q+1) ⋯ ⋯ r8 qk;rw[<-e2]at ih;let⟨a1,a2,a3,a4,a5,a6⟩:=ih;show⟨a1,⋯,⋯,a4,a5,a6⟩
def Bk{p:Array Nat}(h1:1<=n)(hn:n<=nrem)(hz:nrem<=p.size)(hN:NIc lt p n):
  n<=(F_<|kas_tail3 n nrem p).1/\(F_<|kas_tail3 n nrem p).1<=nrem/\(F_<|kas_tail3 n nrem p).2.Perm p/\STo lt (F_<|kas_tail3 n nrem p).2 (F_<|kas_tail3 n nrem p).1:=by
 let e:F_ (kas_tail3 n nrem p)=(F_<|kas_asc (kas_rev p 0 n) (nrem-n) n,kas_rev p 0 n):=by unfold kas_tail3;rw[jI];rfl
 let g:∀k,k<n->pa' (kas_rev p 0 n) k=Yf (n-1-k):=λk hk=>by
  rw[gU,gU];unfold kas_rev;rw[getElem?_mirror_all ⋯,if_pos ⋯];congr 2;omega
 let hS:STo lt (kas_rev p 0 n) n:=λi j cp hj=>by rw[g i ⋯,g j hj];show hN _ _ ⋯ ⋯
 let⟨a,b,c⟩:=CC tr as (kas_rev p 0 n) (nrem-n) n h1 hS;rw[e];show⟨a,by change F_ (kas_asc (kas_rev p 0 n) (nrem-n) n)<=nrem;omega,Xw _ _ _ _,c⟩
def tJ{p:Array Nat}(h1:1<=n)(hn:n+1<=nrem)(hz:nrem<=p.size)(hN:NIc lt p n)(hd:lt (Yf n) (Yf<|n-1)=true):
  1<=(F_<|kas_descPart n nrem p).1/\(F_<|kas_descPart n nrem p).1<=nrem/\(F_<|kas_descPart n nrem p).2.Perm p/\STo lt (F_<|kas_descPart n nrem p).2 (F_<|kas_descPart n nrem p).1:=by
 let r8:NIc lt p (n+1):=λi j cp hj=>by
  rcases Wa (Nat.le_of_lt_succ hj) with hj|rfl
  ·show hN i j cp hj
  ·rcases Wa cp with hi|rfl
   ·show tr _ _ _ (as _ _ hd) (hN i (j-1) ⋯ ⋯)
   ·show gH as _
 let qk:∀i j,n+1-(0+1)<=i->i<n+1->n+1-(0+1)<=j->j<n+1->lt (Yf i) (Yf j)=false:=λi j h1 h2 h3 h4=>by
  have:i=j:=⋯;subst this;show gH as _
 let D:=A9 tr as (nrem-(n+1)) p (n+1) 0 ⋯ ⋯ r8 qk;let e:F_ (kas_descPart n nrem p)=F_ (if(F_<|kas_desc (nrem-(n+1)) p (n+1) 0).2.2>0 then kas_tail3 (F_<|kas_desc (nrem-(n+1)) p (n+1) 0).2.1 nrem (kas_rev (F_<|kas_desc (nrem-(n+1)) p (n+1) 0).1 ((F_<|kas_desc (nrem-(n+1)) p (n+1) 0).2.1-((F_<|kas_desc (nrem-(n+1)) p (n+1) 0).2.2+1)) (F_<|kas_desc (nrem-(n+1)) p (n+1) 0).2.1) else kas_tail3 (F_<|kas_desc (nrem-(n+1)) p (n+1) 0).2.1 nrem (F_<|kas_desc (nrem-(n+1)) p (n+1) 0).1):=by unfold kas_descPart;rw[jI]
 generalize evT lt (kas_desc (nrem-(n+1)) p (n+1) 0)=r at D e;let⟨a1,a2,a3,a4,a5,a6⟩:=D;let sz:r.1.size=p.size:=a1.size_eq;rw[e];by_cases hq:r.2.2>0
 ·rw[if_pos hq];let hl:=rev_eq tr as (p:=r.1) (a:=r.2.1-(r.2.2+1)) (n:=r.2.1) ⋯ a6;let⟨b1,b2,b3,b4⟩:=Bk tr as (n:=r.2.1) (nrem:=nrem) (p:=kas_rev r.1 (r.2.1-(r.2.2+1)) r.2.1) ⋯ ⋯ (by unfold kas_rev;rw[mirror_size];omega) (λi j cp hj=>by rw[hl];show a5 i j cp hj);show⟨⋯,b2,(b3.trans<|Xw _ _ _ _).trans a1,b4⟩
 ·rw[if_neg hq];let⟨b1,b2,b3,b4⟩:=Bk tr as (n:=r.2.1) (nrem:=nrem) (p:=r.1) ⋯ ⋯ ⋯ a5;show⟨⋯,b2,b3.trans a1,b4⟩
def vC(p:Array Nat):∀f n,1<=n->F_ (kas_asc p f n)<n+f->lt (Yf<|F_<|kas_asc p f n) (Yf<|F_ (kas_asc p f n)-1)=true
 |0,n,_,h=>absurd h (Vx _)
 |f+1,n,h1,h=>by
  let e:F_ (kas_asc p (f+1) n)=F_ (if lt (p.getD n 0) (p.getD (n-1) 0)=true then KasT.ret n else kas_asc p f (n+1)):=rfl;rw[e]at h⊢;by_cases c:lt (p.getD n 0) (p.getD (n-1) 0)=true
  ·rw[if_pos c];show c
  ·rw[if_neg c]at h⊢;show vC p f (n+1) ⋯ ⋯
def Gf{p:Array Nat}(h1:1<=nrem)(hz:nrem<=p.size):
  1<=(F_<|kas_count nrem p).1/\(F_<|kas_count nrem p).1<=nrem/\(F_<|kas_count nrem p).2.Perm p/\STo lt (F_<|kas_count nrem p).2 (F_<|kas_count nrem p).1:=by
 let h0:STo lt p 1:=λi j cp hj=>by
  have:i=j:=⋯;subst this;show gH as _
 let⟨a,b,c⟩:=CC tr as p (nrem-1) 1 (Uv _) h0;let stop:=vC tr as p (nrem-1) 1<|Uv _;let e:F_ (kas_count nrem p)=F_ (if(F_ (kas_asc p (nrem-1) 1) == nrem)=true then .ret (F_<|kas_asc p (nrem-1) 1,p) else if F_ (kas_asc p (nrem-1) 1)>1 then .ask (p.getD 0 0) (p.getD (F_ (kas_asc p (nrem-1) 1)-1) 0) λc=>if c=true then .ret (F_<|kas_asc p (nrem-1) 1,p) else kas_descPart (F_<|kas_asc p (nrem-1) 1) nrem (kas_rev p 0<|F_<|kas_asc p (nrem-1) 1) else kas_descPart (F_<|kas_asc p (nrem-1) 1) nrem p):=by unfold kas_count;rw[jI]
 generalize evT lt (kas_asc p (nrem-1) 1)=n at a b c e stop;rw[e];by_cases hn:(n == nrem)=true
 ·rw[if_pos hn];show⟨a,by change n<=nrem;omega,Xv _,c⟩
 ·rw[if_neg hn];let om:n≠nrem:=by simpa using hn
  let st:=stop ⋯;by_cases h2:n>1
  ·rw[if_pos h2];let e2:∀k:Bool->KasT (Nat×Array Nat),F_ (.ask (p.getD 0 0) (p.getD (n-1) 0) k)=F_ (k<|lt (p.getD 0 0)<|p.getD (n-1) 0):=λ_=>rfl;rw[e2];by_cases h3:lt (p.getD 0 0) (p.getD (n-1) 0)=true
   ·rw[if_pos h3];show⟨a,by change n<=nrem;omega,Xv _,c⟩
   ·rw[if_neg h3];let TC:lt (Yf 0) (Yf<|n-1)=false:=by simpa using h3
    let eq:∀i j,0<=i->i<n->0<=j->j<n->lt (Yf i) (Yf j)=false:=λi j _ hi _ hj=>by show tr _ _ _ (c j (n-1) ⋯ ⋯)<|tr _ _ _ TC<|c 0 i ⋯ hi
    let hl:=rev_eq tr as (p:=p) (a:=0) (n:=n) ⋯ eq;let g:pa' (kas_rev p 0 n) n=Yf n:=by rw[gU,gU];unfold kas_rev;rw[getElem?_mirror_all ⋯,if_neg ⋯]
    let⟨b1,b2,b3,b4⟩:=tJ tr as (n:=n) (nrem:=nrem) (p:=kas_rev p 0 n) a ⋯ (by unfold kas_rev;rw[mirror_size];omega) (λi j cp hj=>by rw[hl];show eq i j ⋯ ⋯ ⋯ hj) (by rw[hl];show st);show⟨b1,b2,b3.trans<|Xw _ _ _ _,b4⟩
  ·rw[if_neg h2];let n8:n=1:=⋯;subst n8;show tJ tr as (n:=1) (nrem:=nrem) (p:=p) (Uv _) ⋯ hz (λi j cp hj=>by
    have:i=j:=⋯;subst this;show gH as _) st
def vD(p:Array Nat)(k:Nat)(hS:STo lt p k):∀f l r,r-l<=f->l<=r->r<=k->(∀i,i<l->lt (Yf k) (Yf i)=false)->(∀i,r<=i->i<k->lt (Yf k) (Yf i)=true)->
  l<=F_ (kas_place p k f l r)/\F_ (kas_place p k f l r)<=k/\(∀i,i<F_ (kas_place p k f l r)->lt (Yf k) (Yf i)=false)/\(∀i,F_ (kas_place p k f l r)<=i->i<k->lt (Yf k) (Yf i)=true)
 |0,l,r,hf,hl,hr,h1,h2=>by
  have:l=r:=⋯;subst this;show⟨Uv _,hr,h1,h2⟩
 |f+1,l,r,hf,hl,hr,h1,h2=>by
  let e:F_ (kas_place p k (f+1) l r)=F_ (if l >= r then .ret l else .ask (p.getD k 0) (p.getD ((l+r)/2) 0) λc=>if c=true then kas_place p k f l ((l+r)/2) else kas_place p k f ((l+r)/2+1) r):=rfl;rw[e];by_cases ja:l >= r
  ·rw[if_pos ja];have:l=r:=⋯;subst this;show⟨Uv _,hr,h1,h2⟩
  ·rw[if_neg ja];let e2:∀q:Bool->KasT Nat,F_ (.ask (p.getD k 0) (p.getD ((l+r)/2) 0) q)=F_ (q<|lt (p.getD k 0)<|p.getD ((l+r)/2) 0):=λ_=>rfl;rw[e2];by_cases c:lt (p.getD k 0) (p.getD ((l+r)/2) 0)=true
   ·rw[if_pos c];refine vD p k hS f l ((l+r)/2) ⋯ ⋯ ⋯ h1 λi hi hk=>?_;cases q:lt (Yf k) (Yf i) with
    |true=>rfl
    |false=>
     have:=tr _ _ _ (hS ((l+r)/2) i hi hk) q;rw[show lt (Yf k) (Yf<|(l+r)/2)=true from c]at this
     show this.symm
   ·rw[if_neg c];let c':lt (Yf k) (Yf<|(l+r)/2)=false:=by simpa using c
    let⟨b1,b2,b3,b4⟩:=vD p k hS f ((l+r)/2+1) r ⋯ ⋯ hr (λi hi=>by
     cases q:lt (Yf k) (Yf i) with
     |false=>rfl
     |true=>
      exfalso;let s1:=hS i ((l+r)/2) ⋯ ⋯;let s2:=as _ _ q;have:lt (Yf k) (Yf i)=false:=by
       -- p[mid]<=p[k] (c'),p[i]<=p[mid]
       show tr _ _ _ s1 c'
      rw[q]at this;cases this) h2
    show⟨⋯,b2,b3,b4⟩
def Gg:∀f (p:Array Nat) k,1<=k->k+f<=p.size->STo lt p k->(F_<|kas_bin f p k).Perm p/\STo lt (F_<|kas_bin f p k) (k+f)
 |0,p,k,_,_,h=>⟨Xv _,h⟩
 |f+1,p,k,h1,hz,h=>by
  let e:F_ (kas_bin (f+1) p k)=F_ (kas_bin f (bubble p k<|k-F_ (kas_place p k k 0 k))<|k+1):=by
   change F_ ((kas_place p k k 0 k).bind λl=>kas_bin f (bubble p k<|k-l)<|k+1)=_
   rw[jI]
  let⟨b1,b2,b3,b4⟩:=vD tr as p k h k 0 k ⋯ (U5 _) (Uv _) (λi hi=>absurd hi<|Nat.not_lt_zero _) (λi hi hk=>absurd hk ⋯);generalize evT lt (kas_place p k k 0 k)=l at e b1 b2 b3 b4;let g:∀i,pa' (bubble p k<|k-l) i=if i=l then pa' p k else if l<i/\i<=k then pa' p (i-1) else Yf i:=λi=>by
   rw[gU,gU,gU,gU,getElem?_bubble ⋯ _ ⋯];let el:k-(k-l)=l:=⋯;rw[el];split
   ·rfl
   ·split <;> rfl
  let hS:STo lt (bubble p k<|k-l) (k+1):=λi j cp hj=>by
   rw[g i,g j];by_cases hj1:j=l
   ·by_cases m7:i=l
    ·rw[if_pos hj1,if_pos m7];show gH as _
    ·rw[if_pos hj1,if_neg m7,if_neg ⋯];show b3 i ⋯
   ·rw[if_neg hj1];by_cases m7:i=l
    ·rw[if_pos m7,if_pos ⋯];show as _ _<|b4 (j-1) ⋯ ⋯
    ·rw[if_neg m7];by_cases hj2:l<j/\j<=k
     ·rw[if_pos hj2];by_cases t7:l<i/\i<=k
      ·rw[if_pos t7];show h _ _ ⋯ ⋯
      ·rw[if_neg t7];show h _ _ ⋯ ⋯
     ·rw[if_neg hj2,if_neg ⋯];show h _ _ cp ⋯
  let ih:=Gg f (bubble p k<|k-l) (k+1) ⋯ (by rw[bubble_size];omega) hS;rw[e];show⟨ih.1.trans<|bubble_perm _ _ _,by rw[show k+(f+1)=k+1+f by omega];show ih.2⟩
def JP(h1:1<=n):(F_<|kas_sort n).toList.Perm (U9 n)/\(F_<|kas_sort n).toList.Pairwise (λi j=>lt j i=false):=by
 let e:F_ (kas_sort n)=F_ (if(F_<|kas_count n<|Xd<|U9 n).1<n then kas_bin (n-max (F_<|kas_count n<|Xd<|U9 n).1 1) (F_<|kas_count n<|Xd<|U9 n).2 (max (F_<|kas_count n<|Xd<|U9 n).1 1) else .ret (F_<|kas_count n<|Xd<|U9 n).2):=by unfold kas_sort;rw[jI]
 let⟨a1,a2,a3,a4⟩:=Gf tr as (nrem:=n) (p:=Xd<|U9 n) h1 (by simp);generalize evT lt (kas_count n<|Xd<|U9 n)=r at e a1 a2 a3 a4;let fin:∀p:Array Nat,p.Perm (Xd<|U9 n)->STo lt p n->p.toList.Perm (U9 n)/\p.toList.Pairwise (λi j=>lt j i=false):=λp hp hs=>by
  let hsz:p.size=n:=by rw[hp.size_eq];simp
  refine⟨by simpa using Array.perm_iff_toList_perm.mp hp,?_⟩
  rw[List.pairwise_iff_getElem];intro i j hi hj cp;let bc:i<p.size:=by simpa using hi
  let ku:j<p.size:=by simpa using hj
  have:=hs i j (VR cp) ⋯;simpa[pa',Array.getD,bc,ku] using this
 rw[e];by_cases ao:r.1<n
 ·rw[if_pos ao];let hm:max r.1 1=r.1:=⋯;rw[hm];let⟨b1,b2⟩:=Gg tr as (n-r.1) r.2 r.1 a1 (by rw[a3.size_eq];simp;omega) a4;refine fin _ (b1.trans a3) ?_;rw[show r.1+(n-r.1)=n by omega]at b2;show b2
 ·rw[if_neg ao];have:r.1=n:=⋯;show fin _ a3<|this▸a4
end
open PySem.SeqAt PySem.W
abbrev InP{α:Type}(n:Nat)(P:α->Prop):KasT α->Prop
 |.ret a=>P a
 |.ask i j k=>i<n/\j<n/\∀b,InP n P<|k b
def InP.bind{α β:Type}{P:α->Prop}{Q:β->Prop}{f:α->KasT β}:∀{t:KasT α},InP n P t->(∀a,P a->InP n Q (f a))->InP n Q (t.bind f)
 |.ret a,h,hf=>hf a h
 |.ask i j k,⟨h1,h2,h3⟩,hf=>⟨h1,h2,λb=>InP.bind (h3 b) hf⟩
def InP.mono{α:Type}{P Q:α->Prop}(hq:∀a,P a->Q a):∀{t:KasT α},InP n P t->InP n Q t
 |.ret a,h=>hq a h
 |.ask i j k,⟨h1,h2,h3⟩=>⟨h1,h2,λb=>InP.mono hq (h3 b)⟩
abbrev AllLt(n:Nat)(p:Array Nat):Prop:=∀k,p.getD k 0<n
def AllLt.of{p q:Array Nat}(h:AllLt n p)(g:∀k:Nat,q[k]?=b_\/∃k':Nat,q[k]?=p[k']?)(hn:0<n):AllLt n q:=λk=>by
 let e:∀(r:Array Nat) k,r.getD k 0=(r[k]?).getD 0:=λr k=>by simp[Array.getD_eq_getD_getElem?]
 rw[e];rcases g k with h1|⟨k',h1⟩
 ·rw[h1];show hn
 ·rw[h1,<-e];show h k'
def AllLt.perm{p q:Array Nat}(h:AllLt n p)(hp:q.Perm p)(hn:0<n):AllLt n q:=by
 refine AllLt.of h (λk=>?_) hn;cases e:q[k]? with
 |none=>exact .inl rfl
 |some v=>
  right;let hm:v∈q.toList:=by
   have:q.toList[k]?=a_ v:=by simpa using e
   show UP this
  let uz:v∈p.toList:=(Array.perm_iff_toList_perm.mp hp).mem_iff.mp hm;let⟨k',hk⟩:=Xx.mp uz;show⟨k',by rw[<-hk];simp⟩
section
variable(hn:0<n)
include hn
def Aa{p:Array Nat}(h:AllLt n p):∀f m,InP n (λ_=>True) (kas_asc p f m)
 |0,m=>trivial
 |f+1,m=>⟨h _,h _,λb=>by
  cases b with
  |true=>exact trivial
  |false=>exact Aa h f (m+1)⟩
def pP:∀f (p:Array Nat) m q,AllLt n p->InP n (λr=>AllLt n r.1) (kas_desc f p m q)
 |0,p,m,q,h=>h
 |f+1,p,m,q,h=>⟨h _,h _,λb=>by
  cases b with
  |true=>
   change InP n _ (if q>0 then kas_desc f (kas_rev p (m-(q+1)) m) (m+1) 0 else kas_desc f p (m+1) 0)
   by_cases hq:q>0
   ·rw[if_pos hq];show pP f _ _ _<|h.perm (Xw _ _ _ _) hn
   ·rw[if_neg hq];show pP f _ _ _ h
  | false=>exact ⟨h _,h _,fun d=>by
    cases d with
    |true=>exact h
    |false=>exact pP f _ _ _ h⟩⟩
def yP{p:Array Nat}(h:AllLt n p)(m r:Nat):InP n (λx=>AllLt n x.2) (kas_tail3 m r p):=by unfold kas_tail3;show InP.bind (Aa hn (h.perm (Xw _ _ _ _) hn) _ _) λa _=>h.perm (Xw _ _ _ _) hn
def pQ{p:Array Nat}(h:AllLt n p)(m r:Nat):InP n (λx=>AllLt n x.2) (kas_descPart m r p):=by
 unfold kas_descPart;refine InP.bind (pP hn _ _ _ _ h) λa ha=>?_;by_cases hq:a.2.2>0
 ·rw[if_pos hq];show yP hn (ha.perm (Xw _ _ _ _) hn) _ _
 ·rw[if_neg hq];show yP hn ha _ _
def EI{p:Array Nat}(h:AllLt n p)(r:Nat):InP n (λx=>AllLt n x.2) (kas_count r p):=by
 unfold kas_count;refine InP.bind (Aa hn h _ _) λa _=>?_;by_cases h1:(a == r)=true
 ·rw[if_pos h1];show h
 ·rw[if_neg h1];by_cases h2:a>1
  ·rw[if_pos h2];show⟨h _,h _,λb=>by
    cases b with
    |true=>exact h
    |false=>exact pQ hn (h.perm (Xw _ _ _ _) hn) _ _⟩
  ·rw[if_neg h2];show pQ hn h _ _
def rD{p:Array Nat}(h:AllLt n p)(k:Nat):∀f l r,InP n (λ_=>True) (kas_place p k f l r)
 |0,l,r=>trivial
 |f+1,l,r=>by
  change InP n _ (if l >= r then .ret l else .ask (p.getD k 0) (p.getD ((l+r)/2) 0) λc=>if c=true then kas_place p k f l ((l+r)/2) else kas_place p k f ((l+r)/2+1) r)
  by_cases hl:l >= r
  ·rw[if_pos hl];show trivial
  ·rw[if_neg hl];show⟨h _,h _,λb=>by
    cases b with
    |true=>exact rD h k f _ _
    |false=>exact rD h k f _ _⟩
def DC:∀f (p:Array Nat) k,AllLt n p->InP n (λ_=>True) (kas_bin f p k)
 |0,p,k,_=>trivial
 |f+1,p,k,h=>InP.bind (rD hn h k _ _ _) λl _=>DC f _ _ (h.perm (bubble_perm _ _ _) hn)
def Bl:InP n (λ_=>True) (kas_sort n):=by
 let h0:AllLt n (Xd<|U9 n):=λk=>by
  by_cases hk:k<n
  ·simp[Array.getD,hk]
  ·simp[Array.getD,hk,hn]
 unfold kas_sort;refine InP.bind (EI hn h0 n) λr hr=>?_;by_cases h:r.1<n
 ·rw[if_pos h];show DC hn _ _ _ hr
 ·rw[if_neg h];show trivial
end
def Bm{α:Type}{n:Nat}{cmp:Nat->Nat->(jn Bool)->r_->Prop}{lt:Nat->Nat->Bool}{s:r_}(hc:∀i j C,i<n->j<n->C (lt i j) s->cmp i j C s){Q:α->r_->Prop}{P:α->Prop}:
  ∀{t:KasT α},InP n P t->Q (F_ t) s->t.kasWp cmp Q s
 |.ret _,_,h=>h
 |.ask i j k,⟨h1,h2,h3⟩,h=>hc i j _ h1 h2 (Bm hc (h3 _) h)
abbrev ltX(n:Nat)(lt:Nat->Nat->Bool)(i j:Nat):Bool:=if i<n then(if j<n then lt i j else true) else false
def MK{lt:Nat->Nat->Bool}(tr:∀i j k,i<n->j<n->k<n->lt j i=false->lt k j=false->lt k i=false)(i j k:Nat)(h1:ltX n lt j i=false)(h2:ltX n lt k j=false):ltX n lt k i=false:=by
 unfold ltX at*;by_cases hi:i<n <;> by_cases hj:j<n <;> by_cases hk:k<n <;> simp only[hi,hj,hk,if_true,if_false]at h1 h2⊢ <;> first|exact tr i j k hi hj hk h1 h2|exact absurd h2 (by decide)|exact absurd h1 (by decide)|rfl
def ML{lt:Nat->Nat->Bool}(as:∀i j,i<n->j<n->lt i j=true->lt j i=false)(i j:Nat)(h:ltX n lt i j=true):ltX n lt j i=false:=by
 unfold ltX at*;by_cases hi:i<n <;> by_cases hj:j<n <;> simp only[hi,hj,if_true,if_false]at h⊢ <;> first|exact as i j hi hj h|exact absurd h (by decide)|rfl
def yQ{α:Type}{n:Nat}{lt lt':Nat->Nat->Bool}(h:∀i j,i<n->j<n->lt i j=lt' i j){P:α->Prop}:∀{t:KasT α},InP n P t->F_ t=evT lt' t
 |.ret _,_=>rfl
 |.ask i j k,⟨h1,h2,h3⟩=>by
  change F_ (k<|lt i j)=evT lt' (k<|lt' i j)
  rw[h i j h1 h2];show yQ h<|h3 _
def Gh{lt:Nat->Nat->Bool}(tr:∀i j k,i<n->j<n->k<n->lt j i=false->lt k j=false->lt k i=false)(as:∀i j,i<n->j<n->lt i j=true->lt j i=false)(h1:1<=n):
  (F_<|kas_sort n).toList.Perm (U9 n)/\(F_<|kas_sort n).toList.Pairwise (λi j=>lt j i=false):=by
 let e:F_ (kas_sort n)=evT (ltX n lt) (kas_sort n):=yQ (λi j hi hj=>by unfold ltX;rw[if_pos hi,if_pos hj])<|Bl ⋯;let⟨a,b⟩:=JP (lt:=ltX n lt) (MK tr) (ML as) h1;rw[e];refine⟨a,b.imp_of_mem λ{i j} hi hj h=>?_⟩;let bc:i<n:=by simpa using a.mem_iff.mp hi
 let ku:j<n:=by simpa using a.mem_iff.mp hj
 unfold ltX at h;rw[if_pos ku,if_pos bc]at h;show h
abbrev kD:Key->D
 |.inl i=>.int i
 |.inr x=>.str x
abbrev tD(ks:x_ Key):D:=.tup<|ks.map kD
def JQ{k:Key}(h:Rep K H (kD k) v):v=kV k:=by cases k <;> exact h
def yR{K:Us}{H:Hp}:∀{ks:x_ Key}{vs:x_ V},eV K H (ks.map kD) vs->vs=ks.map kV
 |[],[],_=>rfl
 |k::ks,v::vs,⟨h,r⟩=>by rw[JQ h,yR (ks:=ks) r];rfl
 |[],_::_,h=>h.elim
 |_::_,[],h=>h.elim
@[reducible]def nA(h:u_):x_ q_->x_ (x_ Key)->Prop:=Paired λv ks=>∃a us,v=.ref a/\IsTup h a us.toArray/\aJ (ks.map kV) us
def nA.get{h:u_}:∀{vs:x_ q_}{ab:x_ (x_ Key)}{i:Nat},nA h vs ab->i<vs.length->∃a us,vs.getD i UT=.ref a/\IsTup h a us.toArray/\aJ ((ab.getD i []).map kV) us
 |_,_,i,.nil,hi=>by simp at hi
 |_,_,0,.cons ⟨a,us,e,p,q⟩ t,hi=>⟨a,us,ke e,p,ke q⟩
 |_,_,i+1,.cons _ t,hi=>by
  let⟨a,us,e,p,q⟩:=nA.get (i:=i) t<|ke hi;show⟨a,us,ke e,p,ke q⟩
def vE{X:Cx}{td:gV 0}{σ:St}{H:Hp}{s:r_}(I:H_ s):∀{ab:x_ (x_ Key)}{vs:x_ V}{us:x_ q_},eV X.K H (ab.map tD) vs->aJ vs us->nA s.heap us ab
 |[],[],_,_,.nil=>.nil
 |ks::ab,v::vs,_,⟨⟨a,ws,e,q,r⟩,rs⟩,.cons rv j8=>by
  subst e;cases rv
  let⟨its,r2,p,_⟩:=I.tuple q;rw[yR r]at r2;show .cons ⟨a,its,rfl,p,r2⟩<|vE I rs j8
 |[],_::_,_,h,_=>h.elim
 |_::_,[],_,h,_=>h.elim
variable{ls:x_ Key}{us:x_ q_}{ab:x_ (x_ Key)}{sh:x_ Bool}
section
def lV{b:Bool}{Q:jn Bool}:∀(ks ls:x_ Key)(us ws:x_ q_)(i:Nat),aJ (ks.map kV) us->aJ (ls.map kV) ws->shape ks=shape ls->Q (bI ks ls) s->KatLex prog w A b false Q (us.zip ws) i s
 |[],[],_,_,i,.nil,.nil,_,h=>h
 |[],_::_,_,_,_,_,_,e,_=>by cases e
 |_::_,[],_,_,_,_,_,e,_=>by cases e
 |x::ks,y::ls,_,_,i,.cons (b:=u) r1 t1,.cons (b:=v) r2 t2,e,h=>by
  let s1:fS x=fS y:=by simpa using congrArg List.head? e
  let s2:shape ks=shape ls:=by simpa using congrArg List.tail e
  rw[Xs];unfold bI at h;cases x with
  |inl a=>
   cases y with
   |inr c=>cases s1
   |inl c=>
    let⟨t,rfl⟩:=r1;let⟨t',rfl⟩:=r2;refine kat_cons<|EqAt.int_int a t c t' prog w _ _ ?_;by_cases ac:a=c
    ·subst ac;rw[X2 0]at h;rw[beq_self_eq_true];show kat_yes<|lV ks ls _ _ (i+1) t1 t2 s2 h
    ·rw[if_neg<|λz=>ac<|Sum.inl.inj z]at h;rw[beq_eq_false_iff_ne.mpr ac];refine kat_no ?_;cases hb:(b&&i == 0) with
     |true=>exact oneLt_int h
     |false=>exact kat_one _ _ (lt_int<|show PySem.W.BoolBack Q (.bool<|decide (a<c)) s from h)
  |inr a=>
   cases y with
   |inl c=>cases s1
   |inr c=>
    let⟨t,rfl⟩:=r1;let⟨t',rfl⟩:=r2;refine kat_cons<|EqAt.str_str a t c t' prog w _ _ ?_;by_cases ac:a=c
    ·subst ac;rw[X2 0]at h;rw[beq_self_eq_true];show kat_yes<|lV ks ls _ _ (i+1) t1 t2 s2 h
    ·rw[if_neg<|λz=>ac<|Sum.inr.inj z]at h;rw[beq_eq_false_iff_ne.mpr ac];refine kat_no ?_;cases hb:(b&&i == 0) with
     |true=>exact oneLt_str h
     |false=>exact kat_one _ _ (lt_str<|show PySem.W.BoolBack Q (.bool<|decide (a.cps.toList<c.cps.toList)) s from h)
def CD{x y:s_}{ws:x_ q_}{ks:x_ Key}{Q:jn Bool}(hx:IsTup s.heap x us.toArray)(hy:IsTup s.heap y ws.toArray)(r1:aJ (ks.map kV) us)(r2:aJ (ls.map kV) ws)(e:shape ks=shape ls)(h:Q (bI ks ls) s):
  p_ (keyLt' (tuples' b) (.ref x)<|.ref y) Q E s:=by
 let⟨ox,yg,_,n,dx⟩:=hx;let⟨oy,vt,_,m,dy⟩:=hy;refine kat_lt yg dx vt dy ?_;let l1:=r1.length;let l2:=r2.length;let l3:ks.length=ls.length:=by simpa using congrArg List.length e
 rw[Uu]at l1 l2;let hf:decide (us.toArray.size<ws.toArray.size)=false:=decide_eq_false (by simp;omega);rw[hf];show lV ks ls us ws 0 r1 r2 e h
set_option tactic.hygienic true in
def vF{h:u_}{b:Bool}{sh:x_ Bool}:∀{vs:x_ q_}{ab:x_ (x_ Key)},nA h vs ab->(∀ks∈ab,shape ks=b::sh)->∃fs:x_ q_,fs.length=vs.length/\KatTups h vs fs/\∀f∈fs,typeOf f=pure (.type<|if b then "int" else "str")
 |_,_,.nil,_=>⟨[],rfl,KatTups.nil,λ_ hf=>nomatch hf⟩
 |_,_,.cons (b:=ks) ⟨a,us,e,⟨o,ho,hc,n,hd⟩,r⟩ t,hs=>by
  let⟨fs,hl,ht,hT⟩:=vF t λx hx=>hs x<|Uw _ hx;let h0:=hs ks Uy;subst e;cases ks with
  |nil=>cases h0
  |cons k ks=>
   cases r with
   |cons rk rks=>
    rename_i u us';let hk:fS k=b:=by simpa using congrArg List.head? h0
    refine⟨u::fs,by simp[hl],KatTups.cons ho hc hd (by simp) ht,λf hf=>?_⟩;rcases UF.mp hf with rfl|hf
    ·cases k with
     |inl i=>let⟨tk,rfl⟩:=rk;subst hk;rfl
     |inr x=>let⟨tk,rfl⟩:=rk;subst hk;rfl
    ·show hT f hf
def EJ{vs:x_ q_}{Q:jn SortKind}(t:nA s.heap vs ab)(hs:∀ks∈ab,shape ks=b::sh)(h0:0<vs.length)(h:Q (tuples' true) s):p_ (keyKind' vs.toArray) Q E s:=by
 let⟨fs,hl,ht,hT⟩:=vF t hs;refine kat_kind (T:=.type<|if b then "int" else "str") ht ⋯ (λv hv=>by rw[hT v hv];show Looks.now) (by cases b <;> rfl) ?_;have:((XU<|if b then "int" else "str") != XU "tuple")=true:=by cases b <;> rfl
 rw[this];show h
end
abbrev xT(H:Hp)(ps:x_ (s_×x_ V)):Hp:=λb=>match ps.lookup b with
 |some xs=>a_ (.tup xs)
 |none=>H b
def tK{κ:Type}{x:s_}{k:κ}:∀{l:x_ (s_×κ)},l.lookup x=a_ k->(x,k)∈l
 |[],h=>by simp at h
 |(n,v)::r,h=>by
  by_cases hx:x=n
  ·subst hx;simp only[UU,beq_self_eq_true]at h;cases h
   show Uy
  ·have:(x == n)=false:=by simpa using hx
   simp only[UU,this]at h;show Uw _<|tK h
def pR{κ:Type}{x:s_}:∀{l:x_ (s_×κ)},(∀p∈l,p.1≠x)->l.lookup x=b_
 |[],_=>rfl
 |(n,v)::r,h=>by
  let hx:(x == n)=false:=by have:=h (n,v) Uy;simpa using λe:x=n=>this e.symm
  simp only[UU,hx];show pR λp hp=>h p<|Uw _ hp
def vG{ps:x_ (s_×x_ V)}{b:s_}(h:∀p∈ps,p.1≠b):xT H ps b=H b:=by unfold xT;rw[pR h]
def Bn{H:Hp}:∀{ps:x_ (s_×x_ V)}{j:Nat}{a:s_}{xs:x_ V},(ps.map (·.1)).Nodup->ps[j]?=a_ (a,xs)->xT H ps a=a_ (.tup xs)
 |[],_,_,_,_,h=>by simp at h
 |(n,v)::r,0,a,xs,_,h=>by simp at h;let⟨rfl,rfl⟩:=h;unfold xT;simp[UU]
 |(n,v)::r,j+1,a,xs,nd,h=>by
  let sj:(n::r.map (·.1)).Nodup:=nd;let⟨n1,n2⟩:=VC.mp sj;let h':r[j]?=a_ (a,xs):=by simpa using h
  let ne:(a == n)=false:=by have:a∈r.map (·.1):=UO.mpr ⟨_,UP h',rfl⟩;simpa using λe:a=n=>n1<|e▸this
  let ih:=Bn (H:=H) n2 h';unfold xT at ih⊢;simp only[UU,ne];show ih
def yS(I:H_ s){ps:x_ (s_×x_ V)}(hp:∀p∈ps,(e_ s)<=p.1):Bc H (xT H ps):=λb o e=>by let nb:∀p∈ps,p.1≠b:=λp jq z=>Vx _<|UM (I.hok.lt e)<|z▸hp p jq;rw[vG nb];show e
def yT{α:Type}{xs:x_ α}{d:α}{p:x_ Nat}(h:p.Perm (U9 xs.length)):(p.map λi=>xs.getD i d).Perm xs:=by
 let e:(U9 xs.length).map (λi=>xs.getD i d)=xs:=by
  apply W8;intro i;by_cases hi:i<xs.length
  ·simp[hi]
  ·simp[hi]
 have:=h.map λi=>xs.getD i d
 rwa[e]at this
def rE{vs:x_ V}{us:x_ q_}(r:aJ vs us):∀{p:x_ Nat},(∀i∈p,i<vs.length)->aJ (p.map λi=>vs.getD i .non) (p.map λi=>us.getD i UT)
 |[],_=>.nil
 |i::p,h=>by
  let hi:=h i Uy;let g:vs[i]?=a_ (vs.getD i .non):=by simp[hi]
  let⟨u,hu,hr⟩:=r.get g;let e:us.getD i UT=u:=by simp[Wh,hu]
  refine .cons ?_<|rE r λj hj=>h j<|Uw _ hj
  change RelV (vs.getD i .non) (us.getD i UT)
  rw[e];show hr
variable{dc:s_}{ep:Nat}{oc:Obj}{it:s_}
section
variable{v:s_}{es:Array VQ}
def EK(hv:s.heap.IsValuesView v dc)(h1:Ys 0=a_ oc)(h2:oc.data=.dict es ep)(q:Q (.ref<|e_ s) {s with heap:=s.heap.push {cls:=.type "dict_valueiterator",data:=.fields #[.ref dc,.int 0 0,.int es.size 0,.int ep 0]} }):p_ (pyIter<|.ref v) Q E s:=by
 let⟨ov,g1,g2,g3⟩:=id hv;refine wpAny_pyIter_slot hv.typeIs F.slot_dict_values_iter (Vd F.slot_dict_values_iter hv.typeIs F.entry_dict_values_iter (show B_ (Builtin.«dict_values.__iter__» _) _ _ _ from ?_) (F.args_dict_values_iter_1 _))
 unfold Builtin.«dict_values.__iter__»;refine SB<|SL<|SB ?_;unfold Builtin.Dict_items.dictOf;refine SB<|Vy g1 g3 (x:=.ref dc) rfl<|SL<|SB ?_;unfold Builtin.Dict_items.newIterator;refine SB<|Vi h1 h2<|SB<|VX h1 h2 ?_;rw[show U4 "dict_valueiterator" = false by decide];simp only[UV,if_false];refine U0 (SL ⟨_,rfl,"dict_valueiterator",_,⟨_,Yo 0,rfl⟩,VT.lookup,(by simpa[rawInt] using q)⟩)
def Gi{Q:y_ q_->r_->Prop}(hI:s.heap.IsValIter it dc i es.size ep)(h1:Ys 0=a_ oc)(h2:oc.data=.dict es ep)(ao:i<es.size)(q:∀h',h'.IsValIter it dc (i+1) es.size ep->V1 it s.heap h'->Q (a_ es[i].val) {s with heap:=h'}):p_ (pyNext<|.ref it) Q E s:=by
 let⟨oi,g1,g2,g3⟩:=id hI;unfold pyNext;refine SB<|Wp<|U6 (name:=UB "__next__") hI.typeIs VT<|Vd VT hI.typeIs F.entry_dict_valueiterator_next ?_<|F.args_dict_valueiterator_next_1 _;refine SB<|SL<|SB<|SB ?_
 first|refine SB (WA hI.typeIs<|SL ?_)|refine SB (W9 hI.typeIs<|SL ?_)
 refine SB<|W3 g1 g3 ?_;rw[show U4 "dict_valueiterator" = false by decide];simp only[UV,if_false]
 change B_ (if(US dc == UT)=true then _ else _) _ _ s
 rw[if_neg<|show ¬ ((US dc == UT)=true) from UH]
 refine SB<|SL<|SB<|Vi h1 h2 ?_;rw[if_neg<|show ¬ _ by simp];refine SB<|SL<|SB<|VX h1 h2 ?_;rw[if_neg<|show ¬ _ by simp];refine SL ?_;simp only[show ¬ ((i:Int)<0) by omega,if_false,VO,VF ao];refine SB ?_
 first|refine SB (WA hI.typeIs<|SL ?_)|refine SB (W9 hI.typeIs<|SL ?_)
 refine SB (wpAny_isOneOf_valiter hI.typeIs<|show B_ (setField (.ref it) 1 (rawInt<|(i:Int)+1) >>= _) _ _ s from SB (Wq g1 g3 (by simp) ?_))
 let gv:(Yk (Vz (·.setIfInBounds 1 (rawInt<|(i:Int)+1)))).IsValIter it dc (i+1) es.size ep:=⟨_,Vf _ g1<|Wu<|Wb g3 _,(Obj.cls_mapFields ..).trans g2,by rw[Wb g3];simp[rawInt]⟩;let jf:({s with heap:=Yk (Vz (·.setIfInBounds 1 (rawInt<|(i:Int)+1)))}:r_).TypeIs (.ref it) "dict_valueiterator" := gv.typeIs;refine SB<|VY<|SB<|wpAny_isOneOf_valiter jf<|SB<|wpAny_isOneOf_valiter jf ?_
 change B_ (pure es[i].val) _ _ _
 show SL<|SL ⟨_,rfl,SL<|q _ gv<|UY ..⟩
def Gj{Q:y_ q_->r_->Prop}(hh:A.handled=b_)(hI:s.heap.IsValIter it dc i es.size ep)(h1:Ys 0=a_ oc)(h2:oc.data=.dict es ep)(ja:es.size<=i)(q:∀h',Heap.ExtBut it s.heap h'->Q b_ {s with heap:=h'}):p_ (pyNext<|.ref it) Q E s:=by
 let⟨oi,g1,g2,g3⟩:=id hI;unfold pyNext;refine SB<|Wp<|U6 (name:=UB "__next__") hI.typeIs VT<|Vd VT hI.typeIs F.entry_dict_valueiterator_next ?_<|F.args_dict_valueiterator_next_1 _;refine SB<|SL<|SB<|SB ?_
 first|refine SB (WA hI.typeIs<|SL ?_)|refine SB (W9 hI.typeIs<|SL ?_)
 refine SB<|W3 g1 g3 ?_;rw[show U4 "dict_valueiterator" = false by decide];simp only[UV,if_false]
 change B_ (if(US dc == UT)=true then _ else _) _ _ s
 rw[if_neg<|show ¬ ((US dc == UT)=true) from UH]
 refine SB<|SL<|SB<|Vi h1 h2 ?_;rw[if_neg<|show ¬ _ by simp];refine SB<|SL<|SB<|VX h1 h2 ?_;rw[if_neg<|show ¬ _ by simp];refine SL ?_;simp only[show ¬ ((i:Int)<0) by omega,if_false,VO,VJ ja];refine SB ?_
 first|refine SB (WA hI.typeIs<|SL ?_)|refine SB (W9 hI.typeIs<|SL ?_)
 refine(show B_ (setField (.ref it) 0 .none >>= _) _ _ s from SB (Wq g1 g3 (by simp) ?_))
 refine(show B_ (newExc (.type "StopIteration") [] >>= _) _ _ _ from SB ?_);simp only[newExc,newTuple]
 refine SB (U0 (SB (m:=W4 _ _)<|wpAny_of_eq (a:=UT) (by first|rfl|(simp only[W4];rfl))<|U0 ?_<|by size_fits)<|by size_fits)
 simp only[raiseNew];refine SB<|wpAny_handled ?_;rw[show A.in1.handled=b_ from hh]
 refine SB<|SL<|wpAny_throw ?_;refine SB<|Xk (T:="StopIteration") (b:=true) ⟨_,Yo 0,rfl⟩ isSubtype_stop ?_;show SL<|q _<|((UY ..).extBut.push _).push _
def CF(hh:A.handled=b_)(I dc:s_)(gj:dc≠I)(oc:Obj)(es:Array VQ)(ep:Nat)(h2:oc.data=.dict es ep):
  Walks prog w A I [I,dc] [I] es.size (λi v=>∃e,es[i]?=a_ e/\v=e.val) (λi h=>h.IsValIter I dc i es.size ep/\h.get? dc=a_ oc) where
 sub:=λb hb=>by rw[UX.mp hb];show Uy
 frame:=λ_ _ _ st hk=>⟨let ⟨o,e,r⟩:=st.1;⟨o,hk I Uy o e,r⟩,hk dc (Uw _ Uy) _ st.2⟩
 item:=λi s Q E hi st hQ=>Gi st.1 st.2 h2 hi λh' wc ig=>hQ _ h' s.toks ⟨es[i],by simp[hi],rfl⟩ ⟨wc,(ig.2 dc gj).trans st.2⟩ λb o hb e=>(ig.2 b λz=>hb (by rw[z];show Uy)).trans e
 done:=λs Q E st hQ=>Gj hh st.1 st.2 h2 (Uv _) λh' ip=>hQ h' s.toks λb o hb e=>ip b o (λz=>hb (by rw[z];show Uy)) e
 self:=λ_ _ _ _ st hQ=>wpAny_pyIter_valiter st.1 hQ
def Bo{r:s_}(h2:oc.data=.dict es ep):PySem.W.KdlSrc prog w "dict_values" r dc es.size (λi v=>∃e,es[i]?=a_ e/\v=e.val) (λh=>h.IsValuesView r dc/\h.get? dc=a_ oc) where
 type:=λ_ hm=>hm.1.typeIs
 there:=λ_ hm=>⟨let ⟨_,ho,_⟩:=hm.1;UE ho,UE hm.2⟩
 keep:=λ_ _ hm hk=>⟨let ⟨o,ho,x⟩:=hm.1;⟨o,hk r (.inl rfl) o ho,x⟩,hk dc (.inr rfl) _ hm.2⟩
 notList:=by decide
 notTuple:=by decide
 hint:=λ_ _ _ _ hm hq=>PySem.W.kdl_hint_values hm.1.typeIs hq
 iter:=λ_ _ hh hm=>⟨_,_,(λ_ _ hq=>EK hm.1 hm.2 h2 hq),CF hh _ dc (UR<|UE hm.2) oc es ep h2,⟨⟨_,Yo 0,rfl,rfl⟩,SZ _ hm.2⟩⟩
def Ab(dc:s_)(hd:(dc == VM)=false):MeetsIn prog w (Builtin.«dict.values» ⟨[.ref dc],[]⟩) (λ_ R s=>s.TypeIs (.ref dc) "dict" /\
   R (.ok (.ret (.ref (e_ s)))) {s with heap:=s.heap.push {cls:=.type "dict_values",data:=.fields #[.ref dc]} }):=
 .of_wp λA R s ⟨hT,h⟩=>by
  refine SB ?_;unfold Builtin.Dict.noArgs;refine SB (WY hT<|show B_ (pure dc) _ _ s from SL (show B_ (Wv dc >>= _) _ _ s from ?_))
  unfold Wv;rw[if_neg (show ¬ _ from by rw[hd];decide)]
  refine SB<|SL<|SB<|U0<|SL ⟨_,rfl,h⟩
end
variable{ov:q_}
def iM{ok:q_}(hI:IsItemIter s.heap it dc i n ep ok ov):s.TypeIs (.ref it) "dict_itemiterator" := ⟨_,hI,rfl⟩
def vH{v:s_}{es:Array VQ}(hv:s.heap.IsItemsView v dc)(h1:Ys 0=a_ oc)(h2:oc.data=.dict es ep)(q:Q (.ref<|e_ s) {s with heap:=s.heap.push {cls:=.type "dict_itemiterator",data:=.fields #[.none,.bool false,.ref dc,.int 0 0,.int es.size 0,.int ep 0,.none,.none]} }):p_ (pyIter<|.ref v) Q E s:=by
 let⟨ov,g1,g2,g3⟩:=id hv;refine wpAny_pyIter_slot hv.typeIs F.slot_dict_items_iter (Vd F.slot_dict_items_iter hv.typeIs F.entry_dict_items_iter (show B_ (Builtin.«dict_items.__iter__» _) _ _ _ from ?_) (F.args_dict_items_iter_1 _))
 unfold Builtin.«dict_items.__iter__»;refine SB<|SL<|SB ?_;unfold Builtin.Dict_items.dictOf;refine SB<|Vy g1 g3 (x:=.ref dc) rfl<|SL<|SB ?_;unfold Builtin.Dict_items.newIterator;refine SB<|Vi h1 h2<|SB<|VX h1 h2 ?_;rw[show U4 "dict_itemiterator" = true by decide];simp only[if_true,Builtin.Dict_items.ownedTupleFields,WT,List.nil_append,UV,if_false];refine U0 (SL ⟨_,rfl,"dict_itemiterator",_,⟨_,Yo 0,rfl⟩,U3.lookup,(by simpa[rawInt] using q)⟩)
def next_item{es:Array VQ}{ok:q_}{Q:y_ q_->r_->Prop}(hI:IsItemIter s.heap it dc i es.size ep ok ov)(h1:Ys 0=a_ oc)(h2:oc.data=.dict es ep)(ao:i<es.size)(q:∀h',IsItemIterOut h' it dc (i+1) es.size ep es[i].key es[i].val (e_ s)->h'.get? (e_ s)=a_ {cls:=.type "tuple",data:=.seq #[es[i].key,es[i].val]}->
   (∀(b:s_)(o:Obj),b≠it->M_ 0=a_ o->h'.get? b=a_ o)->Q (c_ (e_ s)) {s with heap:=h'}):p_ (pyNext (.ref it)) Q E s:=by
 let hT:=iM hI;unfold pyNext;refine SB<|Wp<|U6 (name:=UB "__next__") hT U3<|Vd U3 hT Ww ?_<|Wn _;refine SB<|SL<|SB<|SB ?_
 first|refine SB (Vg hT<|SL ?_)|refine SB (Vr hT<|SL ?_)
 refine SB<|W3 hI rfl ?_;rw[show U4 "dict_itemiterator" = true by decide];simp only[if_true]
 change B_ (if(US dc == UT)=true then _ else _) _ _ s
 rw[if_neg<|show ¬ ((US dc == UT)=true) from UH]
 refine SB<|SL<|SB<|Vi h1 h2 ?_;rw[if_neg<|show ¬ _ by simp];refine SB<|SL<|SB<|VX h1 h2 ?_;rw[if_neg<|show ¬ _ by simp];refine SL ?_;simp only[show ¬ ((i:Int)<0) by omega,if_false,VO,VF ao];refine SB ?_
 first|refine SB (Vg hT<|SL ?_)|refine SB (Vr hT<|SL ?_)
 refine SB (Wj hT<|show B_ (setField (.ref it) 3 (rawInt<|(i:Int)+1) >>= _) _ _ s from SB (Wq hI rfl (by simp) ?_))
 let gv:IsItemIter (Yk (Vz (·.setIfInBounds 3 (rawInt<|(i:Int)+1)))) it dc (i+1) es.size ep ok ov:=by
  change(Yk _).get? it=_
  rw[Vf _ hI<|Wu<|Wb rfl _];simp[Vz,rawInt]
 let kp:∀(b:s_)(o:Obj),b≠it->M_ 0=a_ o->(Yk (Vz (·.setIfInBounds 3 (rawInt<|(i:Int)+1)))).get? b=a_ o:=λb o hb e=>by rw[(UY ..).2 b hb];show e
 let sz:(Yk (Vz (·.setIfInBounds 3 (rawInt<|(i:Int)+1)))).objs.size=(e_ s):=(UY ..).1;generalize s.heap.update it (Vz (·.setIfInBounds 3 (rawInt<|(i:Int)+1)))=hA at gv kp sz;let jf:({s with heap:=hA}:r_).TypeIs (.ref it) "dict_itemiterator" := iM gv;refine SB<|VY<|SB<|Wj jf<|SB<|Wj jf ?_
 change B_ (Wg (.ref it) 6 es[i].key es[i].val) _ _ _
 unfold Wg;simp only[newTuple];refine SB (U0 ?_<|by size_fits);let gq:IsItemIter (hA.push {cls:=.type "tuple",data:=.seq #[es[i].key,es[i].val]}) it dc (i+1) es.size ep ok ov:=SZ _ gv;let gt:(hA.push {cls:=.type "tuple",data:=.seq #[es[i].key,es[i].val]}).get? hA.objs.size=a_ {cls:=.type "tuple",data:=.seq #[es[i].key,es[i].val]}:=Yo 0;let km:∀(b:s_)(o:Obj),b≠it->M_ 0=a_ o->(hA.push {cls:=.type "tuple",data:=.seq #[es[i].key,es[i].val]}).get? b=a_ o:=λb o hb e=>SZ _<|kp b o hb e;rw[sz]at gt;let ne:(e_ s)≠it:=Vv<|UE hI
 change B_ _ _ _ {s with heap:=hA.push {cls:=.type "tuple",data:=.seq #[es[i].key,es[i].val]} }
 generalize hA.push {cls:=.type "tuple",data:=.seq #[es[i].key,es[i].val]}=hB at gq gt km;let eA:(US ({s with heap:=hA}:r_).heap.objs.size)=.ref (e_ s):=by rw[<-sz]
 simp only[eA];unfold WL;refine SB<|SB<|Vy (s:={s with heap:=hB}) gq rfl (x:=.none) rfl (SL ?_);simp only[if_true];refine SB<|Vy (s:={s with heap:=hB}) gq rfl (x:=ok) rfl (SB<|Vy (s:={s with heap:=hB}) gq rfl (x:=ov) rfl ?_);let stp:∀{h1:u_}{fs:Ya 0}{j:Nat}{x:q_}{α:Type}{f:Unit->Sem α}{R:α->r_->Prop}{E':f_ 0},h1.get? it=a_ {cls:=.type "dict_itemiterator",data:=.fields fs}->j<fs.size->
   (∀h2:u_,h2.get? it=a_ {cls:=.type "dict_itemiterator",data:=.fields (fs.setIfInBounds j x)}->(∀(b:s_),b≠it->h2.get? b=h1.get? b)->k_ prog w A.in1 (f ()) R E' {s with heap:=h2})->
   k_ prog w A.in1 (setField (.ref it) j x >>= f) R E' {s with heap:=h1}:=λ{h1 fs j x α f R E'} g hj k=>by
  refine SB<|Wq (s:={s with heap:=h1}) g rfl hj ?_;refine k _ ?_ λb hb=>(UY ..).2 b hb;rw[Vf _ g<|Wu<|Wb rfl _];simp[Vz]
 refine stp gq (by simp) λh3 g3 s3=>?_;refine stp g3 (by simp) λh4 g4 s4=>?_;refine stp g4 (by simp) λh5 g5 s5=>?_;refine stp g5 (by simp) λh6 g6 s6=>?_;refine SB (Xy<|SL<|SL ⟨_,rfl,SL<|q h6 (by rw[<-sz];change h6.get? it=_;rw[g6];simp) ?_ λb o hb e=>?_⟩)
 ·rw[s6 _ ne,s5 _ ne,s4 _ ne,s3 _ ne];show gt
 ·rw[s6 _ hb,s5 _ hb,s4 _ hb,s3 _ hb];show km b o hb e
def EL{es:Array VQ}{ok:q_}{Q:y_ q_->r_->Prop}(hh:A.handled=b_)(hI:IsItemIter s.heap it dc i es.size ep ok ov)(h1:Ys 0=a_ oc)(h2:oc.data=.dict es ep)(ja:es.size<=i)(q:∀h',Heap.ExtBut it s.heap h'->Q b_ {s with heap:=h'}):p_ (pyNext<|.ref it) Q E s:=by
 let hT:=iM hI;unfold pyNext;refine SB<|Wp<|U6 (name:=UB "__next__") hT U3<|Vd U3 hT Ww ?_<|Wn _;refine SB<|SL<|SB<|SB ?_
 first|refine SB (Vg hT<|SL ?_)|refine SB (Vr hT<|SL ?_)
 refine SB<|W3 hI rfl ?_;rw[show U4 "dict_itemiterator" = true by decide];simp only[if_true]
 change B_ (if(US dc == UT)=true then _ else _) _ _ s
 rw[if_neg<|show ¬ ((US dc == UT)=true) from UH]
 refine SB<|SL<|SB<|Vi h1 h2 ?_;rw[if_neg<|show ¬ _ by simp];refine SB<|SL<|SB<|VX h1 h2 ?_;rw[if_neg<|show ¬ _ by simp];refine SL ?_;simp only[show ¬ ((i:Int)<0) by omega,if_false,VO,VJ ja];refine SB ?_
 first|refine SB (Vg hT<|SL ?_)|refine SB (Vr hT<|SL ?_)
 refine(show B_ (setField (.ref it) 2 .none >>= _) _ _ s from SB (Wq hI rfl (by simp) ?_))
 refine(show B_ (newExc (.type "StopIteration") [] >>= _) _ _ _ from SB ?_);simp only[newExc,newTuple]
 refine SB (U0 (SB (m:=W4 _ _)<|wpAny_of_eq (a:=UT) (by first|rfl|(simp only[W4];rfl))<|U0 ?_<|by size_fits)<|by size_fits)
 simp only[raiseNew];refine SB<|wpAny_handled ?_;rw[show A.in1.handled=b_ from hh]
 refine SB<|SL<|wpAny_throw ?_;refine SB<|Xk (T:="StopIteration") (b:=true) ⟨_,Yo 0,rfl⟩ isSubtype_stop ?_;show SL<|q _<|((UY ..).extBut.push _).push _
def vI:entryFor table "dict_itemiterator.__iter__" = a_ Builtin.«dict_keyiterator.__iter__»:=entryFor_alias (id:="dict_itemiterator.__iter__") (id':="dict_keyiterator.__iter__") (by first|rfl|decide +kernel) (by first|rfl|decide +kernel) (by decide +kernel) (by rfl)
def CG{ok:q_}(hI:IsItemIter s.heap it dc i n ep ok ov)(q:Q (.ref it) s):p_ (pyIter<|.ref it) Q E s:=by
 let hT:=iM hI;refine wpAny_pyIter_slot hT F.slot_dict_itemiterator_iter (Vd F.slot_dict_itemiterator_iter hT vI (show B_ (Builtin.«dict_keyiterator.__iter__» _) _ _ _ from ?_) (F.args_dict_itemiterator_iter_1 _))
 unfold Builtin.«dict_keyiterator.__iter__»;refine SB<|SL ?_;show SL ⟨_,rfl,"dict_itemiterator",_,hT,U3.lookup,q⟩
def Bp(dc:s_)(hd:(dc == VM)=false):MeetsIn prog w (Builtin.«dict.items» ⟨[.ref dc],[]⟩) (λ_ R s=>s.TypeIs (.ref dc) "dict" /\
   R (.ok (.ret (.ref (e_ s)))) {s with heap:=s.heap.push {cls:=.type "dict_items",data:=.fields #[.ref dc]} }):=
 .of_wp λA R s ⟨hT,h⟩=>by
  refine SB ?_;unfold Builtin.Dict.noArgs;refine SB (WY hT<|show B_ (pure dc) _ _ s from SL (show B_ (Wv dc >>= _) _ _ s from ?_))
  unfold Wv;rw[if_neg (show ¬ _ from by rw[hd];decide)]
  refine SB<|SL<|SB<|U0<|SL ⟨_,rfl,h⟩
open PySem.SeqAt PySem.W
abbrev cQ(b:Bool)(n i:Nat):Nat:=if b then n-1-i else i
abbrev Bq(b:Bool)(n:Nat)(p:x_ Nat):x_ Nat:=Yd<|p.map<|cQ b n
def lW{α:Type}(b:Bool){l:x_ α}{d:α}(hi:i<l.length):(Yd l).getD i d=l.getD (cQ b l.length i) d:=by
 cases b with
 |false=>rfl
 |true=>
  change l.reverse.getD i d=l.getD (l.length-1-i) d
  rw[Wh,Wh,List.getElem?_reverse hi]
def gW(h:i<n):cQ b n i<n:=by unfold cQ;split <;> omega
def CH{p:x_ Nat}(h:p.Perm (U9 n)):(Bq b n p).Perm (U9 n):=by
 cases b with
 |false=>
  let e:Bq false n p=p:=by
   change p.map (λi=>cQ false n i)=p
   have:(λi=>cQ false n i)=id:=by funext i;rfl
   rw[this,List.map_id]
  rw[e];show h
 |true=>
  let e:(U9 n).map (cQ true n)=(U9 n).reverse:=by
   apply List.ext_getElem
   ·simp
   ·intro i h1 h2;simp[cQ]
  change((p.map<|cQ true n).reverse).Perm _
  refine(XE _).trans ((h.map _).trans ?_);rw[e];show XE _
def CI{p:x_ Nat}{lt:Nat->Nat->Bool}(h:p.Pairwise (λi j=>lt (cQ b n j) (cQ b n i)=false)):(Bq b n p).Pairwise (λi j=>(if b then lt i j else lt j i)=false):=by
 let h1:(p.map<|cQ b n).Pairwise (λi j=>lt j i=false):=VP.mpr h;cases b with
 |false=>exact h1
 |true=>
  change((p.map<|cQ true n).reverse).Pairwise _
  rw[Xz];show h1
def EM{vs:x_ q_}{p:x_ Nat}(h:∀i∈p,i<vs.length):Yd (p.map λi=>(Yd vs).getD i UT)=(Bq b vs.length p).map λi=>vs.getD i UT:=by
 let e:(p.map λi=>(Yd vs).getD i UT)=(p.map<|cQ b vs.length).map λi=>vs.getD i UT:=by rw[Vk];show VZ λi hi=>lW b<|h i hi
 rw[e];unfold Bq katRev;split
 ·rw[List.map_reverse]
 ·rfl
def CK{α:Type}(b:Bool)(l:x_ α):Yd (Yd l)=l:=by unfold katRev;split <;> simp
def range_getD(vs:x_ q_):((U9 vs.length).map λi=>vs.getD i UT)=vs:=by
 apply W8;intro i;by_cases hi:i<vs.length
 ·simp[hi]
 ·simp[hi]
variable{e1:Nat}{kS:s_}{out:x_ q_}{κ:SortKind}
section
variable{vs ks:x_ q_}
def Ls{st:SortSt}{e:Nat}{P:PySem.Fin->r_->Prop}(vy:(arrOf st).map (·.2)=out.toArray)(hz:out.length<64)(hkz:ks.length<64)(hf:failedOf st=b_)(nq:kS≠a)(gk:s.heap.get? kS=a_ (seqObj "list" ks.toArray e))(ga:s.heap.get? a=a_ (seqObj "list" #[] e1))(h:∀(h':u_)(c:Nat),(∀x o,x≠a->x≠kS->s.heap.get? x=a_ o->h'.get? x=a_ o)->h'.get? a=a_ (seqObj "list" (Yd out).toArray c)->(∃o,h'.get? kS=a_ o)->P (.done<|.ret .none) {s with heap:=h'}):
  p_ (ksk_tail a b e1 (.ref kS) st) P E s:=by
 let w1:=UY s.heap kS<|Vj λ_=>(#[]:Ya 0);obtain⟨ck,hck⟩:∃ck,(s.heap.update kS<|Vj λ_=>(#[]:Ya 0)).get? kS=a_ (seqObj "list" #[] ck):=⟨_,get?_update_seq gk λ_=>#[]⟩;let wx:=(w1.2 a nq.symm).trans ga;let w2:=UY (s.heap.update kS<|Vj λ_=>(#[]:Ya 0)) a<|Vj λ_=>(Yd out).toArray;obtain⟨c2,dr⟩:∃c2,((s.heap.update kS<|Vj λ_=>(#[]:Ya 0)).update a<|Vj λ_=>(Yd out).toArray).get? a=a_ (seqObj "list" (Yd out).toArray c2):=⟨_,get?_update_seq wx λ_=>(Yd out).toArray⟩;let hsz:(Yd out).toArray.size=out.length:=by rw[UC,kat_len]
 unfold ksk_tail
 try dsimp only
 rw[vy,kat_outs];refine SB (listUpdate_at gk rfl ?_ (by rw[UC,Vs];omega)<|U5 _);refine SB<|Xy<|SB<|seqEpoch_at wx rfl ?_;refine SB (listUpdate_at wx rfl ?_ (U5 _)<|U1 (Nat.le_of_eq hsz) (by rw[Vs];omega));rw[hf];simp only[bne_self_eq_false,UV,if_false];show SL<|h _ c2 (λx o h1 h2 q=>(w2.2 x h1).trans<|(w1.2 x h2).trans q) dr ⟨_,(w2.2 kS nq).trans hck⟩
def R6{e:Nat}{P:PySem.Fin->r_->Prop}(lt:Nat->Nat->Bool)(hl:ks.length=vs.length)(jy:vs.length<64)(nq:kS≠a)(tr:∀i j k,i<vs.length->j<vs.length->k<vs.length->lt j i=false->lt k j=false->lt k i=false)(as:∀i j,i<vs.length->j<vs.length->lt i j=true->lt j i=false)(gk:s.heap.get? kS=a_ (seqObj "list" ks.toArray e))(ga:s.heap.get? a=a_ (seqObj "list" #[] e1))(hk:2<=vs.length->∀(Q:jn SortKind) E',Q κ s->p_ (keyKind' ks.toArray) Q E' s)(ao:∀i j,i<vs.length->j<vs.length->∀Q:jn Bool,Q (lt i j) s->p_ (keyLt' κ (ks.getD i UT) (ks.getD j UT)) Q (λ_ _=>False) s)(h:∀(p:x_ Nat)(h':u_)(c:Nat),p.Perm (U9 vs.length)->p.Pairwise (λi j=>(if b then lt i j else lt j i)=false)->(∀x o,x≠a->x≠kS->s.heap.get? x=a_ o->h'.get? x=a_ o)->
   h'.get? a=a_ (seqObj "list" (p.map λi=>vs.getD i UT).toArray c)->(∃o,h'.get? kS=a_ o)->P (.done (.ret .none)) {s with heap:=h'}):
  p_ (ksk_end a b vs.toArray e1 (.ref kS) ks.toArray) P E s:=by
 have skip:∀t:Sem PySem.Fin,p_ t P E s->p_ (if b=true then(do let _ <-rule "list.sort.reverse";t) else t) P E s:=λt ht=>by
  split
  ·exact SB (Xo ht)
  ·exact ht
 have vb:(Yd ks).length=(Yd vs).length:=by rw[kat_len,kat_len,hl]
 unfold ksk_end
 try dsimp only
 refine skip _ ?_
 rw[kat_pairs b hl]
 by_cases h2:vs.toArray.size<2
 ·rw[if_pos h2,if_pos h2]
  rw[UC]at h2
  refine SB<|SL ?_
  rw[StateT.run_pure]
  refine SB<|SL ?_
  try dsimp only
  refine Ls (st:=SortSt.mk' general' ((Yd ks).toArray.zip (Yd vs).toArray) #[] 7 b_) (out:=Yd vs) (ks:=ks) ?_ (by rw[kat_len];exact jy) ⋯ rfl nq gk ga λh' c k1 k2 k3=>?_
  ·show((Yd ks).toArray.zip (Yd vs).toArray).map (·.2)=(Yd vs).toArray
   apply Array.toList_inj.mp
   rw[Array.toList_map,ksk_zip]
   show(List.zip _ _).map Prod.snd=_
   rw[List.map_snd_zip (by rw[vb];exact Uv _)]
  ·rw[CK]at k2
   refine h (U9 vs.length) h' c (List.Perm.refl _) ?_ k1 (by rw[range_getD];exact k2) k3
   rw[List.pairwise_iff_getElem]
   intro i j hi hj cp
   simp only[List.length_range]at hi hj
   omega
 ·rw[if_neg h2,if_neg h2]
  rw[UC]at h2
  refine SB<|hk ⋯ _ _ ?_
  have va:(kas_sort (Yd vs).length).kasWp (kas_ask prog w A κ<|Yd ks) (λp cu=>p=evT (λi j=>lt (cQ b vs.length i)<|cQ b vs.length j) (kas_sort vs.length)/\cu=s) s:=by
   rw[kat_len]
   refine Bm (n:=vs.length) (lt:=λi j=>lt (cQ b vs.length i)<|cQ b vs.length j) (λi j C hi hj hC=>?_) (Bl ⋯) ⟨rfl,rfl⟩
   show p_ (keyLt' κ ((Yd ks).getD i UT)<|(Yd ks).getD j UT) C (λ_ _=>False) s
   rw[lW b ⋯,lW b ⋯,hl]
   exact ao _ _ (gW hi) (gW hj) C hC
  refine SB (WH (kat_run (ks:=Yd ks) (vs:=Yd vs) (E:=E) (Q:=λcy s'=>s'=s/\arrOf cy=(evT (λi j=>lt (cQ b vs.length i) (cQ b vs.length j)) (kas_sort vs.length)).map (kas_item ((Yd ks).toArray.zip (Yd vs).toArray))/\failedOf cy=b_)
   vb (by rw[kat_len];omega) (by rw[kat_len];exact jy) (λp cy s' _ a2 a3 a4=>⟨a4.2,by rw[a2,a4.1],a3⟩) va) ?_ λ_ _ x=>x)
  rintro⟨⟨⟩,cy⟩ s' ⟨rfl,har,hf⟩
  try dsimp only
  let⟨c1,c2⟩:=Gh (n:=vs.length) (lt:=λi j=>lt (cQ b vs.length i)<|cQ b vs.length j) (λi j k hi hj hk=>tr _ _ _ (gW hi) (gW hj)<|gW hk) (λi j hi hj=>as _ _ (gW hi)<|gW hj) ⋯
  have cf:∀i∈(evT (λi j=>lt (cQ b vs.length i)<|cQ b vs.length j)<|kas_sort vs.length).toList,i<vs.length:=λi hi=>by simpa using c1.mem_iff.mp hi
  refine Ls (ks:=ks) (kat_snds vb har) (by rw[Uu,c1.length_eq,List.length_range];exact jy) ⋯ hf nq gk ga λh' c k1 k2 k3=>?_
  rw[EM cf]at k2
  exact h _ h' c (CH c1) (CI c2) k1 k2 k3
def vJ{f:q_}{P:PySem.Fin->r_->Prop}(ho:s.heap.get? a=a_ (seqObj "list" vs.toArray n))(jy:vs.length<64)(J:s_->Nat->x_ q_->Nat->r_->Prop)(h0:∀(kS e1:Nat)(h':u_),(∀x o,x≠a->s.heap.get? x=a_ o->h'.get? x=a_ o)->(e_ s)<=kS->h'.get? a=a_ (seqObj "list" #[] e1)->h'.get? kS=a_ (seqObj "list" #[] 0)->J kS e1 [] 0 {s with heap:=h'})(dj:∀kS e1 ks e s',J kS e1 ks e s'->kS≠a/\s'.heap.get? a=a_ (seqObj "list" #[] e1)/\s'.heap.get? kS=a_ (seqObj "list" ks.toArray e))(turn:∀kS e1 ks e s' x,vs[ks.length]?=a_ x->J kS e1 ks e s'->p_ (call f [x]) (λv cu=>cu.heap.get? kS=a_ (seqObj "list" ks.toArray e)/\∀(h':u_) e',V1 kS cu.heap h'->h'.get? kS=a_ (seqObj "list" (ks++[v]).toArray e')->J kS e1 (ks++[v]) e' { cu with heap:=h'}) (λ_ _=>False) s')(fin:∀kS e1 ks e s',ks.length=vs.length->J kS e1 ks e s'->∃lt:Nat->Nat->Bool,(∀i j k,i<vs.length->j<vs.length->k<vs.length->lt j i=false->lt k j=false->lt k i=false)/\(∀i j,i<vs.length->j<vs.length->lt i j=true->lt j i=false)/\
   (2<=vs.length->∀(Q:jn SortKind) E',Q κ s'->p_ (keyKind' ks.toArray) Q E' s')/\
   (∀i j,i<vs.length->j<vs.length->∀Q:jn Bool,Q (lt i j) s'->p_ (keyLt' κ (ks.getD i UT)<|ks.getD j UT) Q (λ_ _=>False) s')/\
   ∀(p:x_ Nat)(h':u_)(c:Nat),p.Perm (U9 vs.length)->p.Pairwise (λi j=>(if b then lt i j else lt j i)=false)->(∀x o,x≠a->x≠kS->s'.heap.get? x=a_ o->h'.get? x=a_ o)->
   h'.get? a=a_ (seqObj "list" (p.map λi=>vs.getD i UT).toArray c)->(∃o,h'.get? kS=a_ o)->P (.done (.ret .none)) { s' with heap:=h'}):
  p_ (ksk_tree a f b) P E s:=by
 let ha:a<(e_ s):=UE ho;let w1:=UY s.heap a<|Vj λ_=>(#[]:Ya 0);obtain⟨e1,kz⟩:∃e1,(s.heap.update a<|Vj λ_=>(#[]:Ya 0)).get? a=a_ (seqObj "list" #[] e1):=⟨_,get?_update_seq ho λ_=>#[]⟩;unfold ksk_tree;refine SB (listItems_at ho rfl<|SB<|listUpdate_at ho rfl ?_ (by rw[UC,Vs];omega)<|U5 _);refine SB (seqEpoch_at kz rfl<|SB<|wpAny_newTuple ?_ (by change vs.length<=_;rw[Vs];omega));refine SB<|wpAny_newList (VY ?_)<|U5 _;let Tq:((s.heap.update a<|Vj λ_=>(#[]:Ya 0)).push<|seqObj "tuple" vs.toArray 0).objs.size=(e_ s)+1:=by rw[size_push',Heap.size_update]
 let J0:=h0 ((s.heap.update a<|Vj λ_=>(#[]:Ya 0)).push<|seqObj "tuple" vs.toArray 0).objs.size e1 (((s.heap.update a<|Vj λ_=>(#[]:Ya 0)).push<|seqObj "tuple" vs.toArray 0).push<|seqObj "list" #[] 0)
  (λx o hx q=>SZ _<|SZ _<|(w1.2 x hx).trans q) (by rw[Tq];show Vb _) (SZ _<|SZ _ kz) (Yo 0)
 change p_ (ksk_rest a f b vs.toArray e1<|.ref ((s.heap.update a<|Vj λ_=>(#[]:Ya 0)).push<|seqObj "tuple" vs.toArray 0).objs.size) P E {s with heap:=((s.heap.update a<|Vj λ_=>(#[]:Ya 0)).push<|seqObj "tuple" vs.toArray 0).push (seqObj "list" #[] 0)}
 generalize ((s.heap.update a<|Vj λ_=>(#[]:Ya 0)).push<|seqObj "tuple" vs.toArray 0).objs.size=kS at J0
 revert J0
 generalize ({s with heap:=((s.heap.update a<|Vj λ_=>(#[]:Ya 0)).push<|seqObj "tuple" vs.toArray 0).push (seqObj "list" #[] 0)}:r_)=s0;intro J0;unfold ksk_rest;refine SB<|Xo ?_
 first
  |rw[List.forIn_toArray]
  |(rw[<-Array.forIn_toList];simp only[List.toList_toArray])
 refine SB<|ksk_fold (λi s'=>∃ks e,ks.length=i/\J kS e1 ks e s') vs 0 s0 ⟨[],0,rfl,J0⟩ ?step ?done
 case step=>
  rintro j x s' hx ⟨ks,e,hl,hJ⟩;let hj:j<vs.length:=(SC.mp hx).1;let j9:ks.length=j:=⋯;refine SB (Wp<|WH (turn kS e1 ks e s' x (by rw[j9];show hx) hJ) (λv cu q=>?_) λ_ _ z=>z.elim);let⟨gk,Ug⟩:=q
  try dsimp only
  let w2:=UY cu.heap kS (Vj (·.push v));obtain⟨c2,dr⟩:∃c2,(cu.heap.update kS (Vj (·.push v))).get? kS=a_ (seqObj "list" (ks.toArray.push v) c2):=⟨_,get?_update_seq gk (·.push v)⟩;refine SB (listUpdate_at gk rfl ?_ (by rw[UC,Vs];omega)<|U1 (Nat.le_of_eq<|Array.size_push ..) (by rw[UC,Vs];omega));refine SL ⟨rfl,ks++[v],c2,by simp;omega,Ug _ c2 w2 ?_⟩;rw[dr];simp
 case done=>
  rintro s' ⟨ks,e,hl,hJ⟩;let j9:ks.length=vs.length:=⋯;let⟨nq,ga,gk⟩:=dj kS e1 ks e s' hJ;let⟨lt,tr,as,hk,ao,h⟩:=fin kS e1 ks e s' j9 hJ
  try dsimp only
  refine SB<|listItems_at gk rfl ?_;show R6 (κ:=κ) lt j9 jy nq tr as gk ga hk ao h
end
open PySem.SeqAt
inductive PV where
 |non|bl (b:Bool)|int (i:Int)|str (x:Str)|tup (xs:x_ PV)|ref (n:Nat)|ty (n:String)|fl (xs:x_ PV)
mutual
def PV.beq:PV->PV->Bool
 |.non,.non=>true
 |.bl a,.bl b=>a == b
 |.int a,.int b=>a == b
 |.str a,.str b=>a == b
 |.tup a,.tup b=>PV.beqs a b
 |.ref a,.ref b=>a == b
 |.ty a,.ty b=>a == b
 |.fl a,.fl b=>PV.beqs a b
 |_,_=>false
def PV.beqs:X9 0->X9 0->Bool
 |[],[]=>true
 |x::xs,y::ys=>PV.beq x y&&PV.beqs xs ys
 |_,_=>false
end
mutual
theorem PV.beq_self:∀x:PV,PV.beq x x=true
 |.non=>rfl
 |.bl a=>by simp[PV.beq]
 |.int a=>by simp[PV.beq]
 |.str a=>by simp[PV.beq]
 |.tup a=>by simp only[PV.beq];show PV.beqs_self a
 |.ref a=>by simp[PV.beq]
 |.ty a=>by simp[PV.beq]
 |.fl a=>by simp only[PV.beq];show PV.beqs_self a
theorem PV.beqs_self:∀x:X9 0,PV.beqs x x=true
 |[]=>rfl
 |x::xs=>by simp only[PV.beqs,PV.beq_self x,PV.beqs_self xs,Bool.and_self]
end
mutual
theorem PV.beq_eq:∀{x y:PV},PV.beq x y=true->x=y
 |.non,y,h=>by cases y <;> first|rfl|(simp[PV.beq]at h)
 |.bl a,y,h=>by cases y <;> first|(simp[PV.beq]at h;rw[h])|(simp[PV.beq]at h)
 |.int a,y,h=>by cases y <;> first|(simp[PV.beq]at h;rw[h])|(simp[PV.beq]at h)
 |.str a,y,h=>by cases y <;> first|(simp[PV.beq]at h;rw[h])|(simp[PV.beq]at h)
 |.tup a,y,h=>by
  cases y with
  |tup b=>simp only[PV.beq]at h;rw[PV.beqs_eq h]
  |_=>simp[PV.beq]at h
 |.ref a,y,h=>by cases y <;> first|(simp[PV.beq]at h;rw[h])|(simp[PV.beq]at h)
 |.ty a,y,h=>by cases y <;> first|(simp[PV.beq]at h;rw[h])|(simp[PV.beq]at h)
 |.fl a,y,h=>by
  cases y with
  |fl b=>simp only[PV.beq]at h;rw[PV.beqs_eq h]
  |_=>simp[PV.beq]at h
theorem PV.beqs_eq:∀{x y:X9 0},PV.beqs x y=true->x=y
 |[],y,h=>by cases y <;> first|rfl|(simp[PV.beqs]at h)
 |x::xs,y,h=>by
  cases y with
  |nil=>simp[PV.beqs]at h
  |cons y ys=>simp only[PV.beqs,UQ]at h;rw[PV.beq_eq h.1,PV.beqs_eq h.2]
end
instance:DecidableEq PV:=λx y=>match h:PV.beq x y with
 |true=>isTrue (PV.beq_eq h)
 |false=>isFalse λe=>by rw[e,PV.beq_self]at h;cases h
abbrev PV.ky:Nat->PV->Bool
 |_,.int _=>true
 |_,.str _=>true
 |n+1,.tup xs=>xs.all (PV.ky n)
 |_,_=>false
section
variable(w:ve)
mutual
def hsh:PV->Int
 |.int i=>LF w (.inl i)
 |.str x=>LF w (.inr x)
 |.tup xs=>reduceHash (VG<|tZ xs)
 |_=>0
def tZ:X9 0->x_ Int
 |[]=>[]
 |x::xs=>hsh x::tZ xs
end
end
mutual
def drw:PV->Nat
 |.tup xs=>Br xs+1
 |_=>1
def Br:X9 0->Nat
 |[]=>0
 |x::xs=>drw x+Br xs
end
mutual
def HR(h:u_):PV->q_->Prop
 |.int i,v=>∃t,v=.int i t
 |.str x,v=>∃t,v=.str x t
 |.tup ps,v=>∃a its,v=.ref a/\IsTup h a its.toArray/\HRs h ps its
 |_,_=>False
def HRs(h:u_):X9 0->x_ q_->Prop
 |[],[]=>True
 |p::ps,v::vs=>HR h p v/\HRs h ps vs
 |[],_::_=>False
 |_::_,[]=>False
end
def HRs.length{h:u_}:∀{ps:X9 0}{vs:x_ q_},HRs h ps vs->ps.length=vs.length
 |[],[],_=>rfl
 |_::_,_::_,r=>congrArg (·+1) (HRs.length r.2)
 |[],_::_,r=>r.elim
 |_::_,[],r=>r.elim
def HRs.at{h:u_}:∀{ps:X9 0}{vs:x_ q_}{j:Nat}{p:PV},HRs h ps vs->ps[j]?=a_ p->∃v,vs[j]?=a_ v/\HR h p v
 |[],[],_,_,_,e=>by simp at e
 |q::_,v::_,0,p,r,e=>by
  have:q=p:=by simpa using e
  subst this;show⟨v,rfl,r.1⟩
 |_::ps,_::vs,j+1,p,r,e=>by
  let⟨v,h1,h2⟩:=HRs.at (ps:=ps) (vs:=vs) (j:=j) (p:=p) r.2<|ke e;show⟨v,ke h1,h2⟩
 |[],_::_,_,_,r,_=>r.elim
 |_::_,[],_,_,r,_=>r.elim
def EN{h:u_}{x y:Ya 0}(p:IsTup h a x)(q:IsTup h a y):x=y:=by let⟨o,ho,_,n,hd⟩:=p;let⟨o',gg,_,n',d8⟩:=q;obtain rfl:o=o':=UW<|ho.symm.trans gg;rw[hd]at d8;injection d8
mutual
theorem HR.one{h:u_}:∀{p q:PV}{v:q_},HR h p v->HR h q v->p=q
 |.int i,q,v,r,r'=>by
  let⟨t,rfl⟩:=r;cases q with
  |int j=>let⟨t',e⟩:=r';injection e with e;rw[e]
  |str j=>let⟨t',e⟩:=r';cases e
  |tup j=>let⟨_,_,e,_⟩:=r';cases e
  |_=>exact r'.elim
 |.str i,q,v,r,r'=>by
  let⟨t,rfl⟩:=r;cases q with
  |int j=>let⟨t',e⟩:=r';cases e
  |str j=>let⟨t',e⟩:=r';injection e with e;rw[e]
  |tup j=>let⟨_,_,e,_⟩:=r';cases e
  |_=>exact r'.elim
 |.tup ps,q,v,r,r'=>by
  let⟨a,its,rfl,p,rs⟩:=r;cases q with
  |int j=>let⟨t',e⟩:=r';cases e
  |str j=>let⟨t',e⟩:=r';cases e
  |tup qs=>
   let⟨b,its',e,p',dz⟩:=r';cases e
   have:its=its':=by simpa using congrArg Array.toList (EN p p')
   subst this;rw[HRs.one rs dz]
  |_=>exact r'.elim
 |.non,_,_,r,_=>r.elim
 |.bl _,_,_,r,_=>r.elim
 |.ref _,_,_,r,_=>r.elim
 |.ty _,_,_,r,_=>r.elim
 |.fl _,_,_,r,_=>r.elim
theorem HRs.one{h:u_}:∀{ps qs:X9 0}{vs:x_ q_},HRs h ps vs->HRs h qs vs->ps=qs
 |[],[],[],_,_=>rfl
 |p::ps,q::qs,v::vs,r,r'=>by rw[HR.one r.1 r'.1,HRs.one r.2 r'.2]
 |[],_::_,[],_,r=>r.elim
 |[],_,_::_,r,_=>r.elim
 |_::_,_,[],r,_=>r.elim
 |_::_,[],_::_,_,r=>r.elim
end
def CL{h:u_}{d:s_}{o:Obj}{es ep}{x:Ya 0}(p:IsTup h a x)(ho:h.get? d=a_ o)(hd:o.data=.dict es ep)(hs:V1 d h h'):IsTup h' a x:=by
 let⟨q,hq,hc,n,oq⟩:=p;let ne:a≠d:=by rintro rfl;obtain rfl:q=o:=UW<|hq.symm.trans ho;rw[hd]at oq;cases oq
 show⟨q,(hs.2 a ne).trans hq,hc,n,oq⟩
mutual
theorem HR.keep{h h':u_}(k:∀a x,IsTup h a x->IsTup h' a x):∀{p:PV}{v:q_},HR h p v->HR h' p v
 |.int i,v,r=>r
 |.str i,v,r=>r
 |.tup ps,v,⟨a,its,e,p,rs⟩=>⟨a,its,e,k _ _ p,HRs.keep k rs⟩
 |.non,_,r=>r.elim
 |.bl _,_,r=>r.elim
 |.ref _,_,r=>r.elim
 |.ty _,_,r=>r.elim
 |.fl _,_,r=>r.elim
theorem HRs.keep{h h':u_}(k:∀a x,IsTup h a x->IsTup h' a x):∀{ps:X9 0}{vs:x_ q_},HRs h ps vs->HRs h' ps vs
 |[],[],_=>trivial
 |_::_,_::_,r=>⟨HR.keep k r.1,HRs.keep k r.2⟩
 |[],_::_,r=>r.elim
 |_::_,[],r=>r.elim
end
def Gk:∀(n:Nat){A:t_}{E:f_ 0}{s:r_}{p:PV}{v:q_}{Q:jn Int},p.ky n=true->A.units+n<cLine->HR s.heap p v->Q (hsh w p) { s with toks:=s.toks+drw p}->
  p_ (pyHash v) Q E s:=by
 intro n
 induction n with
 |zero=>
  intro A E s p v Q hk hu r h;cases p with
  |int i=>let⟨t,rfl⟩:=r;show wpAny_pyHash_int h
  |str i=>let⟨t,rfl⟩:=r;show wpAny_pyHash_str h
  |_=>cases hk
 |succ n ih=>
  intro A E s p v Q hk hu r h;cases p with
  |int i=>let⟨t,rfl⟩:=r;show wpAny_pyHash_int h
  |str i=>let⟨t,rfl⟩:=r;show wpAny_pyHash_str h
  |tup ps=>
   let⟨a,its,rfl,⟨o,ho,hc,m,hd⟩,rs⟩:=r;let fv:∀q∈ps,q.ky n=true:=UK.mp hk;let hT:s.TypeIs (.ref a) "tuple" := ⟨o,ho,hc⟩;unfold pyHash;unfold pyHashByItsType;refine SB (wpAny_cRoomFor_or (.inr<|show A.units<cLine by omega) (SB<|wpAny_specialOf hT F.slot_tuple_hash.lookup ?_))
   change B_ (if((a_ (Value.builtin "tuple.__hash__"):y_ q_) == a_ UT)=true then _ else _) Q E s
   rw[if_neg (show ¬ _ from by rw[beq_builtin_none];decide)]
   refine SB (wpAny_specialOf hT F.slot_tuple_hash.lookup<|show B_ (callSpecialIfBoundUnlessNone? (.ref a) "__hash__" _ >>= _) Q E s from ?_)
   refine SB (wpAny_callSpecialIfBoundUnlessNone?_slot hT F.slot_tuple_hash<|Vd F.slot_tuple_hash hT F.entry_tuple_hash (show B_ (XF (.ref a) >>= _) _ _ s from ?_) (F.args_tuple_hash_1 _))
   refine SB<|wpAny_tupleItemsOf ho hd<|SB ?_;rw[<-Array.forIn_toList];refine wpAny_forIn_list _ (λrest (b:Array Int) s'=>∃left,HRs s.heap left rest/\(∀q∈left,q.ky n=true)/\b.toList++tZ w left=tZ w ps/\s'.heap=s.heap/\s'={ s with toks:=s'.toks}/\s'.toks+Br left=s.toks+Br ps) _ ?turn ?stop _ _ ⟨ps,rs,fv,rfl,rfl,rfl,rfl⟩
   case turn=>
    rintro x rest b s' ⟨left,rl,kl,eb,eh,es,et⟩;cases left with
    |nil=>exact rl.elim
    |cons q left=>
     let r1:HR s'.heap q x:=by rw[eh];show rl.1
     refine SB (ih (kl q Uy) (show A.units+1+n<cLine by omega) r1 (SL ?_));refine⟨left,rl.2,λz hz=>kl z<|Uw _ hz,?_,eh,?_,?_⟩
     ·rw[<-eb];simp[tZ]
     ·rw[es]
     ·rw[<-et]
      change s'.toks+drw q+Br left=s'.toks+(drw q+Br left)
      omega
   case stop=>
    rintro b s' ⟨left,rl,kl,eb,eh,es,et⟩;cases left with
    |cons q left=>exact rl.elim
    |nil=>
     let T9:b.toList=tZ w ps:=by rw[<-eb];simp[tZ]
     let Sd:s'.toks=s.toks+Br ps:=et
     change B_ (retInt<|VG b.toList) _ _ _
     rw[T9,es];refine wpAny_ret_mkInt ?_
     change B_ (if(decide (-(2:Int) ^ 63<=VG (tZ w ps))&&decide (VG (tZ w ps)<2 ^ 63))=true then _ else _) Q E _
     let h':Q (reduceHash<|VG<|tZ w ps) { s with toks:=s.toks+(Br ps+1)}:=h;unfold reduceHash at h';rw[Sd];by_cases hr:(decide (-(2:Int) ^ 63<=VG (tZ w ps))&&decide (VG (tZ w ps)<2 ^ 63))=true
     ·rw[if_pos hr]at h'⊢;show SL (by simpa[Nat.add_assoc] using h')
     ·rw[if_neg hr]at h'⊢;show SB (Xo<|SL<|by simpa[Nat.add_assoc] using h')
  |_=>cases hk
def MM:∀(n:Nat){A:t_}{s:r_}{p q:PV}{v u:q_},p.ky n=true->q.ky n=true->A.units+n<cLine->HR s.heap p v->HR s.heap q u->RcAt A s v u (decide (p=q)):=by
 intro n
 induction n with
 |zero=>
  intro A s p q v u hp hq hu r r';cases p with
  |int i=>
   let⟨t,rfl⟩:=r;cases q with
   |int j=>let⟨t',rfl⟩:=r';have:=RcAt.int_int (A:=A) (s:=s) i t j t';rwa[show decide (PV.int i=PV.int j)=(i == j) by simp[XA]]
   |str j=>let⟨t',rfl⟩:=r';show RcAt.int_str i t j t'
   |_=>cases hq
  |str i=>
   let⟨t,rfl⟩:=r;cases q with
   |int j=>let⟨t',rfl⟩:=r';show RcAt.str_int i t j t'
   |str j=>let⟨t',rfl⟩:=r';have:=RcAt.str_str (A:=A) (s:=s) i t j t';rwa[show decide (PV.str i=PV.str j)=(i == j) by simp[XA]]
   |_=>cases hq
  |_=>cases hp
 |succ n ih=>
  intro A s p q v u hp hq hu r r';cases p with
  |int i=>
   let⟨t,rfl⟩:=r;cases q with
   |int j=>let⟨t',rfl⟩:=r';have:=RcAt.int_int (A:=A) (s:=s) i t j t';rwa[show decide (PV.int i=PV.int j)=(i == j) by simp[XA]]
   |str j=>let⟨t',rfl⟩:=r';show RcAt.int_str i t j t'
   |tup js=>let⟨b,its,rfl,p',_⟩:=r';show RcAt.int_tuple i t p' ⋯
   |_=>cases hq
  |str i=>
   let⟨t,rfl⟩:=r;cases q with
   |int j=>let⟨t',rfl⟩:=r';show RcAt.str_int i t j t'
   |str j=>let⟨t',rfl⟩:=r';have:=RcAt.str_str (A:=A) (s:=s) i t j t';rwa[show decide (PV.str i=PV.str j)=(i == j) by simp[XA]]
   |tup js=>let⟨b,its,rfl,p',_⟩:=r';show RcAt.str_tuple i t p' ⋯
   |_=>cases hq
  |tup ps=>
   let⟨a,its,rfl,ta,rs⟩:=r;cases q with
   |int j=>let⟨t',rfl⟩:=r';show RcAt.tuple_int j t' ta ⋯
   |str j=>let⟨t',rfl⟩:=r';show RcAt.tuple_str j t' ta ⋯
   |tup qs=>
    let⟨b,its',rfl,tb,dz⟩:=r';let kp:∀z∈ps,z.ky n=true:=UK.mp hp;let kq:∀z∈qs,z.ky n=true:=UK.mp hq;let l1:=rs.length;let l2:=dz.length;let key:=RcAt.tuples (A:=A) (e:=λj=>match ps[j]?,qs[j]? with|some x,a_ y=>decide (x=y)|_,_=>false) ta tb ⋯ (λj h1 h2=>by
     let i7:j<ps.length:=by simp at h1;omega
     let fe:j<qs.length:=by simp at h2;omega
     let g1:ps[j]?=a_ ps[j]:=by simp[i7]
     let g2:qs[j]?=a_ qs[j]:=by simp[fe]
     let⟨xu,n0,d9⟩:=rs.at g1;let⟨yu,mw,df⟩:=dz.at g2;let e1:its.toArray[j]=xu:=by simpa using(SC.mp n0).2
     let e2:its'.toArray[j]=yu:=by simpa using(SC.mp mw).2
     rw[e1,e2];simp only[g1,g2];refine jZ (ih (kp _<|List.getElem_mem i7) (kq _<|List.getElem_mem fe) (show A.units+1+n<cLine by omega) d9 df) (λev=>?_) (λf t e=>?_)
     ·subst ev;rw[HR.one d9 df];show decide_eq_true rfl
     ·subst e;generalize ps[j]=z at d9;cases z with
      |int i=>let⟨_,e⟩:=d9;cases e
      |str i=>let⟨_,e⟩:=d9;cases e
      |tup i=>let⟨_,_,e,_⟩:=d9;cases e
      |_=>exact d9.elim)
    let sz:((U9<|min its.toArray.size its'.toArray.size).all (λj=>match ps[j]?,qs[j]? with|some x,a_ y=>decide (x=y)|_,_=>false)&&its.toArray.size == its'.toArray.size)=decide (PV.tup ps=PV.tup qs):=by
     let a1:its.toArray.size=ps.length:=by simp;omega
     let a2:its'.toArray.size=qs.length:=by simp;omega
     rw[a1,a2,Wc];simp only[UQ,UK,List.mem_range,beq_iff_eq,decide_eq_true_eq,PV.tup.injEq];constructor
     ·rintro⟨hall,hlen⟩;apply List.ext_getElem hlen;intro i hi bc;have:=hall i ⋯;simpa[hi,bc] using this
     ·rintro rfl;refine⟨λx hx=>?_,rfl⟩;have:x<ps.length:=⋯;simp[this]
    rw[<-sz];show key
   |_=>cases hq
  |_=>cases hp
variable{p:PV}
def HR.noflt{h:u_}{v:q_}(r:HR h p v):∀f t,v≠.float f t:=λf t e=>by
 subst e;cases p with
 |int i=>let⟨_,e⟩:=r;cases e
 |str i=>let⟨_,e⟩:=r;cases e
 |tup i=>let⟨_,_,e,_⟩:=r;cases e
 |_=>exact r.elim
def CM{q:PV}{v u:q_}(hp:p.ky n=true)(hq:q.ky n=true)(hu:A.units+n<cLine)(r:HR s.heap p v)(r':HR s.heap q u):EqAt A s v u (decide (p=q)):=jZ (MM n hp hq hu r r') (λev=>by subst ev;rw[HR.one r r'];show decide_eq_true rfl) r.noflt
def EO:∀(n m:Nat){A:t_}{E:f_ 0}{s:r_}{p:PV}{v:q_}{Q:jn Bool},p.ky n=true->n<=m->HR s.heap p v->Q true s->p_ (eqIsQuiet m v) Q E s:=by
 intro n
 induction n with
 |zero=>
  intro m A E s p v Q hk hm r h;cases p with
  |int i=>let⟨t,rfl⟩:=r;rw[eqIsQuiet_byValue _ rfl];show SL h
  |str i=>let⟨t,rfl⟩:=r;rw[eqIsQuiet_byValue _ rfl];show SL h
  |_=>cases hk
 |succ n ih=>
  intro m A E s p v Q hk hm r h;cases p with
  |int i=>let⟨t,rfl⟩:=r;rw[eqIsQuiet_byValue _ rfl];show SL h
  |str i=>let⟨t,rfl⟩:=r;rw[eqIsQuiet_byValue _ rfl];show SL h
  |tup ps=>
   let⟨a,its,rfl,⟨o,ho,hc,m',hd⟩,rs⟩:=r;let fv:∀q∈ps,q.ky n=true:=UK.mp hk;let hT:s.TypeIs (.ref a) "tuple" := ⟨o,ho,hc⟩;obtain⟨m,rfl⟩:∃j,m=j+1:=⟨m-1,⋯⟩;unfold eqIsQuiet;refine SB (wpAny_specialOf hT F.slot_tuple_eq.lookup<|show B_ (isInstance (.ref a) (.type "tuple") >>= _) _ _ s from ?_)
   refine SB<|Xk hT isSubtype_tuple_tuple ?_;simp only[Bool.not_true,UV,if_false];refine SB (W5 ho hd<|SB<|show B_ (forIn its.toArray _ _) _ _ s from ?_);rw[<-Array.forIn_toList]
   refine wpAny_forIn_list _ (λrest r s'=>r.1=b_/\s'=s/\∃left,HRs s.heap left rest/\∀q∈left,q.ky n=true) _ ?_ ?_ _ _ ⟨rfl,rfl,ps,rs,fv⟩
   ·rintro v rest r s' ⟨hr,rfl,left,rl,kl⟩;cases left with
    |nil=>exact rl.elim
    |cons q left=>refine SB<|ih m (kl q Uy) ⋯ rl.1 ?_;simp only[Bool.not_true,UV,if_false];show SL ⟨rfl,rfl,left,rl.2,λz hz=>kl z (Uw _ hz)⟩
   ·rintro⟨r1,r2⟩ s' ⟨hr,rfl,_⟩;simp only at hr;subst hr;show SL h
  |_=>cases hk
abbrev pS(prog:vj)(w:ve):HeapKind prog w PV where
 is:=λh p a=>p.ky 6=true/\HR h p (.ref a)
 hash:=hsh w
 draws:=drw
 room:=λA=>A.units+6<cLine
 inj:=λx y=>HR.one x.2 y.2
 keeps:=λx ho hd hs=>⟨x.1,HR.keep (λa it p=>CL p ho hd hs) x.2⟩
 pyHash:=λhu x h=>Gk 6 x.1 hu x.2 h
 eqBool:=λhu x y h=>CM x.1 y.1 hu x.2 y.2 _ _ _ _ h
 quiet:=λx h=>EO 6 8 x.1 ⋯ x.2 h
abbrev dDO(w:ve)(a:s_)(ks:x_ (PV×s_×V)):HO:=.ext λh=>ks.length<=UG/\(a == VM)=false/\∃xs:x_ (PV×s_×q_),
 Paired (λ(p:PV×s_×V)(q:PV×s_×q_)=>p.1=q.1/\p.2.1=q.2.1/\RelV p.2.2 q.2.2) ks xs/\
 ∃o es ep,h.get? a=a_ o/\o.ExactDict/\o.data=.dict es ep/\es.toList=xs.map (λx=>(⟨hsh w x.1,.ref x.2.1,x.2.2⟩:VQ))/\(xs.map (·.1)).Nodup
abbrev DD(kd:Nat)(v d:s_):HO:=.ext λh=>match kd with
 |0=>h.IsItemsView v d
 |1=>h.IsValuesView v d
 |_=>∃o,h.get? v=a_ o/\o.cls=.type "dict_keys" /\ o.data=.fields #[.ref d]
inductive MO where
 |lst (xs:x_ PV)
 |dK (kvs:x_ (Key×PV))
 |ins (C:Str) (fs:x_ (Str×PV))
 |dD (kvs:x_ (PV×PV))
 |vw (kd d:Nat)
 |fz (o:MO)
@[reducible]def PH:=x_ MO
@[reducible]def Ev:=x_<|y_ PV
structure PX where
 cls:Str
 fs:x_ (Str×PV)
inductive Rs(α:Type) where
 |ok (a:α) (h:PH)
 |exc (x:PX) (h:PH)
 |bad
inductive Fl where
 |nx (δ:Ev) (h:PH)
 |rt (p:PV) (h:PH)
 |bk (δ:Ev) (h:PH)
 |ct (δ:Ev) (h:PH)
 |exc (x:PX) (h:PH)
 |bad
@[reducible]def Me:=Ev->PH->Rs PV
@[reducible]def Ms:=Ev->PH->Fl
@[reducible]def Fn:=X9 0->PH->Rs PV
abbrev Rs.bind{α β:Type}(r:Rs α)(f:α->PH->Rs β):Rs β:=match r with
 |.ok a h=>f a h
 |.exc x h=>.exc x h
 |.bad=>.bad
@[simp]theorem Rs.bind_ok{α β:Type}(a:α)(h:PH)(f:α->PH->Rs β):(Rs.ok a h).bind f=f a h:=rfl
@[simp]theorem Rs.bind_exc{α β:Type}(x:PX)(h:PH)(f:α->PH->Rs β):(Rs.exc x h:Rs α).bind f=.exc x h:=rfl
@[simp]theorem Rs.bind_bad{α β:Type}(f:α->PH->Rs β):(Rs.bad:Rs α).bind f=.bad:=rfl
structure MC where
 K:Us
 cl:Str->y_ s_
 bs:x_ Str
 ex:x_ s_->Hp->PX->Prop
 w:ve
abbrev SqF(K:Us)(H:Hp)(a:s_)(xs:x_ V):Prop:=
 (∃o,H a=a_ (.frz o<|.lst xs))\/
  ∃(o:Obj)(its:Ya 0)(n:Nat),K.lookup a=a_ o/\o.cls=.type "list" /\ o.dict=b_/\o.data=.seq its n/\its.size<=UG/\aJ xs its.toList
def SqF.sq{xs:x_ V}(h:SqF K H a xs):SqL K H a xs:=by
 rcases h with⟨o,h⟩|h
 ·show .inl (.inr ⟨o,h⟩)
 ·show .inr h
abbrev Kp(H H':Hp):Prop:=jY H H'/\∀a o u,H a=a_ (.frz o u)->H' a=a_ (.frz o u)
def Kp.refl(H:Hp):Kp H H:=⟨jY.refl H,λ_ _ _ h=>h⟩
def Kp.trans(a:Kp H H1)(b:Kp H1 H2):Kp H H2:=⟨a.1.trans b.1,λc o u h=>b.2 c o u<|a.2 c o u h⟩
def Kp.same(s:Bc H H'):Kp H H':=⟨jY.same s,λ_ _ _ h=>s _ _ h⟩
def Kp.new(h:H a=b_):Kp H (R_ a o):=Kp.same<|Bc.upd h
def Kp.upd{p:s_}(h:tH (H p)):Kp H (R_ p o):=⟨jY.upd h,λa ob u q=>by
 let ne:a≠p:=by rintro rfl;rw[q]at h;show h
 rw[aH ne];show q⟩
def Kp.lst{H:Hp}{p:s_}{o:HO}{xs:x_ V}(h:H p=a_ (.lst xs)):Kp H (L2.upd H p o):=Kp.upd (by rw[h];trivial)
def Kp.dK{H:Hp}{p:s_}{o:HO}{xs:x_ (Key×V)}(h:H p=a_ (.dK xs)):Kp H (L2.upd H p o):=Kp.upd (by rw[h];trivial)
def Kp.sq{xs:x_ V}(t:Kp H H')(h:SqT K H a xs):SqT K H' a xs:=t.1.sq h
def Kp.sf{xs:x_ V}(t:Kp H H')(h:SqF K H a xs):SqF K H' a xs:=by
 rcases h with⟨o,h⟩|h
 ·show .inl ⟨o,t.2 _ _ _ h⟩
 ·show .inr h
section
variable(C:MC)(φ:x_ s_)(H:Hp)
mutual
def RV:PV->V->Prop
 |.non,v=>v=.non
 |.bl b,v=>v=.bl b
 |.int i,v=>v=.int i
 |.str x,v=>v=.str x
 |.ty n,v=>v=.ty n
 |.tup ps,v=>∃a vs,v=.ref a/\SqT C.K H a vs/\RVs ps vs
 |.ref n,v=>∃a,v=.ref a/\φ[n]?=a_ a
 |.fl ps,v=>∃a vs,v=.ref a/\SqF C.K H a vs/\RVs ps vs
def RVs:X9 0->x_ V->Prop
 |[],[]=>True
 |p::ps,v::vs=>RV p v/\RVs ps vs
 |[],_::_=>False
 |_::_,[]=>False
end
abbrev RKv{κ:Type}:x_ (κ×PV)->x_ (κ×V)->Prop:=Paired λp q=>p.1=q.1/\j_ p.2 q.2
abbrev RKd:x_ (PV×PV)->x_ (PV×s_×V)->Prop:=Paired λp q=>p.1=q.1/\p.1.ky 6=true/\j_ p.1 (.ref q.2.1)/\j_ p.2 q.2.2
abbrev RO(a:s_):MO->Prop
 |.lst ps=>∃vs,H a=a_ (.lst vs)/\C_ ps vs
 |.dK kvs=>∃ks,H a=a_ (.dK ks)/\RKv C φ H kvs ks
 |.ins n fs=>∃c dx ks,C.cl n=a_ c/\H a=a_ (.ins c dx ks)/\RKv C φ H fs ks
 |.dD kvs=>∃ks,H a=a_ (dDO C.w a ks)/\RKd C φ H kvs ks
 |.vw kd d=>∃b,φ[d]?=a_ b/\H a=a_ (DD kd a b)
 |.fz (.dK kvs)=>∃ob ks,H a=a_ (.frz ob<|.dK ks)/\RKv C φ H kvs ks
 |.fz (.dD kvs)=>∃ob ks,H a=a_ (.frz ob<|dDO C.w a ks)/\RKd C φ H kvs ks
 |.fz _=>False
structure RH(h:PH):Prop where
 len:φ.length=h.length
 nd:φ.Nodup
 at':∀(n:Nat)(a:s_)(o:MO),φ[n]?=some a->h[n]?=some o->RO C φ H a o
abbrev RE(δ:Ev)(σ:St):Prop:=δ.length=σ.length/\∀(i:Nat)(p:PV),δ[i]?=a_ (a_ p)->∃v,σ[i]?=a_ (a_ v)/\j_ p v
end
def fO{α:Type}{l l':x_ α}(p:l<+:l'){a:α}(h:l[n]?=a_ a):l'[n]?=a_ a:=by let⟨t,rfl⟩:=p;have:=(SC.mp h).1;rw[Vq this];show h
abbrev Kq(H H':Hp):Prop:=jY H H'/\∀a o xs,H a=a_ (.frz o<|.lst xs)->H' a=a_ (.frz o<|.lst xs)
def Kp.q(t:Kp H H'):Kq H H':=⟨t.1,λa o xs h=>t.2 a o _ h⟩
def Kq.sq{xs:x_ V}(t:Kq H H')(h:SqT K H a xs):SqT K H' a xs:=t.1.sq h
def Kq.sf{xs:x_ V}(t:Kq H H')(h:SqF K H a xs):SqF K H' a xs:=by
 rcases h with⟨o,h⟩|h
 ·show .inl ⟨o,t.2 _ _ _ h⟩
 ·show .inr h
mutual
theorem RV.monoQ(p:φ<+:φ')(t:Kq H H'):∀{x:PV}{v:V},j_ x v->RV C φ' H' x v
 |.non,_,h=>h
 |.bl _,_,h=>h
 |.int _,_,h=>h
 |.str _,_,h=>h
 |.ty _,_,h=>h
 |.tup _,_,⟨a,vs,e,q,r⟩=>⟨a,vs,e,t.sq q,RVs.monoQ p t r⟩
 |.ref _,_,⟨a,e,q⟩=>⟨a,e,fO p q⟩
 |.fl _,_,⟨a,vs,e,q,r⟩=>⟨a,vs,e,t.sf q,RVs.monoQ p t r⟩
theorem RVs.monoQ(p:φ<+:φ')(t:Kq H H'):∀{xs:X9 0}{vs:x_ V},C_ xs vs->RVs C φ' H' xs vs
 |[],[],_=>trivial
 |_::_,_::_,⟨h,r⟩=>⟨RV.monoQ p t h,RVs.monoQ p t r⟩
 |[],_::_,h=>h.elim
 |_::_,[],h=>h.elim
end
variable{C:MC}{φ φ':x_ s_}
def RV.mono(p:φ<+:φ')(t:Kp H H'){x:PV}(h:j_ x v):RV C φ' H' x v:=RV.monoQ p t.q h
variable{xs:X9 0}
def RVs.mono(p:φ<+:φ')(t:Kp H H')(h:C_ xs vs):RVs C φ' H' xs vs:=RVs.monoQ p t.q h
def RVs.length:∀{xs:X9 0}{vs:x_ V},C_ xs vs->xs.length=vs.length
 |[],[],_=>rfl
 |_::_,_::_,⟨_,r⟩=>by simp[RVs.length r]
 |[],_::_,h=>h.elim
 |_::_,[],h=>h.elim
def RVs.get:∀{xs:X9 0}{vs:x_ V}{i:Nat}{v:V},C_ xs vs->vs[i]?=a_ v->∃x,xs[i]?=a_ x/\j_ x v
 |[],[],_,_,_,e=>by simp at e
 |x::_,w::_,0,v,⟨h,_⟩,e=>by
  have:w=v:=by simpa using e
  subst this;show⟨x,rfl,h⟩
 |_::xs,_::vs,i+1,v,⟨_,r⟩,e=>by
  let⟨x,h1,h2⟩:=RVs.get (xs:=xs) (vs:=vs) (i:=i) (v:=v) r<|ke e;show⟨x,ke h1,h2⟩
 |[],_::_,_,_,h,_=>h.elim
 |_::_,[],_,_,h,_=>h.elim
def RVs.at:∀{xs:X9 0}{vs:x_ V}{i:Nat}{x:PV},C_ xs vs->xs[i]?=a_ x->∃v,vs[i]?=a_ v/\j_ x v
 |[],[],_,_,_,e=>by simp at e
 |x::_,w::_,0,x',⟨h,_⟩,e=>by
  have:x=x':=by simpa using e
  subst this;show⟨w,rfl,h⟩
 |_::xs,_::vs,i+1,x,⟨_,r⟩,e=>by
  let⟨v,h1,h2⟩:=RVs.at (xs:=xs) (vs:=vs) (i:=i) (x:=x) r<|ke e;show⟨v,ke h1,h2⟩
 |[],_::_,_,_,h,_=>h.elim
 |_::_,[],_,_,h,_=>h.elim
def RVs.append:∀{xs ys:X9 0}{vs us:x_ V},C_ xs vs->C_ ys us->C_ (xs++ys) (vs++us)
 |[],_,[],_,_,h=>h
 |_::_,_,_::_,_,⟨h,r⟩,h'=>⟨h,RVs.append r h'⟩
 |[],_,_::_,_,h,_=>h.elim
 |_::_,_,[],_,h,_=>h.elim
def RVs.snoc{x:PV}(r:C_ xs vs)(h:j_ x v):C_ (xs++[x]) (vs++[v]):=r.append ⟨h,trivial⟩
def RVs.drop:∀{xs:X9 0}{vs:x_ V}(n:Nat),C_ xs vs->C_ (xs.drop n) (vs.drop n)
 |_,_,0,h=>h
 |[],[],_+1,_=>trivial
 |_::_,_::_,n+1,⟨_,r⟩=>RVs.drop n r
 |[],_::_,_+1,h=>h.elim
 |_::_,[],_+1,h=>h.elim
def RVs.take:∀{xs:X9 0}{vs:x_ V}(n:Nat),C_ xs vs->C_ (xs.take n) (vs.take n)
 |[],[],0,_=>trivial
 |_::_,_::_,0,_=>trivial
 |[],[],_+1,_=>trivial
 |_::_,_::_,n+1,⟨h,r⟩=>⟨h,RVs.take n r⟩
 |[],_::_,_,h=>h.elim
 |_::_,[],_,h=>h.elim
def RVs.set{x:PV}(h:j_ x v):∀{xs:X9 0}{vs:x_ V}(n:Nat),C_ xs vs->C_ (xs.set n x) (vs.set n v)
 |[],[],_,_=>trivial
 |_::_,_::_,0,⟨_,r⟩=>⟨h,r⟩
 |_::_,_::_,n+1,⟨q,r⟩=>⟨q,RVs.set h n r⟩
 |[],_::_,_,h=>h.elim
 |_::_,[],_,h=>h.elim
def RKv.monoQ{κ:Type}(p:φ<+:φ')(t:Kq H H'){x:x_ (κ×PV)}{v:x_ (κ×V)}(h:RKv C φ H x v):RKv C φ' H' x v:=Paired.mapP h λ_ _ q=>⟨q.1,q.2.monoQ p t⟩
def RKd.monoQ(p:φ<+:φ')(t:Kq H H'){x:x_ (PV×PV)}{v:x_ (PV×s_×V)}(h:RKd C φ H x v):RKd C φ' H' x v:=Paired.mapP h λ_ _ q=>⟨q.1,q.2.1,q.2.2.1.monoQ p t,q.2.2.2.monoQ p t⟩
def RKv.mono{κ:Type}(p:φ<+:φ')(t:Kp H H'){x:x_ (κ×PV)}{v:x_ (κ×V)}(h:RKv C φ H x v):RKv C φ' H' x v:=Paired.mapP h λ_ _ q=>⟨q.1,q.2.mono p t⟩
def RKd.mono(p:φ<+:φ')(t:Kp H H'){x:x_ (PV×PV)}{v:x_ (PV×s_×V)}(h:RKd C φ H x v):RKd C φ' H' x v:=Paired.mapP h λ_ _ q=>⟨q.1,q.2.1,q.2.2.1.mono p t,q.2.2.2.mono p t⟩
variable{δ:Ev}
def RE.mono(p:φ<+:φ')(t:Kp H H')(h:Yi 0):RE C φ' H' δ σ:=⟨h.1,λi x e=>let ⟨v,q,r⟩:=h.2 i x e;⟨v,q,r.mono p t⟩⟩
def RE.set{x:PV}(h:Yi 0)(r:j_ x v)(i:Nat):RE C φ H (δ.set i<|a_ x) (σ.set i<|a_ v):=by
 refine⟨by rw[U2,U2];show h.1,λj p e=>?_⟩;by_cases hj:i=j
 ·subst hj;by_cases hl:i<δ.length
  ·rw[VU hl]at e;cases e
   show⟨v,by rw[VU (by rw[<-h.1];show hl)],r⟩
  ·rw[Wx (by rw[U2];omega)]at e;cases e
 ·rw[VH hj]at e;rw[VH hj];show h.2 j p e
def RO.stayQ{o:MO}(p:φ<+:φ')(t:Kq H H')(e:H' a=H a)(h:RO C φ H a o):RO C φ' H' a o:=by
 cases o with
 |lst ps=>let⟨vs,q,r⟩:=h;show⟨vs,e.trans q,r.monoQ p t⟩
 |dK ps=>let⟨vs,q,r⟩:=h;show⟨vs,e.trans q,r.monoQ p t⟩
 |ins n fs=>let⟨c,dx,ks,hc,q,r⟩:=h;show⟨c,dx,ks,hc,e.trans q,r.monoQ p t⟩
 |dD kvs=>let⟨ks,q,r⟩:=h;show⟨ks,e.trans q,r.monoQ p t⟩
 |vw kd d=>let⟨b,hb,q⟩:=h;show⟨b,fO p hb,e.trans q⟩
 |fz o=>
  cases o with
  |dK kvs=>let⟨ob,ks,q,r⟩:=h;show⟨ob,ks,e.trans q,r.monoQ p t⟩
  |dD kvs=>let⟨ob,ks,q,r⟩:=h;show⟨ob,ks,e.trans q,r.monoQ p t⟩
  |_=>exact h.elim
def RO.stay{o:MO}(p:φ<+:φ')(t:Kp H H')(e:H' a=H a)(h:RO C φ H a o):RO C φ' H' a o:=h.stayQ p t.q e
def RO.some{o:MO}(h:RO C φ H a o):∃u,H a=a_ u:=by
 cases o with
 |lst ps=>let⟨vs,q,r⟩:=h;show⟨_,q⟩
 |dK ps=>let⟨vs,q,r⟩:=h;show⟨_,q⟩
 |ins n fs=>let⟨c,dx,ks,hc,q,r⟩:=h;show⟨_,q⟩
 |dD kvs=>let⟨ks,q,r⟩:=h;show⟨_,q⟩
 |vw kd d=>let⟨b,hb,q⟩:=h;show⟨_,q⟩
 |fz o=>
  cases o with
  |dK kvs=>let⟨ob,ks,q,r⟩:=h;show⟨_,q⟩
  |dD kvs=>let⟨ob,ks,q,r⟩:=h;show⟨_,q⟩
  |_=>exact h.elim
variable{h:PH}
def RH.get(r:FR h){o:MO}(e:h[n]?=a_ o):∃a,φ[n]?=a_ a/\RO C φ H a o:=by
 let hn:=(SC.mp e).1;have:n<φ.length:=by rw[r.len];show hn
 show⟨φ[n],by simp[this],r.at' n _ o (by simp[this]) e⟩
def RH.tracked(r:FR h)(e:φ[n]?=a_ a):∃u,H a=a_ u:=by
 let hn:=(SC.mp e).1;have:n<h.length:=by rw[<-r.len];show hn
 show(r.at' n a h[n] e<|by simp[this]).some
def RH.aside(r:FR h)(e:H a=b_):RH C φ (R_ a o) h:=⟨r.len,r.nd,λn b ob h1 h2=>by let q:=r.at' n b ob h1 h2;let⟨u,hu⟩:=q.some;show q.stay (Ux) (Kp.new e)<|aH<|cS hu e⟩
def RH.new(r:FR h){u:HO}{o:MO}(e:H a=b_)(q:RO C (φ++[a]) (R_ a u) a o):RH C (φ++[a]) (R_ a u) (h++[o]):=by
 refine⟨by simp[r.len],?_,λn b ob h1 h2=>?_⟩
 ·rw[V4];refine⟨r.nd,by simp,λx hx y hy z=>?_⟩;rw[UX]at hy;subst hy z;let⟨n,hn⟩:=Xx.mp hx;let⟨u',hu⟩:=r.tracked hn;rw[e]at hu;cases hu
 ·by_cases hn:n<φ.length
  ·rw[Vq hn]at h1;rw[Vq (by rw[<-r.len];show hn)]at h2;let q':=r.at' n b ob h1 h2;let⟨u',hu⟩:=q'.some;show q'.stay (Vo _ _) (Kp.new e)<|aH<|cS hu e
  ·let om:n=φ.length:=by have:=(SC.mp h1).1;simp at this;omega
   subst om;rw[WQ<|Uv _,Nat.sub_self]at h1;rw[r.len,WQ<|Uv _,Nat.sub_self]at h2;cases h1
   cases h2
   show q
def RH.write(r:FR h){u:HO}{o:MO}(e:φ[n]?=a_ a)(t:tH (H a))(q:RO C φ (R_ a u) a o):RH C φ (R_ a u) (Yr o):=by
 refine⟨by rw[U2];show r.len,r.nd,λm b ob h1 h2=>?_⟩;by_cases hm:n=m
 ·subst hm;rw[e]at h1;cases h1;let hl:n<h.length:=by rw[<-r.len];show(SC.mp e).1
  rw[VU hl]at h2;cases h2
  show q
 ·rw[VH hm]at h2;let hb:b≠a:=λz=>by subst z;show hm ((List.getElem?_inj (SC.mp e).1 r.nd).mp<|e.trans h1.symm)
  show(r.at' m b ob h1 h2).stay Ux (Kp.upd t) (aH hb)
section
variable(C:MC)(φ:x_ s_)(H:Hp)
abbrev post(r:Rs PV)(Q:VK):Prop:=match r with
 |.ok p h=>∀φ' v H',φ<+:φ'->Kp H H'->Yn h->RV C φ' H' p v->Q v H'
 |.exc x h=>∀φ' H',φ<+:φ'->Kp H H'->Yn h->C.ex φ' H' x
 |.bad=>False
abbrev bN(r:Rs Bool)(Q:Bool->Hp->Prop):Prop:=match r with
 |.ok b h=>∀φ' H',φ<+:φ'->Kp H H'->Yn h->Q b H'
 |.exc x h=>∀φ' H',φ<+:φ'->Kp H H'->Yn h->C.ex φ' H' x
 |.bad=>False
abbrev postA(r:Rs (X9 0))(Q:x_ V->Hp->Prop):Prop:=match r with
 |.ok ps h=>∀φ' vs H',φ<+:φ'->Kp H H'->Yn h->RVs C φ' H' ps vs->Q vs H'
 |.exc x h=>∀φ' H',φ<+:φ'->Kp H H'->Yn h->C.ex φ' H' x
 |.bad=>False
abbrev bY(r:Fl)(D:Ends):Prop:=match r with
 |.nx δ h=>∀φ' σ H',φ<+:φ'->Kp H H'->Yn h->RE C φ' H' δ σ->D.nx σ H'
 |.rt p h=>∀φ' v H',φ<+:φ'->Kp H H'->Yn h->RV C φ' H' p v->D.rt v H'
 |.bk δ h=>∀φ' σ H',φ<+:φ'->Kp H H'->Yn h->RE C φ' H' δ σ->D.bk σ H'
 |.ct δ h=>∀φ' σ H',φ<+:φ'->Kp H H'->Yn h->RE C φ' H' δ σ->D.ct σ H'
 |.exc x h=>∀φ' H',φ<+:φ'->Kp H H'->Yn h->C.ex φ' H' x
 |.bad=>False
end
variable{φ1:x_ s_}
def post.weak{r:Rs PV}{Q:VK}(p:φ<+:φ1)(t:Kp H H1)(h:I_ r Q):post C φ1 H1 r Q:=by
 cases r with
 |ok a h'=>exact λφ' v H' p' t'=>h φ' v H' (p.trans p') (t.trans t')
 |exc a h'=>exact λφ' H' p' t'=>h φ' H' (p.trans p') (t.trans t')
 |bad=>exact h
def bN.weak{r:Rs Bool}{Q:Bool->Hp->Prop}(p:φ<+:φ1)(t:Kp H H1)(h:bN C φ H r Q):bN C φ1 H1 r Q:=by
 cases r with
 |ok a h'=>exact λφ' H' p' t'=>h φ' H' (p.trans p') (t.trans t')
 |exc a h'=>exact λφ' H' p' t'=>h φ' H' (p.trans p') (t.trans t')
 |bad=>exact h
def postA.weak{r:Rs (X9 0)}{Q:x_ V->Hp->Prop}(p:φ<+:φ1)(t:Kp H H1)(h:postA C φ H r Q):postA C φ1 H1 r Q:=by
 cases r with
 |ok a h'=>exact λφ' v H' p' t'=>h φ' v H' (p.trans p') (t.trans t')
 |exc a h'=>exact λφ' H' p' t'=>h φ' H' (p.trans p') (t.trans t')
 |bad=>exact h
def bY.weak{r:Fl}{D:Ends}(p:φ<+:φ1)(t:Kp H H1)(h:bY C φ H r D):bY C φ1 H1 r D:=by
 cases r with
 |nx a h'=>exact λφ' v H' p' t'=>h φ' v H' (p.trans p') (t.trans t')
 |rt a h'=>exact λφ' v H' p' t'=>h φ' v H' (p.trans p') (t.trans t')
 |bk a h'=>exact λφ' v H' p' t'=>h φ' v H' (p.trans p') (t.trans t')
 |ct a h'=>exact λφ' v H' p' t'=>h φ' v H' (p.trans p') (t.trans t')
 |exc a h'=>exact λφ' H' p' t'=>h φ' H' (p.trans p') (t.trans t')
 |bad=>exact h
def post.imp{r:Rs PV}{Q Q':VK}(h:I_ r Q)(i:∀v H',Q v H'->Q' v H'):I_ r Q':=by
 cases r with
 |ok a h'=>exact λφ' v H' p t rh rv=>i v H' (h φ' v H' p t rh rv)
 |exc a h'=>exact h
 |bad=>exact h
def post.bind{r:Rs PV}{f:PV->PH->Rs PV}{Q:VK}(h:I_ (r.bind f) Q):I_ r λv H1=>∃φ1 p h1,φ<+:φ1/\Kp H H1/\Yl 0/\RV C φ1 H1 p v/\post C φ1 H1 (f p h1) Q:=by
 cases r with
 |ok a h'=>exact λφ' v H' p t rh rv=>⟨φ',a,h',p,t,rh,rv,post.weak p t h⟩
 |exc a h'=>exact h
 |bad=>exact h
def post.bindB{r:Rs PV}{f:PV->PH->Rs Bool}{Q:Bool->Hp->Prop}(h:bN C φ H (r.bind f) Q):I_ r λv H1=>∃φ1 p h1,φ<+:φ1/\Kp H H1/\Yl 0/\RV C φ1 H1 p v/\bN C φ1 H1 (f p h1) Q:=by
 cases r with
 |ok a h'=>exact λφ' v H' p t rh rv=>⟨φ',a,h',p,t,rh,rv,bN.weak p t h⟩
 |exc a h'=>exact h
 |bad=>exact h
def bN.bind{r:Rs Bool}{f:Bool->PH->Rs PV}{Q:VK}(h:I_ (r.bind f) Q):bN C φ H r λb H1=>∃φ1 h1,φ<+:φ1/\Kp H H1/\Yl 0/\post C φ1 H1 (f b h1) Q:=by
 cases r with
 |ok a h'=>exact λφ' H' p t rh=>⟨φ',h',p,t,rh,post.weak p t h⟩
 |exc a h'=>exact h
 |bad=>exact h
def bN.bindB{r:Rs Bool}{f:Bool->PH->Rs Bool}{Q:Bool->Hp->Prop}(h:bN C φ H (r.bind f) Q):bN C φ H r λb H1=>∃φ1 h1,φ<+:φ1/\Kp H H1/\Yl 0/\bN C φ1 H1 (f b h1) Q:=by
 cases r with
 |ok a h'=>exact λφ' H' p t rh=>⟨φ',h',p,t,rh,bN.weak p t h⟩
 |exc a h'=>exact h
 |bad=>exact h
def postA.bind{r:Rs (X9 0)}{f:X9 0->PH->Rs PV}{Q:VK}(h:I_ (r.bind f) Q):postA C φ H r λvs H1=>∃φ1 ps h1,φ<+:φ1/\Kp H H1/\Yl 0/\RVs C φ1 H1 ps vs/\post C φ1 H1 (f ps h1) Q:=by
 cases r with
 |ok a h'=>exact λφ' v H' p t rh rv=>⟨φ',a,h',p,t,rh,rv,post.weak p t h⟩
 |exc a h'=>exact h
 |bad=>exact h
def postA.bindA{r:Rs (X9 0)}{f:X9 0->PH->Rs (X9 0)}{Q:x_ V->Hp->Prop}(h:postA C φ H (r.bind f) Q):postA C φ H r λvs H1=>∃φ1 ps h1,φ<+:φ1/\Kp H H1/\Yl 0/\RVs C φ1 H1 ps vs/\postA C φ1 H1 (f ps h1) Q:=by
 cases r with
 |ok a h'=>exact λφ' v H' p t rh rv=>⟨φ',a,h',p,t,rh,rv,postA.weak p t h⟩
 |exc a h'=>exact h
 |bad=>exact h
def post.bindA{r:Rs PV}{f:PV->PH->Rs (X9 0)}{Q:x_ V->Hp->Prop}(h:postA C φ H (r.bind f) Q):I_ r λv H1=>∃φ1 p h1,φ<+:φ1/\Kp H H1/\Yl 0/\RV C φ1 H1 p v/\postA C φ1 H1 (f p h1) Q:=by
 cases r with
 |ok a h'=>exact λφ' v H' p t rh rv=>⟨φ',a,h',p,t,rh,rv,postA.weak p t h⟩
 |exc a h'=>exact h
 |bad=>exact h
def post.val{Q:VK}(q:I_ (.ok p h) Q)(rh:FR h)(rv:j_ p v):Q v H:=q φ v H Ux (Kp.refl H) rh rv
structure Cxt(C:MC)(k:Nat)(X:Cx):Prop where
 K:X.K=C.K
 calm:X.calm=true
 room:eT k X.A
 bn:∀x∈C.bs,X.mg x=none
 w:X.w=C.w
def Cxt.hu{k:Nat}(c:X7 X):X.A.units+1<cLine:=Oz c.room
def Cxt.hu64{k:Nat}(c:X7 X):X.A.units+64<cLine:=c.room.units
def Cxt.comp{k:Nat}(c:X7 X)(sc:Scope)(N:x_ Str)(a:s_)(fp:x_ s_)(s:r_)(H:Hp):X7 (N_ N a fp s H):=⟨c.K,c.calm,c.room,c.bn,c.w⟩
section
variable(C:MC)
abbrev rd(m:Me):TE:=λσ H Q=>∃φ δ h,FR h/\Yi 0/\I_ (m δ h) Q
abbrev rdB(m:Ev->PH->Rs Bool):TT:=λσ H Q=>∃φ δ h,FR h/\Yi 0/\bN C φ H (m δ h) Q
abbrev rdA(m:Ev->PH->Rs (X9 0)):TA:=λσ H Q=>∃φ δ h,FR h/\Yi 0/\postA C φ H (m δ h) Q
abbrev rdS(m:Ms):TS:=λD σ H=>∃φ δ h,FR h/\Yi 0/\bY C φ H (m δ h) D
abbrev r2(g:PV->PV->PH->Rs PV):R2:=λx y H Q=>∃φ h p q,FR h/\j_ p x/\j_ q y/\I_ (g p q h) Q
abbrev r1(g:PV->PH->Rs PV):V->Hp->VK->Prop:=λx H Q=>∃φ h p,FR h/\j_ p x/\I_ (g p h) Q
abbrev rL(g:X9 0->PH->Rs PV):x_ V->Hp->VK->Prop:=λxs H Q=>∃φ h ps,FR h/\C_ ps xs/\I_ (g ps h) Q
end
variable{C:MC}{k:Nat}{X:Cx}
abbrev SE(C:MC)(k:Nat)(X:Cx)(e:v_)(m:Me):Prop:=X7 X->PE X e (rd C m)
abbrev ST(C:MC)(k:Nat)(X:Cx)(e:v_)(m:Ev->PH->Rs Bool):Prop:=X7 X->PT X e (rdB C m)
abbrev SA(C:MC)(k:Nat)(X:Cx)(es:x_ v_)(m:Ev->PH->Rs (X9 0)):Prop:=X7 X->PA X es (rdA C m)
abbrev SSt(C:MC)(k:Nat)(X:Cx)(st:w_)(m:Ms):Prop:=X7 X->PS X st (rdS C m)
abbrev SSs(C:MC)(k:Nat)(X:Cx)(st:x_ w_)(m:Ms):Prop:=X7 X->PSs X st (rdS C m)
abbrev OpS(C:MC)(k:Nat)(X:Cx)(f:q_->q_->Sem q_)(g:PV->PV->PH->Rs PV):Prop:=X7 X->Yg f (r2 C g)
abbrev UnS(C:MC)(k:Nat)(X:Cx)(f:q_->Sem q_)(g:PV->PH->Rs PV):Prop:=X7 X->UnR X f (r1 C g)
abbrev lX(C:MC)(k:Nat)(X:Cx)(f:q_)(g:X9 0->PH->Rs PV):Prop:=X7 X->dJ X f (rL C g)
abbrev uB:Ev->Nat->y_ PV
 |[],_=>b_
 |x::_,0=>x
 |_::r,n+1=>uB r n
@[simp]theorem ER(x:y_ PV)(r:Ev):uB (x::r) 0=x:=(rfl)
@[simp]theorem O5(x:y_ PV)(r:Ev)(n:Nat):uB (x::r) (n+1)=uB r n:=(rfl)
def vK:∀{δ:Ev}{i:Nat}{p:PV},uB δ i=a_ p->δ[i]?=a_ (a_ p)
 |[],_,_,h=>by cases h
 |x::_,0,p,h=>by let h':x=a_ p:=h;simp[h']
 |_::r,n+1,p,h=>by rw[VN];show vK (δ:=r) (i:=n) h
abbrev mV(i:Nat):Me:=λδ h=>match uB δ i with
 |some p=>.ok p h
 |none=>.bad
abbrev mC(p:PV):Me:=λ_ h=>.ok p h
def OP(i:Nat)(hN:X.N[i]?=a_ x:=by rfl)(hv:Vis X.env.scope x:=by first|exact Or.inl rfl|exact Or.inr (Or.inl rfl)|exact Or.inr (Or.inr rfl))(hd:(x == ("__debug__" : Str))=false:=by decide)(f7:(x == ("__classdict__" : Str))=false:=by decide):D_ (.Name x pos) (mV i):=λ_=>by
 refine(FC hN hv hd f7).imp λσ H Q h=>?_;let⟨φ,δ,h,rh,re,p⟩:=h;unfold mV at p;cases e:uB δ i with
 |none=>rw[e]at p;show p.elim
 |some x=>rw[e]at p;let⟨v,hv,rv⟩:=re.2 i x<|vK e;show⟨v,hv,p.val rh rv⟩
def OQ{i j pos}:D_ (.Constant (.int i) j pos) (mC<|.int i):=λ_=>LK.imp λσ H Q ⟨φ,δ,h,rh,re,p⟩=>p.val rh rfl
def R7{i j pos}:D_ (.Constant (.bool i) j pos) (mC<|.bl i):=λ_=>Ob.imp λσ H Q ⟨φ,δ,h,rh,re,p⟩=>p.val rh rfl
def OR{j pos}:D_ (.Constant .none j pos) (mC .non):=λ_=>LL.imp λσ H Q ⟨φ,δ,h,rh,re,p⟩=>p.val rh rfl
def OS{i j pos}:D_ (.Constant (.str i) j pos) (mC<|.str i):=λ_=>LM.imp λσ H Q ⟨φ,δ,h,rh,re,p⟩=>p.val rh rfl
def Gm{n:String}(hv:WV x=a_ (.type n))(hb:x∈C.bs:=by decide)(hg:Gl X x:=by rfl)(hn:x≠"__name__" := by decide)(hd:(x == ("__debug__" : Str))=false:=by decide):D_ (.Name x pos) (mC<|.ty n):=λc=>(Ji (v:=.ty n) hg (c.bn x hb) hv rfl hn hd).imp λσ H Q ⟨φ,δ,h,rh,re,p⟩=>p.val rh rfl
abbrev aB(g:PV->PV->PH->Rs PV)(ma mb:Me):Me:=λδ h=>(ma δ h).bind λx h1=>(mb δ h1).bind λy h2=>g x y h2
variable{ma mb:Me}
def DE{g:PV->PV->PH->Rs PV}{Q:VK}(h:rd C (aB g ma mb) σ H Q):tOp (r2 C g) (rd C ma) (rd C mb) σ H Q:=by let⟨φ,δ,h,rh,re,p⟩:=h;refine⟨φ,δ,h,rh,re,(post.bind p).imp ?_⟩;rintro v H1 ⟨φ1,x,h1,p1,t1,aa,ae,q1⟩;refine⟨φ1,δ,h1,aa,O_ 0,(post.bind q1).imp ?_⟩;rintro u H2 ⟨φ2,y,h2,p2,t2,ah,bq,q2⟩;show⟨φ2,h2,x,y,ah,ae.mono p2 t2,bq,q2⟩
variable{op:CmpOp}
section
variable{a b:v_}{g:PV->PV->PH->Rs PV}
def OT{op:Operator}(ho:Yq (V6 op) g)(ha:D_ a ma)(hb:D_ b mb):D_ (.BinOp a op b pos) (aB g ma mb):=λc=>(Oj (ho c) (ha c)<|hb c).imp λσ H Q h=>DE h
def OU(ho:Yq (Vc op) g)(ha:D_ a ma)(hb:D_ b mb)(hm:behindInMarks op b=false:=by first|exact FJ _|rfl):D_ (.Compare a [op] [b] pos) (aB g ma mb):=λc=>(Jr (ho c) (ha c) (hb c) hm).imp λσ H Q h=>DE h
abbrev mUn(g:PV->PH->Rs PV)(ma:Me):Me:=λδ h=>(ma δ h).bind g
def R8{op:UnaryOp}{g:PV->PH->Rs PV}(ho:UnS C k X (unaryOp op) g)(ha:D_ a ma):D_ (.UnaryOp op a pos) (mUn g ma):=λc=>(Ol (ho c)<|ha c).imp λσ H Q h=>by let⟨φ,δ,h,rh,re,p⟩:=h;refine⟨φ,δ,h,rh,re,(post.bind p).imp ?_⟩;rintro v H1 ⟨φ1,x,h1,p1,t1,aa,ae,q1⟩;show⟨φ1,h1,x,aa,ae,q1⟩
end
abbrev aL(h:PH)(n:Nat):y_ (X9 0):=match h[n]? with
 |some (.lst xs)=>a_ xs
 |_=>b_
def bO(rh:FR h)(e:aL h n=a_ xs):∃a vs,φ[n]?=a_ a/\SqL C.K H a vs/\C_ xs vs:=by
 unfold aL at e;cases q:h[n]? with
 |none=>rw[q]at e;cases e
 |some o=>
  rw[q]at e;let⟨a,ha,ro⟩:=rh.get q;cases o with
  |lst ys=>cases e;let⟨vs,q',r⟩:=ro;show⟨a,vs,ha,SqL.of q',r⟩
  |_=>cases e
abbrev dM(h:PH)(n:Nat):y_ (X9 0):=match h[n]? with
 |some (.lst xs)=>a_ xs
 |_=>b_
def gX(e:dM h n=a_ xs):h[n]?=a_ (.lst xs):=by
 unfold dM at e;cases q:h[n]? with
 |none=>rw[q]at e;cases e
 |some o=>
  rw[q]at e;cases o with
  |lst ys=>cases e;rfl
  |_=>cases e
abbrev nN(x:PV)(h:PH):y_ (X9 0):=match x with
 |.ref n=>aL h n
 |.fl xs=>a_ xs
 |_=>b_
def vL{x:PV}(rh:FR h)(rv:j_ x v)(e:nN x h=a_ xs):∃a vs,v=.ref a/\SqL C.K H a vs/\C_ xs vs:=by
 cases x with
 |ref n=>let⟨a,rfl,ha⟩:=rv;let⟨a2,vs,aq,sa,ra⟩:=bO rh e;rw[ha]at aq;cases aq;show⟨a,vs,rfl,sa,ra⟩
 |fl ys=>
  cases e
  let⟨a,vs,rfl,sa,ra⟩:=rv;show⟨a,vs,rfl,sa.sq,ra⟩
 |_=>cases e
abbrev Lu:X9 0->Bool
 |[]=>true
 |_::_=>false
abbrev Gn:PV->PV->PH->Rs PV:=λx y h=>match x,y with
 |.int i,.int j=>.ok (.int<|i+j) h
 |.str i,.str j=>if i.length+j.length<=UG then .ok (.str<|i++j) h else .bad
 |.tup xs,.tup ys=>if Lu xs=false/\xs.length+ys.length<=UG then .ok (.tup<|xs++ys) h else .bad
 |.ref a,.ref b=>match dM h a,dM h b with
  |some xs,a_ ys=>if xs.length+ys.length<=UG then .ok (.ref h.length) (h++[.lst<|xs++ys]) else .bad
  |_,_=>.bad
 |_,_=>.bad
def post.ite{c:Prop}[Decidable c]{r:Rs PV}{Q:VK}(h:I_ (if c then r else .bad) Q):c/\I_ r Q:=by
 by_cases hc:c
 ·rw[if_pos hc]at h;show⟨hc,h⟩
 ·rw[if_neg hc]at h;show h.elim
def post.lnew{Q:VK}(q:I_ (.ok (.ref h.length)<|h++[.lst xs]) Q)(rh:FR h)(r:C_ xs vs){p:s_}(hp:H p=b_):Q (.ref p) (R_ p<|.lst vs):=q (φ++[p]) (.ref p) _ (Vo _ _) (Kp.new hp) (rh.new hp ⟨vs,aI,r.mono (Vo _ _)<|Kp.new hp⟩) ⟨p,rfl,by rw[<-rh.len];simp⟩
def post.tnew{Q:VK}(q:I_ (.ok (.tup xs) h) Q)(rh:FR h)(r:C_ xs vs){p:s_}(hp:H p=b_):Q (.ref p) (R_ p<|.tup vs):=q φ (.ref p) _ Ux (Kp.new hp) (rh.aside hp) ⟨p,vs,rfl,SqT.of aI,r.mono Ux<|Kp.new hp⟩
variable{ws:x_ V}
def post.lset{Q:VK}(q:I_ (.ok p<|Yr<|.lst xs) Q)(rh:FR h)(e:φ[n]?=a_ a)(hl:H a=a_ (.lst ws))(r:C_ xs vs)(rv:j_ p v):Q v (R_ a<|.lst vs):=q φ v _ Ux (Kp.lst hl) (rh.write e (by rw[hl];trivial) ⟨vs,aI,r.mono Ux<|Kp.lst hl⟩)<|rv.mono Ux<|Kp.lst hl
def Gp(r:C_ xs vs)(h:Lu xs=false):vs≠[]:=by
 cases xs with
 |nil=>cases h
 |cons x xs=>
  cases vs with
  |nil=>exact r.elim
  |cons=>intro z;cases z
def OV:Yq (V6 .Add) Gn:=λc=>(JH C.K c.K).imp λx y H Q h=>by
 let⟨φ,h,p,q,rh,rx,ry,po⟩:=h;unfold Gn at po;cases p with
 |int i=>
  cases q with
  |int j=>cases rx;cases ry;show K_ rfl
  |_=>exact po.elim
 |str i=>
  cases q with
  |str j=>cases rx;cases ry;show⟨po.ite.1,po.ite.2.val rh rfl⟩
  |_=>exact po.elim
 |tup xs=>
  cases q with
  |tup ys=>let⟨a,vs,rfl,sa,ra⟩:=rx;let⟨b,us,rfl,sb,rb⟩:=ry;let⟨⟨h1,h2⟩,po⟩:=po.ite;refine .inr ⟨a,b,vs,us,rfl,rfl,sa,sb,Gp ra h1,by rw[<-ra.length,<-rb.length];show h2,λz=>?_,λz p hp=>po.tnew rh (ra.append rb) hp⟩;subst z;let e:ys=[]:=Xl rb.length;subst e;show K_ ⟨a,vs,rfl,sa,by rw[Ws];show ra⟩
  |_=>exact po.elim
 |ref n=>
  cases q with
  |ref m=>
   let⟨a,rfl,ha⟩:=rx;let⟨b,rfl,hb⟩:=ry;dsimp only at po;cases e1:dM h n with
   |none=>rw[e1]at po;show po.elim
   |some xs=>
    cases e2:dM h m with
    |none=>rw[e1,e2]at po;show po.elim
    |some ys=>rw[e1,e2]at po;let⟨vs,h1,r1⟩:=Yb<|gX e1;let⟨us,h2,r2⟩:=rh.at' m b _ hb<|gX e2;let⟨hz,po⟩:=po.ite;show .inl ⟨a,b,vs,us,rfl,rfl,h1,h2,by rw[<-r1.length,<-r2.length];show hz,λp hp=>po.lnew rh (r1.append r2) hp⟩
  |_=>exact po.elim
 |_=>exact po.elim
abbrev vInt(P:Int->Int->Prop)[∀i j,Decidable<|P i j](f:Int->Int->Int):PV->PV->PH->Rs PV:=λx y h=>match x,y with
 |.int i,.int j=>if P i j then .ok (.int<|f i j) h else .bad
 |_,_=>.bad
def Gq{P:Int->Int->Prop}[∀i j,Decidable<|P i j](ho:Yg f (Bg P g)):Yq f (vInt P g):=λc=>ho.imp λx y H Q h=>by
 let⟨φ,h,p,q,rh,rx,ry,po⟩:=h;unfold vInt at po;cases p with
 |int i=>
  cases q with
  |int j=>cases rx;cases ry;show⟨po.ite.1,po.ite.2.val rh rfl⟩
  |_=>exact po.elim
 |_=>exact po.elim
noncomputable instance(i j:Int):Decidable (B7 i j):=V9 _
noncomputable instance(i j:Int):Decidable (FI i j):=V9 _
noncomputable instance(i j:Int):Decidable (QQ i j):=V9 _
abbrev Bs:PV->PV->PH->Rs PV:=λx y h=>match x,y with
 |.int i,.int j=>.ok (.int<|i-j) h
 |_,_=>.bad
def OW:Yq (V6 .Sub) Bs:=λc=>JI.imp λx y H Q h=>by
 let⟨φ,h,p,q,rh,rx,ry,po⟩:=h;unfold Bs at po;cases p with
 |int i=>
  cases q with
  |int j=>cases rx;cases ry;show K_ rfl
  |_=>exact po.elim
 |_=>exact po.elim
noncomputable abbrev rF:=vInt B7 λi j=>i*j
noncomputable abbrev Bt:=vInt FI λi j=>i/j
@[reducible]def gY:=vInt (λ_ j=>0<j) λi j=>i%j
def OX:Yq (V6 .Mult) rF:=Gq JJ
def OY:Yq (V6 .FloorDiv) Bt:=Gq JK
def OZ:Yq (V6 .Mod) gY:=Gq JL
abbrev CN:PV->PH->Rs PV:=λx h=>match x with
 |.int i=>.ok (.int<|-i) h
 |_=>.bad
variable{C:MC}{k:Nat}{X:Cx}
abbrev ES(f:Int->Int->Bool)(g:x_ Nat->x_ Nat->Bool):PV->PV->PH->Rs PV:=λx y h=>match x,y with
 |.int i,.int j=>.ok (.bl<|f i j) h
 |.str i,.str j=>.ok (.bl<|g i.cps.toList j.cps.toList) h
 |_,_=>.bad
def Gr{p:Int->Int->Bool}{g:x_ Nat->x_ Nat->Bool}(ho:Yg f (Bh p g)):Yq f (ES p g):=λc=>ho.imp λx y H Q h=>by
 let⟨φ,h,p,q,rh,rx,ry,po⟩:=h;unfold ES at po;cases p with
 |int i=>
  cases q with
  |int j=>cases rx;cases ry;show K_ rfl
  |_=>exact po.elim
 |str i=>
  cases q with
  |str j=>cases rx;cases ry;show K_ rfl
  |_=>exact po.elim
 |_=>exact po.elim
@[reducible]def vLt:=ES (λi j=>decide (i<j)) λi j=>decide (i<j)
@[reducible]def vGt:=ES (λi j=>decide (j<i)) λi j=>decide (j<i)
@[reducible]def vLe:=ES (λi j=>decide (i<=j)) λi j=>!decide (j<i)
def R9:Yq (Vc .Lt) vLt:=Gr Mv
def R':Yq (Vc .Gt) vGt:=Gr Mx
def Ra:Yq (Vc .LtE) vLe:=Gr My
mutual
def PV.d:PV->y_ D
 |.non=>a_ .non
 |.bl b=>a_ (.bl b)
 |.int i=>d_ i
 |.str x=>a_ (.str x)
 |.tup xs=>match PV.ds xs with
  |some ds=>a_ (.tup ds)
  |none=>b_
 |.ref _=>b_
 |.ty _=>b_
 |.fl _=>b_
def PV.ds:X9 0->y_ (x_ D)
 |[]=>a_ []
 |x::xs=>match PV.d x,PV.ds xs with
  |some d,a_ ds=>a_ (d::ds)
  |_,_=>b_
end
mutual
theorem RV.rep:∀{x:PV}{d:D}{v:V},j_ x v->x.d=a_ d->Rep C.K H d v
 |.non,_,_,h,e=>by cases e;show h
 |.bl _,_,_,h,e=>by cases e;show h
 |.int _,_,_,h,e=>by cases e;show h
 |.str _,_,_,h,e=>by cases e;show h
 |.tup xs,d,v,⟨a,vs,e1,q,r⟩,e=>by
  unfold PV.d at e;cases e2:PV.ds xs with
  |none=>rw[e2]at e;cases e
  |some ds=>
   rw[e2]at e;cases e
   show⟨a,vs,e1,q,RVs.reps r e2⟩
 |.ref _,_,_,_,e=>by cases e
 |.ty _,_,_,_,e=>by cases e
 |.fl _,_,_,_,e=>by cases e
theorem RVs.reps:∀{xs:X9 0}{ds:x_ D}{vs:x_ V},C_ xs vs->PV.ds xs=a_ ds->eV C.K H ds vs
 |[],_,[],_,e=>by cases e;trivial
 |x::xs,_,v::vs,⟨h,r⟩,e=>by
  unfold PV.ds at e;cases e1:PV.d x with
  |none=>rw[e1]at e;cases e
  |some d=>
   cases e2:PV.ds xs with
   |none=>rw[e1,e2]at e;cases e
   |some ds=>
    rw[e1,e2]at e;cases e
    show⟨RV.rep h e1,RVs.reps r e2⟩
 |[],_,_::_,h,_=>h.elim
 |_::_,_,[],h,_=>h.elim
end
abbrev Ad(x y:PV)(h:PH):y_ Bool:=match x.d,y.d with
 |some d,a_ e=>if d.depth<=40 then a_ (eqD d e) else b_
 | _,_=>match nN x h,nN y h with
   |some xs,a_ ys=>match PV.ds xs,PV.ds ys with
    |some ds,a_ es=>if V_ 0<=40 then a_ (gO ds es) else b_
    |_,_=>b_
   |_,_=>b_
abbrev ofB(o:y_ Bool)(h:PH):Rs PV:=match o with
 |some b=>.ok (.bl b) h
 |none=>.bad
abbrev vEq:PV->PV->PH->Rs PV:=λx y h=>ofB (Ad x y h) h
abbrev vNe:PV->PV->PH->Rs PV:=λx y h=>ofB ((Ad x y h).map not) h
set_option tactic.hygienic true in
def vM{q:PV}{x:V}(rh:FR h)(rx:j_ p x)(ry:j_ q y)(e:Ad p q h=a_ b):
  (∃d e,Rep C.K H d x/\Rep C.K H e y/\d.depth<=40/\b=eqD d e)\/(∃ds es,EG C.K H ds x/\EG C.K H es y/\V_ 0<=40/\b=gO ds es):=by
 unfold Ad at e;split at e
 ·rename_i d e' h1 h2;split at e
  ·rename_i hd;cases e
   show .inl ⟨d,e',rx.rep h1,ry.rep h2,hd,rfl⟩
  ·cases e
 ·split at e
  ·rename_i xs ys h1 h2;split at e
   ·rename_i ds es h3 h4;split at e
    ·rename_i hd;cases e
     let⟨a',vs,rfl,sa,ra⟩:=vL rh rx h1;let⟨Td,us,rfl,sb,rb⟩:=vL rh ry h2;show .inr ⟨ds,es,⟨a',vs,rfl,sa,ra.reps h3⟩,⟨Td,us,rfl,sb,rb.reps h4⟩,hd,rfl⟩
    ·cases e
   ·cases e
  ·cases e
def post.ofB{o:y_ Bool}{Q:VK}(q:I_ (ofB o h) Q):∃b,o=a_ b/\I_ (.ok (.bl b) h) Q:=by
 cases o with
 |none=>exact q.elim
 |some b=>exact⟨b,rfl,q⟩
def Rb:Yq (Vc .Eq) vEq:=λc=>((ME c.hu64 C.K c.K).or<|MG c.hu64 C.K c.K).imp λx y H Q h=>by
 let⟨φ,h,p,q,rh,rx,ry,po⟩:=h;let⟨b,e,po⟩:=po.ofB;rcases vM rh rx ry e with⟨d,e',h1,h2,h3,rfl⟩|⟨d,e',h1,h2,h3,rfl⟩
 ·show .inl ⟨d,e',h1,h2,h3,K_ rfl⟩
 ·show .inr ⟨d,e',h1,h2,h3,K_ rfl⟩
def Rc:Yq (Vc .NotEq) vNe:=λc=>((MF c.hu64 C.K c.K).or<|MH c.hu64 C.K c.K).imp λx y H Q h=>by
 let⟨φ,h,p,q,rh,rx,ry,po⟩:=h;let⟨b,e,po⟩:=po.ofB;cases e0:Ad p q h with
 |none=>rw[e0]at e;cases e
 |some b'=>
  rw[e0]at e;cases e
  rcases vM rh rx ry e0 with⟨d,e',h1,h2,h3,rfl⟩|⟨d,e',h1,h2,h3,rfl⟩
  ·show .inl ⟨d,e',h1,h2,h3,K_ rfl⟩
  ·show .inr ⟨d,e',h1,h2,h3,K_ rfl⟩
abbrev vN:PV->y_ Key
 |.int i=>a_ (.inl i)
 |.str x=>a_ (.inr x)
 |_=>b_
abbrev aP{κ:Type}[Yv 0]:x_ (κ×PV)->κ->y_ PV
 |[],_=>b_
 |(a,p)::r,b=>if a=b then a_ p else aP r b
abbrev Ae(h:PH)(n:Nat)(x:PV):y_ (y_ PV):=match h[n]? with
 |some (.dK kvs)=>match vN x with
  |some key=>a_ (aP kvs key)
  |none=>b_
 |_=>b_
abbrev vO(x:PV)(ys:X9 0):y_ Bool:=match x.d,PV.ds ys with
 |some d,a_ ds=>if V_ 0<=40 then a_ (ds.any λe=>eqD e d) else b_
 |_,_=>b_
abbrev Af(x y:PV)(h:PH):y_ Bool:=match y with
 |.tup ys=>vO x ys
 |.ref n=>match aL h n with
  |some ys=>vO x ys
  |none=>(Ae h n x).map Option.isSome
 |.fl ys=>vO x ys
 |_=>b_
abbrev vIn:PV->PV->PH->Rs PV:=λx y h=>ofB (Af x y h) h
abbrev iV:PV->PV->PH->Rs PV:=λx y h=>ofB ((Af x y h).map not) h
variable{key:Key}
def Gu{x:PV}(r:j_ x v)(e:vN x=a_ key):v=kV key:=by cases x <;> first|(cases e;show r)|cases e
def yU{κ:Type}[Yv 0]{kvs:x_ (κ×PV)}{ks:x_ (κ×V)}(r:RKv C φ H kvs ks)(a:κ):match aP kvs a,lP ks a with
  |some p,a_ v=>j_ p v
  |none,b_=>True
  |_,_=>False:=by
 unfold RKv at r
 induction r with
 |nil=>trivial
 | @cons p q ps qs h t ih=>
  let⟨h1,h2⟩:=h;let⟨pk,pv⟩:=p;by_cases e:pk=a
  ·let e':q.1=a:=h1.symm.trans e;rw[pE e'];unfold aP;rw[if_pos e];show h2
  ·let e':¬ q.1=a:=λz=>e<|h1.trans z;rw[pF e'];unfold aP;rw[if_neg e];show ih
set_option tactic.hygienic true in
def nZ{x:PV}{o:y_ PV}(rh:FR h)(ha:φ[n]?=a_ a)(rv:j_ x v)(e:Ae h n x=a_ o):
  ∃o',nY H a v o'/\o.isSome=o'.isSome/\∀p,o=a_ p->∃w,o'=a_ w/\j_ p w:=by
 unfold Ae at e;split at e
 ·rename_i kvs hk;split at e
  ·rename_i key ba;cases e
   let⟨ks,hH,rk⟩:=Yb hk;let q:=yU rk key;rw[Gu rv ba];refine⟨lP ks key,nY.k hH,?_,λp hp=>?_⟩
   ·cases e1:aP kvs key <;> cases e2:lP ks key <;> rw[e1,e2]at q <;> first|rfl|exact q.elim
   ·rw[hp]at q;cases e2:lP ks key with
    |none=>rw[e2]at q;show q.elim
    |some w=>rw[e2]at q;show⟨w,rfl,q⟩
  ·cases e
 ·cases e
set_option tactic.hygienic true in
def vP{q:PV}{x:V}(rh:FR h)(rx:j_ p x)(ry:j_ q y)(e:Af p q h=a_ b):
  (∃d a ds vs,y=.ref a/\(SqL C.K H a vs\/SqT C.K H a vs)/\Rep C.K H d x/\eV C.K H ds vs/\V_ 0<=40/\b=ds.any λe=>eqD e d)\/∃a o,y=.ref a/\nY H a x o/\b=o.isSome:=by
 let go:∀{a:s_}{vs:x_ V}{ys:X9 0},(SqL C.K H a vs\/SqT C.K H a vs)->C_ ys vs->vO p ys=a_ b->∃d a' ds vs,V.ref a=.ref a'/\(SqL C.K H a' vs\/SqT C.K H a' vs)/\Rep C.K H d x/\eV C.K H ds vs/\V_ 0<=40/\b=ds.any λe=>eqD e d:=by
  intro a vs ys hs hr he;unfold vO at he;split at he
  ·rename_i d ds h1 h2;split at he
   ·rename_i hd;cases he
    show⟨d,a,ds,vs,rfl,hs,rx.rep h1,hr.reps h2,hd,rfl⟩
   ·cases he
  ·cases he
 unfold Af at e;split at e
 ·let⟨a,vs,rfl,sa,ra⟩:=ry;show .inl<|go (.inr sa) ra e
 ·rename_i n;let⟨a,rfl,ha⟩:=ry;split at e
  ·rename_i ys hl;let⟨a2,vs,aq,sa,ra⟩:=bO rh hl;rw[ha]at aq;cases aq;show .inl<|go (.inl sa) ra e
  ·cases e':Ae h n p with
   |none=>rw[e']at e;cases e
   |some o=>
    rw[e']at e;cases e
    let⟨o',g,i,_⟩:=nZ rh ha rx e';show .inr ⟨a,o',rfl,g,i⟩
 ·let⟨a,vs,rfl,sa,ra⟩:=ry;show .inl<|go (.inl sa.sq) ra e
 ·cases e
def Re:Yq (Vc .In) vIn:=λc=>((MJ c.hu64 C.K c.K).or<|Mz c.hu C.K c.K).imp λx y H Q h=>by
 let⟨φ,h,p,q,rh,rx,ry,po⟩:=h;let⟨b,e,po⟩:=po.ofB;rcases vP rh rx ry e with⟨d,a,ds,vs,rfl,h1,h2,h3,h4,rfl⟩|⟨a,o,rfl,g,rfl⟩
 ·show .inl ⟨d,a,ds,vs,rfl,h1,h2,h3,h4,K_ rfl⟩
 ·show .inr (.inr ⟨a,o,rfl,g,K_ rfl⟩)
def JR:Yq (Vc .NotIn) iV:=λc=>((EH c.hu64 C.K c.K).or<|ED c.hu C.K c.K).imp λx y H Q h=>by
 let⟨φ,h,p,q,rh,rx,ry,po⟩:=h;let⟨b,e,po⟩:=po.ofB;cases e':Af p q h with
 |none=>rw[e']at e;cases e
 |some b'=>
  rw[e']at e;cases e
  rcases vP rh rx ry e' with⟨d,a,ds,vs,rfl,h1,h2,h3,h4,rfl⟩|⟨a,o,rfl,g,rfl⟩
  ·show .inl ⟨d,a,ds,vs,rfl,h1,h2,h3,h4,K_ rfl⟩
  ·show .inr (.inr ⟨a,o,rfl,g,K_ rfl⟩)
abbrev vQ:PV->Bool
 |.non=>true
 |_=>false
abbrev vIs:PV->PV->PH->Rs PV:=λx y h=>match y with
 |.non=>.ok (.bl<|vQ x) h
 |.bl b=>match x with
  |.bl a=>.ok (.bl<|a == b) h
  |_=>.bad
 |_=>.bad
abbrev hV:PV->PV->PH->Rs PV:=λx y h=>match y with
 |.non=>.ok (.bl<|!vQ x) h
 |.bl b=>match x with
  |.bl a=>.ok (.bl<|!(a == b)) h
  |_=>.bad
 |_=>.bad
def RV.isNon(r:j_ p v):decide (v=.non)=vQ p:=by
 cases p with
 |non=>cases r;rfl
 |tup xs=>let⟨a,vs,rfl,_⟩:=r;rfl
 |ref n=>let⟨a,rfl,_⟩:=r;rfl
 |fl xs=>let⟨a,vs,rfl,_⟩:=r;rfl
 |_=>cases r;rfl
def JS:Yq (Vc .IsNot) hV:=λc=>(Jq.or (λtd s σ H x y v u Q I rx ry(h:∃a b,x=.bl a/\y=.bl b/\Q (.bl<|!(a == b)) H)=>by let⟨a,b,rfl,rfl,q⟩:=h;cases rx;cases ry;show PyProof.Rows.isnot_bool ⟨.bl _,H,I,rfl,q⟩)).imp λx y H Q h=>by
 let⟨φ,h,p,q,rh,rx,ry,po⟩:=h;unfold hV at po;cases q with
 |non=>
  cases ry
  refine .inl ⟨rfl,?_⟩;rw[rx.isNon];show K_ rfl
 |bl b=>
  cases p with
  |bl a=>cases rx;cases ry;show .inr ⟨a,b,rfl,rfl,K_ rfl⟩
  |_=>exact po.elim
 |_=>exact po.elim
abbrev tru(x:PV)(h:PH):Rs Bool:=match x with
 |.non=>.ok false h
 |.bl b=>.ok b h
 |.int i=>.ok (i != 0) h
 |.str y=>if y.length<=UG then .ok ((y.length:Int) != 0) h else .bad
 |.tup xs=>.ok (!xs.isEmpty) h
 |.ref n=>match aL h n with
  |some xs=>.ok (!xs.isEmpty) h
  |none=>match h[n]? with
   |some (.dK kvs)=>.ok (!kvs.isEmpty) h
   |_=>.bad
 |.fl xs=>.ok (!xs.isEmpty) h
 |.ty _=>.bad
def RVs.isEmpty(r:C_ xs vs):(!vs.isEmpty)=!xs.isEmpty:=by cases xs <;> cases vs <;> first|rfl|exact r.elim
def bN.ite{c:Prop}[Decidable c]{r:Rs Bool}{Q:Bool->Hp->Prop}(h:bN C φ H (if c then r else .bad) Q):c/\bN C φ H r Q:=by
 by_cases hc:c
 ·rw[if_pos hc]at h;show⟨hc,h⟩
 ·rw[if_neg hc]at h;show h.elim
def bN.val{Q:Bool->Hp->Prop}(q:bN C φ H (.ok b h) Q)(rh:FR h):Q b H:=q φ H Ux (Kp.refl H) rh
set_option tactic.hygienic true in
def ET{Q:Bool->Hp->Prop}(rh:FR h)(rv:j_ p v)(po:bN C φ H (tru p h) Q):∃b,Js C.K v H b/\Q b H:=by
 unfold tru at po;cases p with
 |non=>cases rv;show⟨_,rfl,po.val rh⟩
 |bl b=>cases rv;show⟨_,rfl,po.val rh⟩
 |int i=>cases rv;show⟨_,rfl,po.val rh⟩
 |str y=>cases rv;show⟨_,⟨po.ite.1,rfl⟩,po.ite.2.val rh⟩
 |tup xs=>let⟨a,vs,rfl,sa,ra⟩:=rv;show⟨_,.inr<|.inl ⟨vs,sa,rfl⟩,by rw[ra.isEmpty];show po.val rh⟩
 |ref n=>
  let⟨a,rfl,ha⟩:=rv;dsimp only at po;cases e:aL h n with
  |some xs=>rw[e]at po;let⟨a2,vs,aq,sa,ra⟩:=bO rh e;rw[ha]at aq;cases aq;show⟨_,.inl ⟨vs,sa,rfl⟩,by rw[ra.isEmpty];show po.val rh⟩
  |none=>
   rw[e]at po;dsimp only at po;split at po
   ·rename_i kvs hk;let⟨ks,hH,rk⟩:=Yb hk;refine⟨_,.inr<|.inr ⟨ks,hH,rfl⟩,?_⟩;have:(!ks.isEmpty)=!kvs.isEmpty:=by cases rk <;> rfl
    rw[this];show po.val rh
   ·show po.elim
 |fl xs=>let⟨a,vs,rfl,sa,ra⟩:=rv;show⟨_,.inl ⟨vs,sa.sq,rfl⟩,by rw[ra.isEmpty];show po.val rh⟩
 |ty n=>exact po.elim
variable{C:MC}{k:Nat}{X:Cx}
abbrev aO(m:Me):Ev->PH->Rs Bool:=λδ h=>(m δ h).bind tru
variable{m:Me}
def Gv{Q:Bool->Hp->Prop}(h:rdB C (aO m) σ H Q):rd C m σ H λv H1=>∃b,Js C.K v H1 b/\Q b H1:=by let⟨φ,δ,h,rh,re,p⟩:=h;refine⟨φ,δ,h,rh,re,(post.bindB p).imp ?_⟩;rintro v H1 ⟨φ1,x,h1,p1,t1,aa,ae,q1⟩;show ET aa ae q1
section
variable{a b c':v_}{mc:Me}{g g':PV->PV->PH->Rs PV}{ta tb:Ev->PH->Rs Bool}
def P0(h:D_ e m)(he:∀whole,isTrue e X.env whole=(do let v <-whole;standAt e.pos;holding [v] (truthy v)):=by intro _;rfl):ST C k X e (aO m):=λc=>
 (FM (h c) he).imp λσ H Q q=>by rw[c.K];exact Gv q
def P3(ho:Yq (Vc op) g)(ha:D_ a ma)(hb:D_ b mb)(hm:behindInMarks op b=false:=by first|exact FJ _|rfl):ST C k X (.Compare a [op] [b] pos) (aO<|aB g ma mb):=λc=>by
 intro td s σ H Q I h;let h:=DE<|Gv h;refine wpAny_isTrue_Compare1 (thn (ha c td s σ H _ I h) λv s1 ⟨x,H1,I1,r1,q1⟩=>thn (hb c td s1 σ H1 _ I1 q1) λu s2 ⟨y,H2,I2,r2,q2⟩=>thn (ho c td s2 σ H2 x y v u _ I2 r1 r2 q2) λw s3 ⟨z,H3,I3,r3,q3⟩=>?_) hm;rw[<-c.K]at q3;show FK td s3 σ H3 z w Q I3 r3 q3
abbrev P4(z:PV)(h:PH):Rs PV:=match z with
 |.bl b=>.ok (.bl b) h
 |_=>.bad
abbrev RP(g g':PV->PV->PH->Rs PV)(ma mb mc:Me):Me:=λδ h=>(ma δ h).bind λx h1=>(mb δ h1).bind λy h2=>(g x y h2).bind λz h3=>match z with
 |.bl true=>(mc δ h3).bind λw h4=>(g' y w h4).bind P4
 |.bl false=>.ok (.bl false) h3
 |_=>.bad
abbrev Bu(t:Ev->PH->Rs Bool):Ev->PH->Rs Bool:=λδ h=>(t δ h).bind λb h1=>.ok (!b) h1
abbrev tL(ta tb:Ev->PH->Rs Bool):Ev->PH->Rs Bool:=λδ h=>(ta δ h).bind λb h1=>match b with
 |true=>tb δ h1
 |false=>.ok false h1
abbrev CO(ta tb:Ev->PH->Rs Bool):Ev->PH->Rs Bool:=λδ h=>(ta δ h).bind λb h1=>match b with
 |true=>.ok true h1
 |false=>tb δ h1
def bN.imp{r:Rs Bool}{Q Q':Bool->Hp->Prop}(h:bN C φ H r Q)(i:∀v H',Q v H'->Q' v H'):bN C φ H r Q':=by
 cases r with
 |ok a h'=>exact λφ' H' p t rh=>i a H' (h φ' H' p t rh)
 |exc a h'=>exact h
 |bad=>exact h
def P5(h:ST C k X e ta):ST C k X (.UnaryOp .Not e pos) (Bu ta):=λc=>(LP<|h c).imp λσ H Q q=>by let⟨φ,δ,h,rh,re,p⟩:=q;refine⟨φ,δ,h,rh,re,(bN.bindB p).imp ?_⟩;rintro b H1 ⟨φ1,h1,p1,t1,aa,q1⟩;show q1.val aa
abbrev SW(C:MC)(k:Nat)(X:Cx)(e:v_)(m:Ev->PH->Rs Bool):Prop:=X7 X->PW X e (rdB C m)
def SW.t(h:SW C k X e ta):ST C k X e ta:=λc=>(h c).pt
def PW.imp{t t':TT}(h:PW X e t)(i:∀σ H Q,t' σ H Q->t σ H Q):PW X e t':=λw td s σ H Q I q=>h w td s σ H Q I<|i σ H Q q
def MN(ha:ST C k X a ta):SW C k X (.BoolOp .And [a] pos) ta:=λc=>Jj<|ha c
def P6(ha:ST C k X a ta):SW C k X (.BoolOp .Or [a] pos) ta:=λc=>LN<|ha c
def w_and{rest:x_ v_}(ha:ST C k X a ta)(hb:SW C k X (.BoolOp .And (b::rest) pos) tb):SW C k X (.BoolOp .And (a::b::rest) pos) (tL ta tb):=λc=>PW.imp (LO (ha c)<|hb c) λσ H Q q=>by
 let⟨φ,δ,h,rh,re,p⟩:=q;refine⟨φ,δ,h,rh,re,(bN.bindB p).imp ?_⟩;rintro b H1 ⟨φ1,h1,p1,t1,aa,q1⟩;cases b with
 |true=>exact Ey ⟨φ1,δ,h1,aa,O_ 0,q1⟩
 |false=>exact Ex<|q1.val aa
def w_or{rest:x_ v_}(ha:ST C k X a ta)(hb:SW C k X (.BoolOp .Or (b::rest) pos) tb):SW C k X (.BoolOp .Or (a::b::rest) pos) (CO ta tb):=λc=>PW.imp (Oc (ha c)<|hb c) λσ H Q q=>by
 let⟨φ,δ,h,rh,re,p⟩:=q;refine⟨φ,δ,h,rh,re,(bN.bindB p).imp ?_⟩;rintro b H1 ⟨φ1,h1,p1,t1,aa,q1⟩;cases b with
 |true=>exact Ey<|q1.val aa
 |false=>exact Ex ⟨φ1,δ,h1,aa,O_ 0,q1⟩
abbrev Bv(ma mb:Me):Me:=λδ h=>(ma δ h).bind λx h1=>match x with
 |.bl true=>mb δ h1
 |.bl false=>.ok (.bl false) h1
 |_=>.bad
def P7{op}(h:D_ a ma):D_ (.BoolOp op [a] pos) ma:=λc=>LQ<|h c
def P8{rest:x_ v_}(ha:D_ a ma)(hb:D_ (.BoolOp .And (b::rest) pos) mb):D_ (.BoolOp .And (a::b::rest) pos) (Bv ma mb):=λc=>(JM (ha c)<|hb c).imp λσ H Q q=>by
 let⟨φ,δ,h,rh,re,p⟩:=q;refine⟨φ,δ,h,rh,re,(post.bind p).imp ?_⟩;rintro v H1 ⟨φ1,x,h1,p1,t1,aa,rv,q1⟩;cases x with
 |bl b=>
  cases rv
  cases b with
  |true=>exact Ey ⟨φ1,δ,h1,aa,O_ 0,q1⟩
  |false=>exact Ex<|q1.val aa rfl
 |_=>exact q1.elim
abbrev mIf(t:Ev->PH->Rs Bool)(ma mb:Me):Me:=λδ h=>(t δ h).bind λb h1=>match b with
 |true=>ma δ h1
 |false=>mb δ h1
def JT(ht:ST C k X c' ta)(ha:D_ a ma)(hb:D_ b mb):D_ (.IfExp c' a b pos) (mIf ta ma mb):=λc=>(FD (ht c) (ha c)<|hb c).imp λσ H Q q=>by
 let⟨φ,δ,h,rh,re,p⟩:=q;refine⟨φ,δ,h,rh,re,(bN.bind p).imp ?_⟩;rintro b H1 ⟨φ1,h1,p1,t1,aa,q1⟩;cases b with
 |true=>exact Ey ⟨φ1,δ,h1,aa,O_ 0,q1⟩
 |false=>exact Ex ⟨φ1,δ,h1,aa,O_ 0,q1⟩
end
def RVs.atI{i:Int}{x:PV}(r:C_ xs vs)(e:L2.atI xs i=a_ x):∃v,L2.atI vs i=a_ v/\j_ x v:=by
 unfold L2.atI at e⊢;rw[<-r.length];cases q:ixN xs.length i with
 |none=>rw[q]at e;cases e
 |some j=>rw[q]at e;show r.at e
abbrev ofO(o:y_ PV)(h:PH):Rs PV:=match o with
 |some p=>.ok p h
 |none=>.bad
abbrev vIx:PV->PV->PH->Rs PV:=λx y h=>match x with
 |.str z=>(match y with
  |.int i=>if z.length<=UG then ofO ((atI z.cps.toList i).map λc=>.str ⟨#[c]⟩) h else .bad
  |_=>.bad)
 |.tup xs=>(match y with
  |.int i=>ofO (atI xs i) h
  |_=>.bad)
 |.fl xs=>(match y with
  |.int i=>ofO (atI xs i) h
  |_=>.bad)
 |.ref n=>(match aL h n with
  |some xs=>(match y with
   |.int i=>ofO (atI xs i) h
   |_=>.bad)
  |none=>(match Ae h n y with
   |some o=>ofO o h
   |none=>.bad))
 |_=>.bad
def post.ofO{o:y_ PV}{Q:VK}(q:I_ (ofO o h) Q):∃p,o=a_ p/\I_ (.ok p h) Q:=by
 cases o with
 |none=>exact q.elim
 |some b=>exact⟨b,rfl,q⟩
def P9{x:V}{Q:VK}(h:r2 C vIx x y H Q):OG C.K x y H Q:=by
 let⟨φ,h,p,q,rh,rx,ry,po⟩:=h;unfold vIx at po;cases p with
 |str z=>
  cases rx
  cases q with
  |int i=>
   cases ry
   let⟨hz,po⟩:=po.ite;let⟨p,e,po⟩:=po.ofO;cases e':atI z.cps.toList i with
   |none=>rw[e']at e;cases e
   |some c=>rw[e']at e;cases e;show⟨hz,c,e',K_ rfl⟩
  |_=>exact po.elim
 |tup xs=>
  let⟨a,vs,rfl,sa,ra⟩:=rx;cases q with
  |int i=>
   cases ry
   let⟨p,e,po⟩:=po.ofO;let⟨v,hv,rv⟩:=ra.atI e;show .inl ⟨vs,i,v,rfl,.inr sa,hv,K_ rv⟩
  |_=>exact po.elim
 |fl xs=>
  let⟨a,vs,rfl,sa,ra⟩:=rx;cases q with
  |int i=>
   cases ry
   let⟨p,e,po⟩:=po.ofO;let⟨v,hv,rv⟩:=ra.atI e;show .inl ⟨vs,i,v,rfl,.inl sa.sq,hv,K_ rv⟩
  |_=>exact po.elim
 |ref n=>
  let⟨a,rfl,ha⟩:=rx;dsimp only at po;cases e:aL h n with
  |some xs=>
   rw[e]at po;let⟨a2,vs,aq,sa,ra⟩:=bO rh e;rw[ha]at aq;cases aq;cases q with
   |int i=>
    cases ry
    let⟨p,e,po⟩:=po.ofO;let⟨v,hv,rv⟩:=ra.atI e;show .inl ⟨vs,i,v,rfl,.inl sa,hv,K_ rv⟩
   |_=>exact po.elim
  |none=>
   rw[e]at po;dsimp only at po;cases e':Ae h n q with
   |none=>rw[e']at po;show po.elim
   |some o=>rw[e']at po;let⟨p,eo,po⟩:=po.ofO;let⟨o',g,_,hp⟩:=nZ rh ha ry e';let⟨w,rfl,dh⟩:=hp p eo;show .inr ⟨w,g,K_ dh⟩
 |_=>exact po.elim
variable{hi lo:y_ Int}{items:Ya 0}{vl vu:q_}
def nI{t sl:s_}(ht:IsTup s.heap t items)(hs:s.heap.IsSliceOf sl vl vu .none)(pl:IsPart vl lo)(pu:IsPart vu hi)(hw:HT.sIx items.size 0 lo=0/\HT.sIx items.size items.size hi=items.size)(h:Q (.ref t) s):p_ (getItem (.ref t)<|.ref sl) Q E s:=by
 let⟨os,n4,um,nj⟩:=id hs;let vi:s.TypeIs (.ref sl) "slice" := ⟨os,n4,um⟩;unfold getItem
 try with_reducible refine VY ?_
 first|refine SB (SL ?_)|skip
 refine SB (wpAny_sequenceKey ht.typeIs (by decide) ?_);refine SB (U6 (name:=UB "__getitem__") ht.typeIs Vt
  (Vd Vt ht.typeIs entry_tuple_getitem ?_ (args_tuple_getitem _ _)))
 change B_ (XF (.ref t) >>= _) _ _ s
 refine SB<|tupleItemsOf_ ht ?_;refine SB<|wpAny_typeOf vi ?_;rw[if_pos<|by decide];refine SB<|HT.sliceApplied_gen hs pl pu ?_;let ou:((((HT.sIx items.size 0 lo:Nat):Int) == 0&&(1:Int) == 1&&(HT.sIx items.size items.size hi-HT.sIx items.size 0 lo) == items.size)=true):=by rw[hw.1,hw.2];simp
 change B_ (if(((HT.sIx items.size 0 lo:Nat):Int) == 0&&(1:Int) == 1&&(HT.sIx items.size items.size hi-HT.sIx items.size 0 lo) == items.size)=true then _ else _) _ _ s
 rw[if_pos ou];refine SB ?_;unfold Builtin.Tuple.tupleIsExact;refine SB<|wpAny_typeOf ht.typeIs<|SL ?_;rw[if_pos<|by decide];refine SB<|Xo ?_;show SL ⟨_,rfl,SL h⟩
variable{C:MC}{k:Nat}{X:Cx}
abbrev cR{α:Type}(xs:x_ α)(lo hi:y_ Int):x_ α:=(xs.drop<|W_ 0 lo).take<|W_ xs.length hi-W_ 0 lo
def RVs.cut(r:C_ xs vs)(lo hi:y_ Int):C_ (cR xs lo hi) (Ba vs lo hi):=by unfold cR Ba;rw[<-r.length];show(r.drop _).take _
abbrev vSl:PV->y_ Int->y_ Int->PH->Rs PV:=λx lo hi h=>match x with
 |.str z=>if z.length<=UG then .ok (.str<|Txt.slice z lo hi) h else .bad
 |.tup xs=>.ok (.tup<|cR xs lo hi) h
 |.ref n=>match aL h n with
  |some xs=>.ok (.ref h.length) (h++[.lst<|cR xs lo hi])
  |none=>.bad
 |.fl xs=>.ok (.ref h.length) (h++[.lst<|cR xs lo hi])
 |_=>.bad
abbrev P'(K:Us):V->y_ Int->y_ Int->Hp->VK->Prop:=λx lo hi H Q=>∃a xs,x=.ref a/\SqT K H a xs/\(W_ 0 lo=0/\W_ xs.length hi=xs.length)/\Q (.ref a) H
def Gw:SlR X (P' X.K):=by
 intro td s σ H x v vl vu lo hi sl Q I rx hs pl pu h;let⟨a,xs,rfl,hx,hw,q⟩:=h;cases rx
 let⟨its,r,ht,hz⟩:=I.tuple hx;let hlen:its.toArray.size=xs.length:=by rw[UC];show r.length.symm
 refine⟨"tuple",_,Vt.lookup,ht.typeIs,?_⟩;show nI ht hs pl pu (by rw[hlen];show hw) ⟨.ref a,H,I,rfl,q⟩
variable{r r':V->y_ Int->y_ Int->Hp->VK->Prop}
def SlR.imp(h:SlR X r)(i:∀x lo hi H Q,r' x lo hi H Q->r x lo hi H Q):SlR X r':=λtd s σ H x v vl vu lo hi sl Q I rx hs pl pu q=>Ym x v vl vu lo hi sl Q I rx hs pl pu<|i x lo hi H Q q
abbrev r3(C:MC)(g:PV->y_ Int->y_ Int->PH->Rs PV):V->y_ Int->y_ Int->Hp->VK->Prop:=λx lo hi H Q=>∃φ h p,FR h/\j_ p x/\I_ (g p lo hi h) Q
def MP(hK:X.K=C.K):SlR X (r3 C vSl):=by
 let e:SlR X (λx lo hi H Q=>OD x lo hi H Q\/Ot C.K x lo hi H Q\/Ow C.K x lo hi H Q\/P' C.K x lo hi H Q):=by rw[<-hK];show Mu.or<|Mc.or<|JB.or Gw
 refine e.imp λx lo hi H Q h=>?_;let⟨φ,h,p,rh,rv,po⟩:=h;unfold vSl at po;cases p with
 |str z=>cases rv;show .inl ⟨z,rfl,po.ite.1,po.ite.2.val rh rfl⟩
 |tup xs=>
  let⟨a,vs,rfl,sa,ra⟩:=rv;by_cases hw:HT.sIx vs.length 0 lo=0/\HT.sIx vs.length vs.length hi=vs.length
  ·refine .inr (.inr<|.inr ⟨a,vs,rfl,sa,hw,K_ ⟨a,vs,rfl,sa,?_⟩⟩);let e:cR xs lo hi=xs:=by unfold cR;rw[ra.length,hw.1,hw.2,List.drop_zero,Nat.sub_zero,<-ra.length,WU]
   rw[e];show ra
  ·show .inr (.inl ⟨a,vs,rfl,sa,hw,λp hp=>po.tnew rh (ra.cut lo hi) hp⟩)
 |ref n=>
  let⟨a,rfl,ha⟩:=rv;dsimp only at po;cases e:aL h n with
  |none=>rw[e]at po;show po.elim
  |some xs=>rw[e]at po;let⟨a2,vs,aq,sa,ra⟩:=bO rh e;rw[ha]at aq;cases aq;show .inr<|.inr<|.inl ⟨a,vs,rfl,sa,λp hp=>po.lnew rh (ra.cut lo hi) hp⟩
 |fl xs=>let⟨a,vs,rfl,sa,ra⟩:=rv;show .inr<|.inr<|.inl ⟨a,vs,rfl,sa.sq,λp hp=>po.lnew rh (ra.cut lo hi) hp⟩
 |_=>exact po.elim
@[reducible]def Mo:=Ev->PH->Rs (y_ Int)
abbrev tN(C:MC)(φ:x_ s_)(H:Hp)(r:Rs (y_ Int))(Q:y_ Int->Hp->Prop):Prop:=match r with
 |.ok b h=>∀φ' H',φ<+:φ'->Kp H H'->Yn h->Q b H'
 |.exc x h=>∀φ' H',φ<+:φ'->Kp H H'->Yn h->C.ex φ' H' x
 |.bad=>False
abbrev rdO(C:MC)(m:Mo):TO:=λσ H Q=>∃φ δ h,FR h/\Yi 0/\tN C φ H (m δ h) Q
abbrev SO(C:MC)(k:Nat)(X:Cx)(e:y_ v_)(m:Mo):Prop:=X7 X->PO X e (rdO C m)
abbrev nJ:Mo:=λ_ h=>.ok b_ h
abbrev mP(m:Me):Mo:=λδ h=>(m δ h).bind λx h1=>match x with
 |.int i=>.ok (a_ i) h1
 |_=>.bad
def MQ:SO C k X b_ nJ:=λc td s σ H Q I h=>by let⟨φ,δ,h,rh,re,p⟩:=h;show Jy td s σ H Q I<|p φ H Ux (Kp.refl H) rh
def MR(h:D_ e m):SO C k X (a_ e) (mP m):=λc td s σ H Q I q=>by
 refine Ga (h c) td s σ H Q I ?_;let⟨φ,δ,h,rh,re,p⟩:=q;refine⟨φ,δ,h,rh,re,?_⟩;unfold mP at p;cases e':m δ h with
 |ok x h1=>
  rw[e']at p;intro φ' v H' p' t' bf bg;cases x with
  |int i=>cases bg;show p φ' H' p' t' bf
  |_=>exact p.elim
 |exc x h1=>rw[e']at p;show p
 |bad=>rw[e']at p;show p
abbrev mSl(me:Me)(ml mh:Mo):Me:=λδ h=>(me δ h).bind λx h1=>(ml δ h1).bind λl h2=>(mh δ h2).bind λu h3=>vSl x l u h3
def tN.bind{r:Rs (y_ Int)}{f:y_ Int->PH->Rs PV}{Q:VK}(h:I_ (r.bind f) Q):tN C φ H r λb H1=>∃φ1 h1,φ<+:φ1/\Kp H H1/\Yl 0/\post C φ1 H1 (f b h1) Q:=by
 cases r with
 |ok a h'=>exact λφ' H' p t rh=>⟨φ',h',p,t,rh,post.weak p t h⟩
 |exc a h'=>exact h
 |bad=>exact h
variable{Q':y_ Int->Hp->Prop}
def tN.imp{r:Rs (y_ Int)}{Q:y_ Int->Hp->Prop}(h:tN C φ H r Q)(i:∀v H',Q v H'->Q' v H'):tN C φ H r Q':=by
 cases r with
 |ok a h'=>exact λφ' H' p t rh=>i a H' (h φ' H' p t rh)
 |exc a h'=>exact h
 |bad=>exact h
variable{me:Me}{mh ml:Mo}
def Rf{lo hi:y_ v_}{p2:Pos}(he:D_ e me)(hl:SO C k X lo ml)(hh:SO C k X hi mh):D_ (.Subscript e (.Slice lo hi b_ p2) pos) (mSl me ml mh):=λc=>(FZ (MP c.K) (he c) (hl c)<|hh c).imp λσ H Q h=>by let⟨φ,δ,h,rh,re,p⟩:=h;refine⟨φ,δ,h,rh,re,(post.bind p).imp ?_⟩;rintro v H1 ⟨φ1,x,h1,p1,t1,aa,ae,q1⟩;refine⟨φ1,δ,h1,aa,O_ 0,(tN.bind q1).imp ?_⟩;rintro l H2 ⟨φ2,h2,p2,t2,ah,q2⟩;refine⟨φ2,δ,h2,ah,re.mono (p1.trans p2)<|t1.trans t2,(tN.bind q2).imp ?_⟩;rintro u H3 ⟨φ3,h3,p3,t3,c8,q3⟩;show⟨φ3,h3,x,c8,ae.mono (p2.trans p3)<|t2.trans t3,q3⟩
@[reducible]def Ma:=Ev->PH->Rs (X9 0)
abbrev aC:Ma:=λ_ h=>.ok [] h
abbrev aA(m:Me)(ms:Ma):Ma:=λδ h=>(m δ h).bind λx h1=>(ms δ h1).bind λxs h2=>.ok (x::xs) h2
def PA.imp{t t':TA}(h:PA X es t)(i:∀σ H Q,t' σ H Q->t σ H Q):PA X es t':=λpos td s σ H Q I q=>h pos td s σ H Q I<|i σ H Q q
def Pa:SA C k X [] aC:=λc=>A0.imp λσ H Q h=>by let⟨φ,δ,h,rh,re,p⟩:=h;show p φ [] H Ux (Kp.refl H) rh trivial
def postA.imp{r:Rs (X9 0)}{Q Q':x_ V->Hp->Prop}(h:postA C φ H r Q)(i:∀v H',Q v H'->Q' v H'):postA C φ H r Q':=by
 cases r with
 |ok a h'=>exact λφ' v H' p t rh rv=>i v H' (h φ' v H' p t rh rv)
 |exc a h'=>exact h
 |bad=>exact h
variable{ms:Ma}
def MS(he:D_ e m)(hs:SA C k X es ms)(hh:UL (e::es) X.env=(false,S_ 0)::U_ 0:=by rfl):SA C k X (e::es) (aA m ms):=λc=>(uK (he c) (hs c) hh).imp λσ H Q h=>by let⟨φ,δ,h,rh,re,p⟩:=h;refine⟨φ,δ,h,rh,re,(post.bindA p).imp ?_⟩;rintro v H1 ⟨φ1,x,h1,p1,t1,aa,ae,q1⟩;refine⟨φ1,δ,h1,aa,O_ 0,(postA.bindA q1).imp ?_⟩;rintro vs H2 ⟨φ2,xs,h2,p2,t2,ah,bq,q2⟩;show q2 φ2 (v::vs) H2 Ux (Kp.refl H2) ah ⟨ae.mono p2 t2,bq⟩
abbrev aZ(ms:Ma):Me:=λδ h=>(ms δ h).bind λxs h1=>if xs.length<=UG then .ok (.tup xs) h1 else .bad
abbrev iI(ms:Ma):Me:=λδ h=>(ms δ h).bind λxs h1=>if xs.length<=UG then .ok (.ref h1.length) (h1++[.lst xs]) else .bad
def Pb{x1}(hs:SA C k X es ms):D_ (.Tuple es x1 pos) (aZ ms):=λc=>(M8<|hs c).imp λσ H Q h=>by let⟨φ,δ,h,rh,re,p⟩:=h;refine⟨φ,δ,h,rh,re,(postA.bind p).imp ?_⟩;rintro vs H1 ⟨φ1,xs,h1,p1,t1,aa,ae,q1⟩;show⟨by rw[<-ae.length];show q1.ite.1,λp hp=>q1.ite.2.tnew aa ae hp⟩
def Pc(hs:SA C k X es ms):D_ (.List es pos) (iI ms):=λc=>(M9<|hs c).imp λσ H Q h=>by let⟨φ,δ,h,rh,re,p⟩:=h;refine⟨φ,δ,h,rh,re,(postA.bind p).imp ?_⟩;rintro vs H1 ⟨φ1,xs,h1,p1,t1,aa,ae,q1⟩;show⟨by rw[<-ae.length];show q1.ite.1,λp hp=>q1.ite.2.lnew aa ae hp⟩
abbrev bW:Me:=λ_ h=>.ok (.ref h.length)<|h++[.dK []]
def JU:D_ (.Dict [] [] pos) bW:=λc=>G6.imp λσ H Q h=>by let⟨φ,δ,h,rh,re,p⟩:=h;intro a ha;show p (φ++[a]) (.ref a) _ (Vo _ _) (Kp.new ha) (rh.new ha ⟨[],aI,.nil⟩) ⟨a,rfl,by rw[<-rh.len];simp⟩
abbrev mCB(g:X9 0->PH->Rs PV)(ms:Ma):Me:=λδ h=>(ms δ h).bind g
def Lv{g:X9 0->PH->Rs PV}{Q:VK}(h:rd C (mCB g ms) σ H Q):tCB (rL C g) (rdA C ms) σ H Q:=by let⟨φ,δ,h,rh,re,p⟩:=h;refine⟨φ,δ,h,rh,re,(postA.bind p).imp ?_⟩;rintro vs H1 ⟨φ1,xs,h1,p1,t1,aa,ae,q1⟩;show⟨φ1,h1,xs,aa,ae,q1⟩
def pT{p:Pos}{id:String}{g:X9 0->PH->Rs PV}(hc:lX C k X (.builtin id) g)(hv:WV x=a_ (.builtin id))(ha:SA C k X (e::es) ms)(hb:x∈C.bs:=by decide)(hg:Gl X x:=by rfl)(hn:x≠"__name__" := by decide)(b5:(x == ("__debug__" : Str))=false:=by decide)(he:UL (e::es) X.env=(false,S_ 0)::U_ 0:=by rfl)(bh:(Yc<|U_ 0).any (·.1)=false:=by rfl):D_ (.Call (.Name x p) (e::es) [] pos) (mCB g ms):=λc=>(FX (hc c) hg (c.bn x hb) hv (ha c) hn b5 he bh).imp λσ H Q h=>Lv h
variable{T:String}
def pU{p:Pos}{g:X9 0->PH->Rs PV}(hc:lX C k X (.type T) g)(hv:WV x=a_ (.type T))(ha:SA C k X (e::es) ms)(hb:x∈C.bs:=by decide)(hg:Gl X x:=by rfl)(hn:x≠"__name__" := by decide)(b5:(x == ("__debug__" : Str))=false:=by decide)(he:UL (e::es) X.env=(false,S_ 0)::U_ 0:=by rfl)(bh:(Yc<|U_ 0).any (·.1)=false:=by rfl):D_ (.Call (.Name x p) (e::es) [] pos) (mCB g ms):=λc=>(Es (hc c) hg (c.bn x hb) hv (ha c) hn b5 he bh).imp λσ H Q h=>Lv h
abbrev spM(C:MC)(n:Nat)(f:Fn):Sp:=λvs H Q _=>∃φ h ps,FR h/\C_ ps vs/\ps.length=n/\I_ (f ps h) Q
abbrev aN(n:Nat)(f:Fn)(ms:Ma):Me:=λδ h=>(ms δ h).bind λps h1=>if ps.length=n then f ps h1 else .bad
variable{j:Nat}
def s_call{p:Pos}{f:Fn}(D:Def C.K X.mg x st a fd ps)(G:E_ a fd ps (spM C n f))(ha:SA C k X (e::es) ms)(hj:j<=k:=by decide)(hg:Gl X x:=by rfl)(b5:(x == ("__debug__" : Str))=false:=by decide)(he:UL (e::es) X.env=(false,S_ 0)::U_ 0:=by rfl)(bh:(Yc<|U_ 0).any (·.1)=false:=by rfl):
  D_ (.Call (.Name x p) (e::es) [] pos) (aN n f ms):=λc=>by
 let e1:=c.K;let D':Def X.K X.mg x st a fd ps:=by rw[e1];show D
 let G':G_ CX0 j a fd ps (spM C n f):=by rw[e1];show G
 refine(OM D' G' (c.room.mono hj) (ha c) hg b5 he bh).imp λσ H Q h=>?_;let⟨φ,δ,h,rh,re,p⟩:=h;refine⟨φ,δ,h,rh,re,(postA.bind p).imp ?_⟩;rintro vs H1 ⟨φ1,xs,h1,p1,t1,aa,ae,q1⟩;refine⟨φ1,h1,xs,aa,by rw[Ws];show ae,q1.ite.1,q1.ite.2⟩
abbrev jJ:X9 0->PH->Rs PV:=λxs h=>match xs with
 |[.str y]=>if y.length<=UG then .ok (.int y.length) h else .bad
 |[.tup ys]=>.ok (.int ys.length) h
 |[.fl ys]=>.ok (.int ys.length) h
 |[.ref n]=>match aL h n with
  |some ys=>.ok (.int ys.length) h
  |none=>match h[n]? with
   |some (.dK kvs)=>.ok (.int kvs.length) h
   |_=>.bad
 |_=>.bad
def RVs.one{x:PV}(r:C_ [x] vs):∃v,vs=[v]/\j_ x v:=by
 match vs,r with
 |[v],⟨h,_⟩=>exact⟨v,rfl,h⟩
 |[],h=>exact h.elim
 |_::_::_,⟨_,h⟩=>exact h.elim
def RVs.two{x y:PV}(r:C_ [x,y] vs):∃v w,vs=[v,w]/\j_ x v/\j_ y w:=by
 match vs,r with
 |[v,w],⟨h,h',_⟩=>exact⟨v,w,rfl,h,h'⟩
 |[],h=>exact h.elim
 |[_],⟨_,h⟩=>exact h.elim
 |_::_::_::_,⟨_,_,h⟩=>exact h.elim
set_option tactic.hygienic true in
def Pd:lX C k X (.builtin "len") jJ:=λc=>(EE C.K c.K).imp λvs H Q h=>by
 let⟨φ,h,ps,rh,rv,po⟩:=h;unfold jJ at po;split at po
 ·let⟨v,rfl,rx⟩:=rv.one;cases rx
  show⟨po.ite.1,po.ite.2.val rh rfl⟩
 ·let⟨v,rfl,rx⟩:=rv.one;let⟨a,vs,rfl,sa,ra⟩:=rx;show .inl ⟨vs,.inr sa,by rw[<-ra.length];show K_ rfl⟩
 ·let⟨v,rfl,rx⟩:=rv.one;let⟨a,vs,rfl,sa,ra⟩:=rx;show .inl ⟨vs,.inl sa.sq,by rw[<-ra.length];show K_ rfl⟩
 ·rename_i n;let⟨v,rfl,rx⟩:=rv.one;let⟨a,rfl,ha⟩:=rx;split at po
  ·rename_i ys e;let⟨a2,vs,aq,sa,ra⟩:=bO rh e;rw[ha]at aq;cases aq;show .inl ⟨vs,.inl sa,by rw[<-ra.length];show K_ rfl⟩
  ·split at po
   ·rename_i kvs hk;let⟨ks,hH,rk⟩:=Yb hk;refine .inr ⟨ks,hH,?_⟩;have:ks.length=kvs.length:=(Ve rk).symm;rw[this];show K_ rfl
   ·show po.elim
 ·show po.elim
abbrev kA:X9 0->PH->Rs PV:=λxs h=>match xs with
 |[.tup ys]=>.ok (.tup ys) h
 |[.fl ys]=>.ok (.tup ys) h
 |[.ref n]=>match aL h n with
  |some ys=>.ok (.tup ys) h
  |none=>.bad
 |_=>.bad
set_option tactic.hygienic true in
def JV:lX C k X (.type "tuple") kA:=λc=>(Bi C.K c.K).imp λvs H Q h=>by
 let⟨φ,h,ps,rh,rv,po⟩:=h;unfold kA at po;split at po
 ·let⟨v,rfl,rx⟩:=rv.one;let⟨a,vs,rfl,sa,ra⟩:=rx;show⟨a,vs,rfl,.inr ⟨sa,K_ ⟨a,vs,rfl,sa,ra⟩⟩⟩
 ·let⟨v,rfl,rx⟩:=rv.one;let⟨a,vs,rfl,sa,ra⟩:=rx;show⟨a,vs,rfl,.inl ⟨sa.sq,λp hp=>po.tnew rh ra hp⟩⟩
 ·rename_i n;let⟨v,rfl,rx⟩:=rv.one;let⟨a,rfl,ha⟩:=rx;split at po
  ·rename_i ys e;let⟨a2,vs,aq,sa,ra⟩:=bO rh e;rw[ha]at aq;cases aq;show⟨a,vs,rfl,.inl ⟨sa,λp hp=>po.tnew rh ra hp⟩⟩
  ·show po.elim
 ·show po.elim
abbrev yV:X9 0->PH->Rs PV:=λxs h=>match xs with
 |[.tup ys]=>.ok (.ref h.length) (h++[.lst ys])
 |[.fl ys]=>.ok (.ref h.length) (h++[.lst ys])
 |[.ref n]=>match aL h n with
  |some ys=>.ok (.ref h.length) (h++[.lst ys])
  |none=>.bad
 |_=>.bad
set_option tactic.hygienic true in
def MT:lX C k X (.type "list") yV:=λc=>(CB C.K c.K).imp λvs H Q h=>by
 let⟨φ,h,ps,rh,rv,po⟩:=h;unfold yV at po;split at po
 ·let⟨v,rfl,rx⟩:=rv.one;let⟨a,vs,rfl,sa,ra⟩:=rx;show⟨a,vs,rfl,.inr sa,λp hp=>po.lnew rh ra hp⟩
 ·let⟨v,rfl,rx⟩:=rv.one;let⟨a,vs,rfl,sa,ra⟩:=rx;show⟨a,vs,rfl,.inl sa.sq,λp hp=>po.lnew rh ra hp⟩
 ·rename_i n;let⟨v,rfl,rx⟩:=rv.one;let⟨a,rfl,ha⟩:=rx;split at po
  ·rename_i ys e;let⟨a2,vs,aq,sa,ra⟩:=bO rh e;rw[ha]at aq;cases aq;show⟨a,vs,rfl,.inl sa,λp hp=>po.lnew rh ra hp⟩
  ·show po.elim
 ·show po.elim
abbrev Gx:X9 0->PH->Rs PV:=λxs h=>match xs with
 |[.int i,.int j]=>.ok (.int<|if j>i then j else i) h
 |_=>.bad
def Pe:lX C k X (.builtin "max") Gx:=λc=>(EF c.calm).imp λvs H Q h=>by
 let⟨φ,h,ps,rh,rv,po⟩:=h;unfold Gx at po;split at po
 ·let⟨v,w,rfl,rx,ry⟩:=rv.two;cases rx;cases ry;show K_ rfl
 ·show po.elim
variable{C:MC}{k:Nat}{X:Cx}
abbrev Rs.fl{α:Type}(r:Rs α)(f:α->PH->Fl):Fl:=match r with
 |.ok a h=>f a h
 |.exc x h=>.exc x h
 |.bad=>.bad
@[simp]theorem Rs.fl_ok{α:Type}(a:α)(h:PH)(f:α->PH->Fl):(Rs.ok a h).fl f=f a h:=(rfl)
def post.fl{r:Rs PV}{f:PV->PH->Fl}{D:Ends}(h:bY C φ H (r.fl f) D):I_ r λv H1=>∃φ1 p h1,φ<+:φ1/\Kp H H1/\Yl 0/\RV C φ1 H1 p v/\bY C φ1 H1 (f p h1) D:=by
 cases r with
 |ok a h'=>exact λφ' v H' p t rh rv=>⟨φ',a,h',p,t,rh,rv,bY.weak p t h⟩
 |exc a h'=>exact h
 |bad=>exact h
def bN.fl{r:Rs Bool}{f:Bool->PH->Fl}{D:Ends}(h:bY C φ H (r.fl f) D):bN C φ H r λb H1=>∃φ1 h1,φ<+:φ1/\Kp H H1/\Yl 0/\bY C φ1 H1 (f b h1) D:=by
 cases r with
 |ok a h'=>exact λφ' H' p t rh=>⟨φ',h',p,t,rh,bY.weak p t h⟩
 |exc a h'=>exact h
 |bad=>exact h
def bY.nx{D:Ends}(q:bY C φ H (.nx δ h) D)(rh:FR h)(re:Yi 0):D.nx σ H:=q φ σ H Ux (Kp.refl H) rh re
def bY.rt{D:Ends}(q:bY C φ H (.rt p h) D)(rh:FR h)(rv:j_ p v):D.rt v H:=q φ v H Ux (Kp.refl H) rh rv
@[reducible]def Mg:=PV->Ev->y_ Ev
@[reducible]def Mgs:=X9 0->Ev->y_ Ev
abbrev rdG(C:MC)(t:Mg):TG:=λv σ H Q=>∃φ δ h p δ',FR h/\Yi 0/\j_ p v/\t p δ=a_ δ'/\∀σ',RE C φ H δ' σ'->Q σ' H
abbrev Rg(C:MC)(t:Mgs):TGs:=λvs σ H Q=>∃φ δ h ps δ',FR h/\Yi 0/\C_ ps vs/\t ps δ=a_ δ'/\∀σ',RE C φ H δ' σ'->Q σ' H
abbrev SG(C:MC)(k:Nat)(X:Cx)(e:v_)(t:Mg):Prop:=X7 X->PG X e (rdG C t)
abbrev SGs(C:MC)(k:Nat)(X:Cx)(es:x_ v_)(t:Mgs):Prop:=X7 X->PGs X es (Rg C t)
abbrev gN(i:Nat):Mg:=λp δ=>a_<|δ.set i<|a_ p
abbrev gNl:Mgs:=λps δ=>match ps with
 |[]=>a_ δ
 |_::_=>b_
abbrev gCn(t:Mg)(u:Mgs):Mgs:=λps δ=>match ps with
 |p::r=>(t p δ).bind (u r)
 |[]=>b_
abbrev gTp(n:Nat)(u:Mgs):Mg:=λp δ=>match p with
 |.tup ps=>if ps.length=n then u ps δ else b_
 |_=>b_
def PG.imp{t t':TG}(h:PG X e t)(i:∀v σ H Q,t' v σ H Q->t v σ H Q):PG X e t':=λtd s σ H v u Q I r q=>Ym v u Q I r<|i v σ H Q q
def PGs.imp{t t':TGs}(h:PGs X es t)(i:∀v σ H Q,t' v σ H Q->t v σ H Q):PGs X es t':=λtd s σ H v u Q I r q=>Ym v u Q I r<|i v σ H Q q
def MU(hN:X.N.Nodup)(hi:X.N[i]?=a_ x:=by rfl)(hx:Loc X.env.scope x:=by first|exact Or.inl rfl|exact Or.inr rfl)(hf:X.fn x=true\/T_ 0=a_ .local:=by first|exact .inl rfl|exact .inr rfl):SG C k X (.Name x pos) (gN i):=λc=>
 (Jn hN hi hx hf).imp λv σ H Q h=>by
  let⟨φ,δ,h,p,δ',rh,re,rv,e,q⟩:=h;cases e
  show q _<|re.set rv i
def Pf:SGs C k X [] gNl:=λc=>Jo.imp λv σ H Q h=>by
 let⟨φ,δ,h,ps,δ',rh,re,rv,e,q⟩:=h;cases ps with
 |nil=>
  cases e
  cases v with
  |nil=>exact⟨rfl,q σ re⟩
  |cons=>exact rv.elim
 |cons=>cases e
def MV{t:Mg}{u:Mgs}(h1:SG C k X e t)(h2:SGs C k X es u)(hs:(WR (e::es) X.env).map (·.2)=assign e X.env::(WR es X.env).map (·.2):=by rfl):SGs C k X (e::es) (gCn t u):=λc=>
 (FH (h1 c) (h2 c) hs).imp λvs σ H Q h=>by
  let⟨φ,δ,h,ps,δ',rh,re,rv,e,q⟩:=h;cases ps with
  |nil=>cases e
  |cons p r=>
   cases vs with
   |nil=>exact rv.elim
   |cons v vs=>
    let⟨δ1,e1,e2⟩:=Option.bind_eq_some_iff.mp (show(t p δ).bind (u r)=a_ δ' from e)
    show⟨v,vs,rfl,φ,δ,h,p,δ1,rh,re,rv.1,e1,λσ' uo=>⟨φ,δ1,h,r,δ',rh,uo,rv.2,e2,q⟩⟩
def Pg{u:Mgs}(h:SGs C k X es u)(hn:(WR es X.env).length=n:=by rfl)(dg:(WR es X.env).findIdx? (·.1)=b_:=by rfl):SG C k X (.Tuple es j pos) (gTp n u):=λc=>
 (gT C.K c.K c.calm (h c) hn dg).imp λv σ H Q h=>by
  let⟨φ,δ,h,p,δ',rh,re,rv,e,q⟩:=h;cases p with
  |tup ps=>
   let⟨a,vs,rfl,sa,ra⟩:=rv;by_cases hl:ps.length=n
   ·let e':u ps δ=a_ δ':=by have:(if ps.length=n then u ps δ else b_)=a_ δ':=e;rw[if_pos hl]at this;show this
    show⟨a,vs,rfl,sa,by rw[<-ra.length];show hl,φ,δ,h,ps,δ',rh,re,ra,e',q⟩
   ·have:(if ps.length=n then u ps δ else b_)=a_ δ':=e;rw[if_neg hl]at this;cases this
  |_=>cases e
def PS.imp{t t':TS}(h:PS X st t)(i:∀D σ H,t' D σ H->t D σ H):PS X st t':=λtd s σ H D I q=>Ym D I<|i D σ H q
def PSs.imp{st:x_ w_}{t t':TS}(h:PSs X st t)(i:∀D σ H,t' D σ H->t D σ H):PSs X st t':=λtd s σ H D I q=>Ym D I<|i D σ H q
abbrev aE(a b:Ms):Ms:=λδ h=>match a δ h with
 |.nx δ1 h1=>b δ1 h1
 |r=>r
abbrev cH:Ms:=λδ h=>.nx δ h
abbrev Gy:Ms:=λδ h=>.ct δ h
abbrev aQ(i:Nat)(m:Me):Ms:=λδ h=>(m δ h).fl λp h1=>.nx (δ.set i<|a_ p) h1
abbrev hW(m:Me)(t:Mg):Ms:=λδ h=>(m δ h).fl λp h1=>match t p δ with
 |some δ'=>.nx δ' h1
 |none=>.bad
abbrev iA(m:Me):Ms:=λδ h=>(m δ h).fl λ_ h1=>.nx δ h1
abbrev bF(m:Me):Ms:=λδ h=>(m δ h).fl λp h1=>.rt p h1
abbrev bA(t:Ev->PH->Rs Bool)(a b:Ms):Ms:=λδ h=>(t δ h).fl λc h1=>match c with
 |true=>a δ h1
 |false=>b δ h1
def MW:SSs C k X [] cH:=λc=>Jk.imp λD σ H h=>by let⟨φ,δ,h,rh,re,p⟩:=h;show p.nx rh re
def MX{r:Fl}{b:Ms}{D:Ends}(h:bY C φ H (match r with|.nx δ1 h1=>b δ1 h1|r=>r) D):bY C φ H r { D with nx:=rdS C b D}:=by
 cases r with
 |nx δ h'=>exact λφ' σ H' p t rh re=>⟨φ',δ,h',rh,re,bY.weak p t h⟩
 |rt p h'=>exact h
 |bk δ h'=>exact h
 |ct δ h'=>exact h
 |exc x h'=>exact h
 |bad=>exact h
def JW{rest:x_ w_}{a:Ms}{b:Ms}(h1:SSt C k X st a)(h2:SSs C k X rest b):SSs C k X (st::rest) (aE a b):=λc=>(FF (h1 c)<|h2 c).imp λD σ H h=>by let⟨φ,δ,h,rh,re,p⟩:=h;show⟨φ,δ,h,rh,re,MX p⟩
def MY{a:Ms}(h1:SSt C k X st a):SSs C k X [st] a:=λc=>Jl<|h1 c
def Ph:SSt C k X (.Continue pos) Gy:=λc=>B3.imp λD σ H h=>by let⟨φ,δ,h,rh,re,p⟩:=h;show p φ σ H Ux (Kp.refl H) rh re
def Pi(hN:X.N.Nodup)(he:D_ e m)(hi:X.N[i]?=a_ x:=by rfl)(hx:Loc X.env.scope x:=by first|exact Or.inl rfl|exact Or.inr rfl)(hs:XX e (a_<|.Name x pos') pos.line X.env=pure false:=by rfl)(hf:X.fn x=true\/T_ 0=a_ .local:=by first|exact .inl rfl|exact .inr rfl):SSt C k X (.Assign [.Name x pos'] e pos) (aQ i m):=λc=>(LW hN hi hx (he c) hs hf).imp λD σ H h=>by let⟨φ,δ,h,rh,re,p⟩:=h;refine⟨φ,δ,h,rh,re,(post.fl p).imp ?_⟩;rintro v H1 ⟨φ1,x,h1,p1,t1,aa,ae,q1⟩;show q1.nx aa<|(O_ 0).set ae i
def Pj{t:Mg}(he:D_ e m)(hg:SG C k X tg t)(hs:swapsWithSole [tg] e pos.line X.env=pure false:=by rfl)(hw:swappedStores [tg] e X.env=pure b_:=by rfl)(h1:(WR [tg] X.env).map (·.2)=[assign tg X.env]:=by rfl):SSt C k X (.Assign [tg] e pos) (hW m t):=λc=>(LV (he c) (hg c) hs hw h1).imp λD σ H h=>by
 let⟨φ,δ,h,rh,re,p⟩:=h;refine⟨φ,δ,h,rh,re,(post.fl p).imp ?_⟩;rintro v H1 ⟨φ1,x,h1,p1,t1,aa,ae,q1⟩;cases et:t x δ with
 |none=>rw[et]at q1;show q1.elim
 |some δ'=>rw[et]at q1;show⟨φ1,δ,h1,x,δ',aa,O_ 0,ae,et,λσ' uo=>q1.nx aa uo⟩
def Pk(he:D_ e m)(hs:XX e b_ pos.line X.env=pure false:=by rfl):SSt C k X (.Expr e pos) (iA m):=λc=>(Jm (he c) hs).imp λD σ H h=>by let⟨φ,δ,h,rh,re,p⟩:=h;refine⟨φ,δ,h,rh,re,(post.fl p).imp ?_⟩;rintro v H1 ⟨φ1,x,h1,p1,t1,aa,ae,q1⟩;show q1.nx aa<|O_ 0
def Pm(he:D_ e m):SSt C k X (.Return (a_ e) pos) (bF m):=λc=>(LR<|he c).imp λD σ H h=>by let⟨φ,δ,h,rh,re,p⟩:=h;refine⟨φ,δ,h,rh,re,(post.fl p).imp ?_⟩;rintro v H1 ⟨φ1,x,h1,p1,t1,aa,ae,q1⟩;show q1.rt aa ae
variable{zi:v_}
def Rh{a:Ms}{b:Ms}{as bs:x_ w_}{t:Ev->PH->Rs Bool}(hc:ST C k X zi t)(ha:SSs C k X as a)(hb:SSs C k X bs b):SSt C k X (.If zi as bs pos) (bA t a b):=λc=>(Og (hc c) (ha c)<|hb c).imp λD σ H h=>by
 let⟨φ,δ,h,rh,re,p⟩:=h;refine⟨φ,δ,h,rh,re,(bN.fl p).imp ?_⟩;rintro d H1 ⟨φ1,h1,p1,t1,aa,q1⟩;cases d with
 |true=>exact Ey ⟨φ1,δ,h1,aa,O_ 0,q1⟩
 |false=>exact Ex ⟨φ1,δ,h1,aa,O_ 0,q1⟩
structure Wk where
 xs:x_ PV
 g:PH->Bool
abbrev EU(C:MC)(J:It)(w:Wk)(φ0:x_ s_)(H0:Hp):Prop:=∀φ H h,φ0<+:φ->Kp H0 H->FR h->w.g h=true->∀i:Nat,
 (i<w.xs.length->J.go i H/\∀x H',J.yld i H x H'->(∃p,w.xs[i]?=a_ p/\RV C φ H' p x)/\Kp H H'/\RH C φ H' h)/\(w.xs.length<=i->J.stop i H)
@[reducible]def Mi:=Ev->PH->Rs Wk
abbrev dN(C:MC)(φ:x_ s_)(H:Hp)(r:Rs Wk)(R:It->Hp->Prop):Prop:=match r with
 |.ok w h=>∀φ' H' J,φ<+:φ'->Kp H H'->Yn h->EU C J w φ' H'->R J H'
 |.exc x h=>∀φ' H',φ<+:φ'->Kp H H'->Yn h->C.ex φ' H' x
 |.bad=>False
abbrev rdI(C:MC)(m:Mi):TI:=λσ H R=>∃φ δ h,FR h/\Yi 0/\dN C φ H (m δ h) R
abbrev SI(C:MC)(k:Nat)(X:Cx)(tg iter:v_)(m:Mi):Prop:=X7 X->PI X tg iter (rdI C m)
abbrev vR(n:Nat)(xs:X9 0)(h':PH):Bool:=match aL h' n with
 |some ys=>PV.beqs ys xs
 |none=>false
abbrev ofSeq(x:PV)(h:PH):Rs Wk:=match x with
 |.tup xs=>.ok ⟨xs,λ_=>true⟩ h
 |.ref n=>match aL h n with
  |some xs=>.ok ⟨xs,vR n xs⟩ h
  |none=>.bad
 |.fl xs=>.ok ⟨xs,λ_=>true⟩ h
 |_=>.bad
abbrev aR(m:Me):Mi:=λδ h=>(m δ h).bind ofSeq
def Pn(h:D_ iter m):SI C k X tg iter (aR m):=λc=>by
 intro td s σ H R I q;let⟨φ,δ,hh,rh,re,p⟩:=q;let key:rd C m σ H λv H1=>∃φ1 x h1,φ<+:φ1/\Kp H H1/\Yl 0/\RV C φ1 H1 x v/\dN C φ1 H1 (ofSeq x h1) R:=by
  refine⟨φ,δ,hh,rh,re,?_⟩;unfold aR at p;cases e:m δ hh with
  |ok x h1=>
   rw[e]at p;intro φ' v H' p' t' bf bg;refine⟨φ',x,h1,p',t',bf,bg,?_⟩
   change dN C φ' H' (ofSeq x h1) R
   let p0:dN C φ H (ofSeq x h1) R:=p;cases e2:ofSeq x h1 with
   |ok w h2=>rw[e2]at p0;show λφ2 H2 J p2 t2=>p0 φ2 H2 J (p'.trans p2) (t'.trans t2)
   |exc z h2=>rw[e2]at p0;show λφ2 H2 p2 t2=>p0 φ2 H2 (p'.trans p2) (t'.trans t2)
   |bad=>rw[e2]at p0;show p0
  |exc x h1=>rw[e]at p;show p
  |bad=>rw[e]at p;show p
 refine thn (h c td s σ H _ I key) λv s1 z9=>?_;let⟨x,H1,I1,r1,φ1,x',h1,p1,t1,aa,ae,q1⟩:=z9;unfold ofSeq at q1;cases x' with
 |tup xs=>
  let⟨a,vs,rfl,sa,ra⟩:=ae;cases r1
  rw[<-c.K]at sa;let⟨its,rv,p,hz⟩:=I1.tuple sa;refine wpAny_pyIter_tuple (show s1.heap.IsTuple a its.toArray from p) ?_
  refine⟨(e_ s1),[(e_ s1)],_,_,H1,rfl,I1.kept (t':=s1.toks) λb o e=>SZ _ e,Ci a _,⟨_,Yo 0,rfl,rfl⟩,λb hb=>?_,?_⟩
  ·let e:b=(e_ s1):=by simpa using hb
   subst e;show I1.fpOk (Uv _)<|I1.hok.fresh<|Uv _
  ·refine q1 φ1 H1 (Itt X.K a) Ux (Kp.refl H1) aa λφ2 H2 h2 p2 t2 ah _ i=>⟨λhi=>?_,λhi=>⟨vs,t2.sq sa,by rw[<-ra.length];show hi⟩⟩;let bc:i<vs.length:=by rw[<-ra.length];show hi
   refine⟨⟨vs,vs[i],t2.sq sa,by simp[bc]⟩,λx H' y=>?_⟩;let⟨e,y⟩:=y;subst e;let⟨x2,e2,r2⟩:=ra.get<|y vs<|t2.sq sa;show⟨⟨x2,e2,r2.mono p2 t2⟩,Kp.refl _,ah⟩
 |ref n=>
  let⟨a,rfl,ha⟩:=ae;cases r1
  dsimp only at q1;cases e:aL h1 n with
  |none=>rw[e]at q1;show q1.elim
  |some xs=>
   rw[e]at q1;let⟨a2,vs,aq,sa,ra⟩:=bO aa e;rw[ha]at aq;cases aq;let qp:SqL X.K H1 a vs:=by rw[c.K];show sa
   let⟨its,rv,p,hz⟩:=I1.list qp;refine wpAny_pyIter_list p.isList ?_;refine⟨(e_ s1),[(e_ s1)],_,_,H1,rfl,I1.kept (t':=s1.toks) λb o e=>SZ _ e,yB a _,⟨_,Yo 0,rfl,rfl⟩,λb hb=>?_,?_⟩
   ·let e:b=(e_ s1):=by simpa using hb
    subst e;show I1.fpOk (Uv _)<|I1.hok.fresh<|Uv _
   ·refine q1 φ1 H1 (Itl X.K a) Ux (Kp.refl H1) aa λφ2 H2 h2 p2 t2 ah hg i=>?_;let hg:(match aL h2 n with|some ys=>PV.beqs ys xs|none=>false)=true:=hg
    cases e2:aL h2 n with
    |none=>rw[e2]at hg;cases hg
    |some ys=>
     rw[e2]at hg;let xf:=PV.beqs_eq hg;subst xf;let⟨a3,us,qc,su,ru⟩:=bO ah e2;rw[fO p2 ha]at qc;cases qc;rw[<-c.K]at su;refine⟨λhi=>?_,λhi=>⟨us,su,by rw[<-ru.length];show hi⟩⟩;let bc:i<us.length:=by rw[<-ru.length];show hi
     refine⟨⟨us,us[i],su,by simp[bc]⟩,λx H' y=>?_⟩;let⟨e,y⟩:=y;subst e;let⟨x2,e2,r2⟩:=ru.get<|y us su;show⟨⟨x2,e2,r2⟩,Kp.refl _,ah⟩
 |fl xs=>
  let⟨a,vs,rfl,sa,ra⟩:=ae;cases r1
  rw[<-c.K]at sa;let⟨its,rv,p,hz⟩:=I1.list sa.sq;refine wpAny_pyIter_list p.isList ?_;refine⟨(e_ s1),[(e_ s1)],_,_,H1,rfl,I1.kept (t':=s1.toks) λb o e=>SZ _ e,yB a _,⟨_,Yo 0,rfl,rfl⟩,λb hb=>?_,?_⟩
  ·let e:b=(e_ s1):=by simpa using hb
   subst e;show I1.fpOk (Uv _)<|I1.hok.fresh<|Uv _
  ·refine q1 φ1 H1 (Itl X.K a) Ux (Kp.refl H1) aa λφ2 H2 h2 p2 t2 ah _ i=>⟨λhi=>?_,λhi=>⟨vs,(t2.sf sa).sq,by rw[<-ra.length];show hi⟩⟩;let bc:i<vs.length:=by rw[<-ra.length];show hi
   refine⟨⟨vs,vs[i],(t2.sf sa).sq,by simp[bc]⟩,λx H' y=>?_⟩;let⟨e,y⟩:=y;subst e;let⟨x2,e2,r2⟩:=ra.get<|y vs (t2.sf sa).sq;show⟨⟨x2,e2,r2.mono p2 t2⟩,Kp.refl _,ah⟩
 |_=>exact q1.elim
abbrev upTo(lo:Int):Nat->X9 0
 |0=>[]
 |n+1=>.int lo::upTo (lo+1) n
def cU:∀(n:Nat)(lo:Int),(upTo lo n).length=n
 |0,_=>rfl
 |n+1,lo=>by simp[upTo,cU n]
def pV:∀(n:Nat)(lo:Int)(i:Nat),i<n->(upTo lo n)[i]?=d_ (lo+i)
 |0,_,_,h=>by omega
 |n+1,lo,0,_=>by simp[upTo]
 |n+1,lo,i+1,h=>by
  simp only[upTo,VN];rw[pV n (lo+1) i ⋯];congr 2;omega
open Classical in
abbrev Gz:X9 0->PH->Rs Wk:=λxs h=>match xs with
 |[.int j]=>if -(2 ^ 62)<=j/\j<2 ^ 62 then .ok ⟨upTo 0 j.toNat,λ_=>true⟩ h else .bad
 |_=>.bad
open Classical in
abbrev GA:X9 0->PH->Rs Wk:=λxs h=>match xs with
 |[.int i,.int j]=>if -(2 ^ 62)<=i/\i<2 ^ 62/\-(2 ^ 62)<=j/\j<2 ^ 62 then .ok ⟨upTo i (j-i).toNat,λ_=>true⟩ h else .bad
 |_=>.bad
abbrev pW(ms:Ma):Mi:=λδ h=>(ms δ h).bind Gz
abbrev yW(ms:Ma):Mi:=λδ h=>(ms δ h).bind GA
def GB(lo:Int)(n:Nat)(φ:x_ s_)(H:Hp):EU C (Itr lo n) ⟨upTo lo n,λ_=>true⟩ φ H:=λφ2 H2 h2 p2 t2 ah _ i=>by
 refine⟨λhi=>?_,λhi=>?_⟩
 ·let bc:i<n:=by rw[<-cU n lo];show hi
  refine⟨bc,λx H' y=>?_⟩;let⟨e,y⟩:=y;subst e y;show⟨⟨.int<|lo+i,pV n lo i bc,rfl⟩,Kp.refl _,ah⟩
 ·have:(upTo lo n).length<=i:=hi;rw[cU]at this;show this
def postA.bindI{r:Rs (X9 0)}{f:X9 0->PH->Rs Wk}{R:It->Hp->Prop}(h:dN C φ H (r.bind f) R):postA C φ H r λvs H1=>∃φ1 ps h1,φ<+:φ1/\Kp H H1/\Yl 0/\RVs C φ1 H1 ps vs/\dN C φ1 H1 (f ps h1) R:=by
 cases r with
 |ok a h'=>
  intro φ' v H' p' t' rh rv;refine⟨φ',a,h',p',t',rh,rv,?_⟩;let p0:dN C φ H (f a h') R:=h;cases e2:f a h' with
  |ok w h2=>rw[e2]at p0;show λφ2 H2 J p2 t2=>p0 φ2 H2 J (p'.trans p2) (t'.trans t2)
  |exc z h2=>rw[e2]at p0;show λφ2 H2 p2 t2=>p0 φ2 H2 (p'.trans p2) (t'.trans t2)
  |bad=>rw[e2]at p0;show p0
 |exc a h'=>exact h
 |bad=>exact h
def PI.imp{t t':TI}(h:PI X tg iter t)(i:∀σ H R,t' σ H R->t σ H R):PI X tg iter t':=λtd s σ H R I q=>Ym R I<|i σ H R q
def MZ{x:v_}{p:Pos}(ha:SA C k X [x] ms)(hb:("range" : Str)∈C.bs:=by decide)(hg:Gl X "range" := by rfl)(hs:UL [x] X.env=[(false,eval x X.env)]:=by rfl):SI C k X tg (.Call (.Name "range" p) [x] [] pos) (pW ms):=λc=>
 (pr1 hg (c.bn _ hb) (ha c) hs).imp λσ H R h=>by
  let⟨φ,δ,h,rh,re,p⟩:=h;refine⟨φ,δ,h,rh,re,(postA.bindI p).imp ?_⟩;rintro vs H1 ⟨φ1,xs,h1,p1,t1,aa,ae,q1⟩;unfold Gz at q1;split at q1
  ·let⟨v,rfl,rx⟩:=ae.one;cases rx
   rename_i j;by_cases hj:-(2 ^ 62)<=j/\j<2 ^ 62
   ·rw[if_pos hj]at q1;show⟨hj,q1 φ1 H1 _ Ux (Kp.refl _) aa<|GB 0 j.toNat φ1 H1⟩
   ·rw[if_neg hj]at q1;show q1.elim
  ·show q1.elim
set_option tactic.hygienic true in
def N0{x y:v_}{p:Pos}(ha:SA C k X [x,y] ms)(hb:("range" : Str)∈C.bs:=by decide)(hg:Gl X "range" := by rfl)(hs:UL [x,y] X.env=[(false,eval x X.env),(false,eval y X.env)]:=by rfl)(g8:UL [y] X.env=[(false,eval y X.env)]:=by rfl):
  SI C k X tg (.Call (.Name "range" p) [x,y] [] pos) (yW ms):=λc=>
 (pr2 hg (c.bn _ hb) (ha c) hs g8).imp λσ H R h=>by
  let⟨φ,δ,h,rh,re,p⟩:=h;refine⟨φ,δ,h,rh,re,(postA.bindI p).imp ?_⟩;rintro vs H1 ⟨φ1,xs,h1,p1,t1,aa,ae,q1⟩;unfold GA at q1;split at q1
  ·let⟨v,w,rfl,rx,ry⟩:=ae.two;cases rx;cases ry;rename_i i j;by_cases hj:-(2 ^ 62)<=i/\i<2 ^ 62/\-(2 ^ 62)<=j/\j<2 ^ 62
   ·rw[if_pos hj]at q1;show⟨hj,q1 φ1 H1 _ Ux (Kp.refl _) aa<|GB i (j-i).toNat φ1 H1⟩
   ·rw[if_neg hj]at q1;show q1.elim
  ·show q1.elim
abbrev eY(g:PH->Bool)(tg:Mg)(body:Ms):X9 0->Ev->PH->Fl
 |[],δ,h=>if g h=true then .nx δ h else .bad
 |x::xs,δ,h=>if g h=true then(match tg x δ with
  |none=>.bad
  |some δ1=>match body δ1 h with
   |.nx δ2 h2=>eY g tg body xs δ2 h2
   |.ct δ2 h2=>eY g tg body xs δ2 h2
   |.bk δ2 h2=>.nx δ2 h2
   |r=>r) else .bad
abbrev bR(mi:Mi)(tg:Mg)(body:Ms):Ms:=λδ h=>(mi δ h).fl λw h1=>eY w.g tg body w.xs δ h1
def dN.fl{r:Rs Wk}{f:Wk->PH->Fl}{D:Ends}(h:bY C φ H (r.fl f) D):dN C φ H r λJ H1=>∃φ1 w h1,φ<+:φ1/\Kp H H1/\Yl 0/\EU C J w φ1 H1/\bY C φ1 H1 (f w h1) D:=by
 cases r with
 |ok a h'=>exact λφ' H' J p t rh wk=>⟨φ',a,h',p,t,rh,wk,bY.weak p t h⟩
 |exc a h'=>exact h
 |bad=>exact h
def dN.imp{r:Rs Wk}{Q Q':It->Hp->Prop}(h:dN C φ H r Q)(i:∀v H',Q v H'->Q' v H'):dN C φ H r Q':=by
 cases r with
 |ok a h'=>exact λφ' H' J p t rh wk=>i J H' (h φ' H' J p t rh wk)
 |exc a h'=>exact h
 |bad=>exact h
def drop_cons{α:Type}{xs:x_ α}{p:α}(h:xs[i]?=a_ p):xs.drop i=p::xs.drop (i+1):=by let⟨h1,h2⟩:=SC.mp h;rw[List.drop_eq_getElem_cons h1,h2]
variable{H0:Hp}{J:It}{body:Ms}{φ0:x_ s_}
def JX{w:Wk}{tg:Mg}{D:Ends}(wk:EU C J w φ0 H0)(rh:RH C φ0 H0 h)(re:RE C φ0 H0 δ σ)(p:bY C φ0 H0 (eY w.g tg body w.xs δ h) D):
  ∃W:Nat->Nat->St->Hp->Prop,(∃m,W 0 m σ H0)/\∀i m σ H,W i m σ H->
   (J.stop i H/\D.nx σ H)\/(J.go i H/\∃N:St->Hp->Prop,(∀σ' H',N σ' H'->∃m',m'<m/\W (i+1) m' σ' H')/\∀x H',J.yld i H x H'->rdG C tg x σ H' λσ2 H2=>rdS C body { D with nx:=N,ct:=N,bk:=D.nx} σ2 H2):=by
 refine⟨λi m σ H=>m=w.xs.length-i/\i<=w.xs.length/\∃φ δ h,φ0<+:φ/\Kp H0 H/\FR h/\Yi 0/\bY C φ H (eY w.g tg body (w.xs.drop i) δ h) D,
  ⟨w.xs.length,by simp,U5 _,φ0,δ,h,Ux,Kp.refl _,rh,re,by rw[List.drop_zero];show p⟩,?_⟩
 rintro i m σ H ⟨rfl,hi,φ,δ,h,pp,tt,rh,re,p⟩;by_cases ao:i<w.xs.length
 ·let hd:w.xs.drop i=w.xs[i]::w.xs.drop (i+1):=drop_cons (by simp[ao]);rw[hd]at p;unfold eY at p;by_cases hg:w.g h=true
  ·rw[if_pos hg]at p;let⟨go,step⟩:=(wk φ H h pp tt rh hg i).1 ao;refine .inr ⟨go,λσ' H'=>∃φ δ h,φ0<+:φ/\Kp H0 H'/\RH C φ H' h/\RE C φ H' δ σ'/\bY C φ H' (eY w.g tg body (w.xs.drop<|i+1) δ h) D,λσ' H' ⟨φ',δ',h',q⟩=>⟨w.xs.length-(i+1),⋯,rfl,ao,φ',δ',h',q⟩,λx H' y=>?_⟩;let⟨⟨q,eq,rv⟩,t1,aa⟩:=step x H' y;let xc:w.xs[i]=q:=by
    have:w.xs[i]?=a_ w.xs[i]:=by simp[ao]
    rw[this]at eq;show UW eq
   rw[xc]at p;cases et:tg q δ with
   |none=>rw[et]at p;show p.elim
   |some δ1=>
    rw[et]at p;dsimp only at p;refine⟨φ,δ,h,q,δ1,aa,re.mono Ux t1,rv,et,λσ2 uj=>⟨φ,δ1,h,aa,uj,?_⟩⟩;let p:=bY.weak Ux t1 p;cases eb:body δ1 h with
    |nx δ2 h2=>rw[eb]at p;show λφ3 σ3 H3 p3 t3 c8 u7=>⟨φ3,δ2,h2,pp.trans p3,(tt.trans t1).trans t3,c8,u7,bY.weak p3 t3 p⟩
    |ct δ2 h2=>rw[eb]at p;show λφ3 σ3 H3 p3 t3 c8 u7=>⟨φ3,δ2,h2,pp.trans p3,(tt.trans t1).trans t3,c8,u7,bY.weak p3 t3 p⟩
    |bk δ2 h2=>rw[eb]at p;show p
    |rt z h2=>rw[eb]at p;show p
    |exc z h2=>rw[eb]at p;show p
    |bad=>rw[eb]at p;show p
  ·rw[if_neg hg]at p;show p.elim
 ·let e:i=w.xs.length:=⋯;subst e;rw[List.drop_length]at p;unfold eY at p;by_cases hg:w.g h=true
  ·rw[if_pos hg]at p;show .inl ⟨(wk φ H h pp tt rh hg _).2<|Uv _,p.nx rh re⟩
  ·rw[if_neg hg]at p;show p.elim
variable{mi:Mi}
def Po{body:x_ w_}{t:Mg}{mb:Ms}(hi:SI C k X tg iter mi)(hg:SG C k X tg t)(hb:SSs C k X body mb)(hp:PassesOwn (g_ X) X.A X.env X.xe:=by show PassesOwn.never)(hs:∀x,V2 iter X.env x=pure x:=by intro _;rfl):SSt C k X (.For tg iter body [] pos) (bR mi t mb):=λc=>(LX hp c.calm (hi c) (hg c) (hb c) hs).imp λD σ H h=>by let⟨φ,δ,h,rh,re,p⟩:=h;refine⟨φ,δ,h,rh,re,(dN.fl p).imp ?_⟩;rintro J H1 ⟨φ1,w,h1,p1,t1,aa,wk,q1⟩;show JX wk aa (O_ 0) q1
variable{C:MC}{k:Nat}{X:Cx}
abbrev gP(js:x_ (y_ Nat))(δ:Ev):Ev:=js.map λo=>match o with
 |none=>b_
 |some j=>uB δ j
def DF:∀{σ:St}{i:Nat}{v:V},σ[i]?=a_ (a_ v)->Cz σ i=a_ v
 |[],_,_,h=>by simp at h
 |x::_,0,v,h=>by
  have:x=a_ v:=by simpa using h
  show this
 |_::r,n+1,v,h=>DF (σ:=r) (i:=n) (ke h)
def RE.cap(re:Yi 0)(js:x_ (y_ Nat)):RE C φ H (gP js δ) (jX js σ):=by
 refine⟨by simp[gP,jX],λi p e=>?_⟩;unfold gP at e;unfold jX;rw[UD]at e⊢;cases q:js[i]? with
 |none=>rw[q]at e;cases e
 |some o=>
  rw[q]at e;cases o with
  |none=>cases e
  |some j=>let⟨v,hv,rv⟩:=re.2 j p<|vK<|UW e;show⟨v,by change a_ (Cz σ j)=_;rw[DF hv],rv⟩
abbrev lI(g:PH->Bool)(tg:Mg)(tst:Ev->PH->Rs Bool)(elt:Me)(δ0:Ev)(n:Nat):X9 0->PH->Rs PV
 |[],h=>if g h=true then .ok (.ref n) h else .bad
 |x::xs,h=>if g h=true then(match tg x δ0 with
  |none=>.bad
  |some δ1=>(tst δ1 h).bind λb h1=>match b with
   |false=>lI g tg tst elt δ0 n xs h1
   |true=>(elt δ1 h1).bind λp h2=>match dM h2 n with
    |some ys=>if ys.length<UG then lI g tg tst elt δ0 n xs (h2.set n<|.lst<|ys++[p]) else .bad
    |none=>.bad) else .bad
abbrev bZ(js:x_ (y_ Nat))(mi:Mi)(tg:Mg)(tst:Ev->PH->Rs Bool)(elt:Me):Me:=λδ h=>(mi δ h).bind λw h1=>lI w.g tg tst elt (gP js δ) h1.length w.xs<|h1++[.lst []]
abbrev lQ:Ev->PH->Rs Bool:=λ_ h=>.ok true h
abbrev STs(C:MC)(k:Nat)(X:Cx)(es:x_ v_)(m:Ev->PH->Rs Bool):Prop:=X7 X->PTs X es (rdB C m)
def N1:STs C k X [] lQ:=λc td s σ H Q I h=>by let⟨φ,δ,h,rh,re,p⟩:=h;show JE td s σ H Q I<|p.val rh
def N2{m:Ev->PH->Rs Bool}(h:ST C k X e m):STs C k X [e] m:=λc=>JF<|h c
def dN.bind{r:Rs Wk}{f:Wk->PH->Rs PV}{Q:VK}(h:I_ (r.bind f) Q):dN C φ H r λJ H1=>∃φ1 w h1,φ<+:φ1/\Kp H H1/\Yl 0/\EU C J w φ1 H1/\post C φ1 H1 (f w h1) Q:=by
 cases r with
 |ok a h'=>exact λφ' H' J p t rh wk=>⟨φ',a,h',p,t,rh,wk,post.weak p t h⟩
 |exc a h'=>exact h
 |bad=>exact h
variable{elt:Me}{tst:Ev->PH->Rs Bool}
def GC{w:Wk}{tg:Mg}{Q:VK}(wk:EU C J w φ0 H0)(rh:RH C φ0 H0 h)(re:RE C φ0 H0 δ σ)(p:post C φ0 H0 (lI w.g tg tst elt (gP js δ) h.length w.xs<|h++[.lst []]) Q)(acc:s_)(ak:H0 acc=b_):
  ∃W:Nat->Nat->Hp->Prop,(∃m,W 0 m<|upd H0 acc<|.lst [])/\∀i m H2,W i m H2->
   (J.stop i H2/\Q (.ref acc) H2)\/(J.go i H2/\∃N:Hp->Prop,(∀H',N H'->∃m',m'<m/\W (i+1) m' H')/\∀x H3,J.yld i H2 x H3->Lr js (rdG C tg) (rdB C tst) (rd C elt) σ acc x H3 N):=by
 let hlen:(φ0++[acc])[h.length]?=a_ acc:=by rw[<-rh.len];simp
 refine⟨λi m H=>m=w.xs.length-i/\i<=w.xs.length/\∃φ h',(φ0++[acc])<+:φ/\Kp H0 H/\FR h'/\I_ (lI w.g tg tst elt (gP js δ) h.length (w.xs.drop i) h') Q,
  ⟨w.xs.length,by simp,U5 _,φ0++[acc],h++[.lst []],Ux,Kp.new ak,rh.new (o:=.lst []) ak ⟨[],aI,trivial⟩,by rw[List.drop_zero];show post.weak (Vo _ _) (Kp.new ak) p⟩,?_⟩
 rintro i m H ⟨rfl,hi,φ,h',pp,tt,bf,p⟩;let yn:φ0<+:φ:=(Vo _ _).trans pp;by_cases ao:i<w.xs.length
 ·let hd:w.xs.drop i=w.xs[i]::w.xs.drop (i+1):=drop_cons (by simp[ao]);rw[hd]at p;unfold lI at p;by_cases hg:w.g h'=true
  ·rw[if_pos hg]at p;let⟨go,step⟩:=(wk φ H h' yn tt bf hg i).1 ao;refine .inr ⟨go,λH'=>∃φ h',(φ0++[acc])<+:φ/\Kp H0 H'/\RH C φ H' h'/\post C φ H' (lI w.g tg tst elt (gP js δ) h.length (w.xs.drop<|i+1) h') Q,λH' ⟨φ',h',q⟩=>⟨w.xs.length-(i+1),⋯,rfl,ao,φ',h',q⟩,λx H' y=>?_⟩;let⟨⟨q,eq,rv⟩,t1,aa⟩:=step x H' y;let xc:w.xs[i]=q:=by
    have:w.xs[i]?=a_ w.xs[i]:=by simp[ao]
    rw[this]at eq;show UW eq
   rw[xc]at p;cases et:tg q (gP js δ) with
   |none=>rw[et]at p;show p.elim
   |some δ1=>
    rw[et]at p;let Ua:RE C φ H' (gP js δ) (jX js σ):=(re.mono yn<|tt.trans t1).cap js;refine⟨φ,gP js δ,h',q,δ1,aa,Ua,rv,et,λσ2 uj=>⟨φ,δ1,h',aa,uj,(bN.bind<|post.weak Ux t1 p).imp ?_⟩⟩;rintro b H5 ⟨φ5,h5,p5,t5,rh5,q5⟩;cases b with
    |false=>exact Ex ⟨φ5,h5,pp.trans p5,(tt.trans t1).trans t5,rh5,q5⟩
    |true=>
     refine Ey ⟨φ5,δ1,h5,rh5,uj.mono p5 t5,(post.bind q5).imp ?_⟩;rintro v H6 ⟨φ6,z,h6,p6,t6,rh6,rv6,q6⟩;cases e6:dM h6 h.length with
     |none=>rw[e6]at q6;show q6.elim
     |some ys=>
      rw[e6]at q6;let⟨hz,q6⟩:=q6.ite;let hφ:φ6[h.length]?=a_ acc:=fO ((pp.trans p5).trans p6) hlen;let⟨vs,hH,j8⟩:=rh6.at' h.length acc _ hφ (gX e6);refine⟨vs,hH,by rw[<-j8.length];show hz,φ6,h6.set h.length (.lst (ys++[z])),(pp.trans p5).trans p6,(((tt.trans t1).trans t5).trans t6).trans (Kp.lst hH),
       rh6.write hφ (by rw[hH];trivial) ⟨vs++[v],aI,(j8.snoc rv6).mono Ux (Kp.lst hH)⟩,post.weak Ux (Kp.lst hH) q6⟩
  ·rw[if_neg hg]at p;show p.elim
 ·let e:i=w.xs.length:=⋯;subst e;rw[List.drop_length]at p;unfold lI at p;by_cases hg:w.g h'=true
  ·rw[if_pos hg]at p;show .inl ⟨(wk φ H h' yn tt bf hg _).2<|Uv _,p.val bf ⟨acc,rfl,fO pp hlen⟩⟩
  ·rw[if_neg hg]at p;show p.elim
def DG{tg:Mg}{Q:VK}(h:rd C (bZ js mi tg tst elt) σ H Q):DA js (rdI C mi) (rdG C tg) (rdB C tst) (rd C elt) σ H Q:=by let⟨φ,δ,h,rh,re,p⟩:=h;refine⟨φ,δ,h,rh,re,(dN.bind p).imp ?_⟩;rintro J H1 ⟨φ1,w,h1,p1,t1,aa,wk,q1⟩;intro acc ak;show GC wk aa (O_ 0) q1 acc ak
variable{tt:Ev->PH->Rs Bool}
def N3{elt:v_}{g:Mg}(ib:X.env.scope=os)(jo:X.N=oN)(ok:jV os oN sc N js=true)(hi:SI C k X tg iter mi)(hg:∀C' fp s₀ H₀,SG C k (N_ N C' fp s₀ H₀) tg g)(ht:∀C' fp s₀ H₀,STs C k (N_ N C' fp s₀ H₀) ifs tt)(he:∀C' fp s₀ H₀,SE C k (N_ N C' fp s₀ H₀) elt me)(hs:∀x,V2 iter X.env x=pure x:=by intro _;rfl):D_ (.ListComp elt [⟨tg,iter,ifs,0⟩] sc pos) (bZ js mi g tt me):=λc=>(JG c.calm ib jo ok (hi c) (λa b s H=>hg a b s H<|c.comp sc N a b s H) (λa b s H=>ht a b s H<|c.comp sc N a b s H) (λa b s H=>he a b s H<|c.comp sc N a b s H) hs).imp λσ H Q h=>DG h
def EV{elt:v_}{g:Mg}(hN:X.N.Nodup)(ic:X.N[i]?=a_ x)(jl:T_ 0=a_ .local)(ib:X.env.scope=os)(jo:X.N=oN)(ok:jV os oN sc N js=true)(hi:SI C k X tg iter mi)(hg:∀C' fp s₀ H₀,SG C k (N_ N C' fp s₀ H₀) tg g)(ht:∀C' fp s₀ H₀,STs C k (N_ N C' fp s₀ H₀) ifs tt)(he:∀C' fp s₀ H₀,SE C k (N_ N C' fp s₀ H₀) elt me)(q0:XX (.ListComp elt [⟨tg,iter,ifs,0⟩] sc pos) (a_<|.Name x pos') dn.line X.env=pure true:=by rfl)(hs:∀x,V2 iter X.env x=pure x:=by intro _;rfl):SSt C k X (.Assign [.Name x pos'] (.ListComp elt [⟨tg,iter,ifs,0⟩] sc pos) dn) (aQ i<|bZ js mi g tt me):=λc=>(CA hN ic jl c.calm ib jo ok (hi c) (λa b s H=>hg a b s H<|c.comp sc N a b s H) (λa b s H=>ht a b s H<|c.comp sc N a b s H) (λa b s H=>he a b s H<|c.comp sc N a b s H) q0 hs).imp λD σ H h=>by let⟨φ,δ,h,rh,re,p⟩:=h;refine DG ⟨φ,δ,h,rh,re,(post.fl p).imp ?_⟩;rintro v H1 ⟨φ1,x,h1,p1,t1,aa,ae,q1⟩;show q1.nx aa<|(O_ 0).set ae i
abbrev mFn(N:Nat)(body:Ms):Fn:=λargs h=>match body (args.map a_++Xn (N-args.length) b_) h with
 |.nx _ h'=>.ok .non h'
 |.rt p h'=>.ok p h'
 |.exc x h'=>.exc x h'
 |_=>.bad
def RE.start{ps:X9 0}(r:C_ ps vs)(N:x_ Str):RE C φ H (ps.map a_++Xn (N.length-ps.length) b_) (start N vs):=by
 unfold L2.start;refine⟨by simp[r.length],λi p e=>?_⟩;by_cases hi:i<ps.length
 ·rw[Vq<|ke hi,UD]at e;rw[Vq<|by simpa[<-r.length] using hi,UD]
  cases q:ps[i]? with
  |none=>rw[q]at e;cases e
  |some x=>
   rw[q]at e;cases e
   let⟨v,hv,rv⟩:=r.at q;show⟨v,by rw[hv];rfl,rv⟩
 ·rw[WQ<|ke hi]at e;rw[List.getElem?_replicate]at e;split at e
  ·cases e
  ·cases e
def Lw{base:u_}{f:s_}(hex:∀φ H x,¬ C.ex φ H x)(hbn:∀x∈C.bs,mg x=b_)(F:Fun C.K x qual st f fd)(S:pC N ps (aS st))(hb:∀(cdv:q_)(A:t_)(outer:x_ Env)(s:r_)(H:Hp)(E:XK),SSs C k (xP CX0 P C.w C.K mg base N qual (aS st) f cdv A outer s H E).nox (cK st) body):
  cB P C.w C.K mg base CX0 (k+1) f fd ps (spM C ps.length<|mFn N.length body):=by
 refine F.ok S (λvs H Q E h=>?_)<|λcdv A outer s H vs Q E hr h=>?_
 ·let⟨φ,h,xs,rh,rv,hl,_⟩:=h;rw[<-rv.length];show hl
 ·let⟨φ,h,xs,rh,rv,hl,p⟩:=h;refine⟨_,hb cdv A outer s H E ⟨rfl,rfl,hr,hbn,rfl⟩,φ,xs.map a_++Xn (N.length-xs.length) b_,h,rh,RE.start rv N,?_⟩;unfold mFn at p;cases e:body (xs.map a_++Xn (N.length-xs.length) b_) h with
  |nx δ h'=>rw[e]at p;show λφ' σ' H' pp tt bf uo=>p φ' .non H' pp tt bf rfl
  |rt z h'=>rw[e]at p;show p
  |exc z h'=>rw[e]at p;show λφ' H' pp tt bf=>(hex _ _ _<|p φ' H' pp tt bf).elim
  |bk δ h'=>rw[e]at p;show p.elim
  |ct δ h'=>rw[e]at p;show p.elim
  |bad=>rw[e]at p;show p.elim
def N4{f:Fn}{Q:VK}{E:XK}(hO:G3 H)(ho:SqL C.K H a (ns.map V.int))(hf:∃h,f [.fl<|Ye 0] []=.ok (.bl true) h)(hQ:∀H',Q (.bl true) H'):spM C 1 f [.ref a] H Q E:=by
 let r0:∀ns:x_ Int,RVs C [] H (Ye 0) (ns.map V.int):=by
  intro ns
  induction ns with
  |nil=>trivial
  |cons n ns ih=>exact⟨rfl,ih⟩
 let hs:SqF C.K H a (ns.map V.int):=by
  rcases ho with(h|⟨o,h⟩)|h
  ·rcases hO a with z|⟨o,xs,z⟩
   ·rw[z]at h;cases h
   ·rw[z]at h;cases h
  ·show .inl ⟨o,h⟩
  ·show .inr h
 refine⟨[],[],[.fl<|Ye 0],⟨rfl,by simp,λn b ob h1 h2=>by simp at h1⟩,⟨⟨a,_,rfl,hs,r0 ns⟩,trivial⟩,rfl,?_⟩;let⟨h,e⟩:=hf;rw[e];intro φ' v H' _ _ _ rv;cases rv
 show hQ H'
variable{C:MC}{k:Nat}{X:Cx}
abbrev tyN(x:PV)(h:PH):y_ String:=match x with
 |.non=>a_ "NoneType"
 |.bl _=>a_ "bool"
 |.int _=>a_ "int"
 |.str _=>a_ "str"
 |.tup _=>a_ "tuple"
 |.fl _=>a_ "list"
 |.ref n=>match h[n]? with
  |some (.lst _)=>a_ "list"
  |some (.dK _)=>a_ "dict"
  |_=>b_
 |.ty _=>b_
abbrev pX(t c:String):Bool:=t == c || (t == "bool" && c == "int")
abbrev known:x_ String:=["int","str","bool","list","tuple","dict"]
def N5{t c:String}(ht:t∈"NoneType" :: known)(hc:c∈known):PySem.W.kitOne K (.type t) (.type c)=a_ (pX t c):=by simp only[known,UF,WB,or_false]at ht hc;rcases ht with rfl|rfl|rfl|rfl|rfl|rfl|rfl <;> rcases hc with rfl|rfl|rfl|rfl|rfl|rfl <;> rfl
abbrev xU:X9 0->PH->Rs PV:=λxs h=>match xs with
 |[x,.ty c]=>match tyN x h with
  |some t=>if c∈known then .ok (.bl<|pX t c) h else .bad
  |none=>.bad
 |_=>.bad
def GD(hK:X.K=C.K):dJ X (.builtin "isinstance") (λxs H Q=>∃x c t b,xs=[x,.ty c]/\(rA C.K H x (.type t)\/(∃a vs,x=.ref a/\SqT C.K H a vs/\t="tuple")\/(∃a vs,x=.ref a/\SqL C.K H a vs/\t="list"))/\PySem.W.kitOne C.K (.type t) (.type c)=a_ b/\Q (.bl b) H):=by
 intro td s σ H xs us Q I r h;let⟨x,c,t,b,rfl,ty,e,q⟩:=h;let⟨u,v,rfl,ru,rv⟩:=vals2 r;cases rv
 rw[<-hK]at e ty;rcases ty with ty|⟨a,vs,rfl,sa,rfl⟩|⟨a,vs,rfl,sa,rfl⟩
 ·show Ep I ru ty e λtk=>⟨.bl b,H,I.tok tk,rfl,q⟩
 ·cases ru
  let⟨its,_,⟨o,h1,h2,_⟩,_⟩:=I.tuple sa;show VB PySem.W.kitx_tuple I.kIn ⟨o,h1,h2⟩ e (λz=>nomatch z) λtk=>⟨.bl b,H,I.tok tk,rfl,q⟩
 ·cases ru
  let⟨its,_,⟨o,n,h1,h2,_⟩,_⟩:=I.list sa;show VB PySem.W.kitx_list I.kIn ⟨o,h1,h2⟩ e (λz=>nomatch z) λtk=>⟨.bl b,H,I.tok tk,rfl,q⟩
set_option tactic.hygienic true in
def Ag:lX C k X (.builtin "isinstance") xU:=λc=>(GD c.K).imp λvs H Q h=>by
 let⟨φ,h,ps,rh,rv,po⟩:=h;unfold xU at po;split at po
 ·rename_i x n;let⟨v,w,rfl,rx,ry⟩:=rv.two;cases ry
  split at po
  ·rename_i t ht;let⟨hn,po⟩:=po.ite;let fin:∀{t:String},t∈"NoneType" :: known->I_ (.ok (.bl<|pX t n) h) Q->PySem.W.kitOne C.K (.type t) (.type n)=a_ (pX t n)/\Q (.bl<|pX t n) H:=λhm po=>⟨N5 hm hn,K_ rfl⟩;unfold tyN at ht;cases x with
   |non=>cases ht;cases rx;show⟨_,n,_,_,rfl,.inl .non,fin (by decide) po⟩
   |bl b=>cases ht;cases rx;show⟨_,n,_,_,rfl,.inl<|.bl _,fin (by decide) po⟩
   |int b=>cases ht;cases rx;show⟨_,n,_,_,rfl,.inl<|.int _,fin (by decide) po⟩
   |str b=>cases ht;cases rx;show⟨_,n,_,_,rfl,.inl<|.str _,fin (by decide) po⟩
   |tup xs=>
    cases ht
    let⟨a,vs,rfl,sa,ra⟩:=rx;show⟨_,n,_,_,rfl,.inr<|.inl ⟨a,vs,rfl,sa,rfl⟩,fin (by decide) po⟩
   |fl xs=>
    cases ht
    let⟨a,vs,rfl,sa,ra⟩:=rx;show⟨_,n,_,_,rfl,.inr<|.inr ⟨a,vs,rfl,sa.sq,rfl⟩,fin (by decide) po⟩
   |ref m=>
    let⟨a,rfl,ha⟩:=rx;dsimp only at ht;split at ht
    ·rename_i xs hx;cases ht
     let⟨vs,hH,ra⟩:=rh.at' m a _ ha hx;show⟨_,n,_,_,rfl,.inl<|.lst hH,fin (by decide) po⟩
    ·rename_i xs hx;cases ht
     let⟨vs,hH,ra⟩:=rh.at' m a _ ha hx;show⟨_,n,_,_,rfl,.inl<|.dK hH,fin (by decide) po⟩
    ·cases ht
   |ty z=>cases ht
  ·show po.elim
 ·show po.elim
abbrev mMt(ty:PV->PH->Bool)(g:PV->X9 0->PH->Rs PV)(mo:Me)(ms:Ma):Me:=λδ h=>(mo δ h).bind λx h1=>if ty x h1=true then(ms δ h1).bind λps h2=>g x ps h2 else .bad
abbrev uC(ty:PV->PH->Bool)(g:PV->X9 0->PH->Rs PV)(mo:Me):Me:=λδ h=>(mo δ h).bind λx h1=>if ty x h1=true then g x [] h1 else .bad
abbrev rM(C:MC)(g:PV->X9 0->PH->Rs PV):V->x_ V->Hp->VK->Prop:=λx xs H Q=>∃φ h p ps,FR h/\j_ p x/\C_ ps xs/\I_ (g p ps h) Q
abbrev MtS(C:MC)(k:Nat)(X:Cx)(T:String)(ty:PV->PH->Bool)(id:String)(g:PV->X9 0->PH->Rs PV):Prop:=X7 X->MtR X id (rM C g)/\∀φ H h p x,FR h->j_ p x->ty p h=true->tyV C.K T x H
variable{ag apos:Pos}{mo:Me}{name:Str}{ty:PV->PH->Bool}
def Ri{o:v_}{id:String}{g:PV->X9 0->PH->Rs PV}(pa:PlainAttrs T)(slot:Slot T name id)(mn:typeOf (.builtin id)=pure (.type "method_descriptor"))(hm:MtS C k X T ty id g)(ho:D_ o mo)(ha:SA C k X (e::es) ms)(bo:Xe o name X.env (eval o X.env)=eval o X.env:=by rfl)(fb:((backTo ag (UL (e::es) X.env)).all (λx=>!x.1)&&(backToKw ag (keywordEach [] X.env)).all (λx=>x.1.isSome)
   && decide ((e::es).length+([]:x_ Keyword).length+(if([]:x_ Keyword).isEmpty then 0 else 1)<30))=true:=by rfl)(bj:(apos.endLine == ag.line)=true:=by rfl)(hs:UL (e::es) X.env=(false,S_ 0)::U_ 0:=by rfl)(cm:(backTo ag (U_ 0)).any (·.1)=false:=by rfl):
  D_ (.Call (.Attribute o name apos) (e::es) [] ag) (mMt ty g mo ms):=λc=>(Ox pa slot mn (hm c).1 (ho c) (ha c) bo fb bj hs cm).imp λσ H Q h=>by
 let⟨φ,δ,h,rh,re,p⟩:=h;refine⟨φ,δ,h,rh,re,(post.bind p).imp ?_⟩;rintro v H1 ⟨φ1,x,h1,p1,t1,aa,ae,q1⟩;let⟨ht,q1⟩:=q1.ite;refine⟨by rw[c.K];show(hm c).2 φ1 H1 h1 x v aa ae ht,φ1,δ,h1,aa,O_ 0,(postA.bind q1).imp ?_⟩;rintro vs H2 ⟨φ2,xs,h2,p2,t2,ah,bq,q2⟩;show⟨φ2,h2,x,xs,ah,ae.mono p2 t2,bq,q2⟩
def MtR.imp{id:String}{r r':V->x_ V->Hp->VK->Prop}(h:MtR X id r)(i:∀x xs H Q,r' x xs H Q->r x xs H Q):MtR X id r':=λtd s σ H x xs v us Q I rx rs q=>Ym x xs v us Q I rx rs<|i x xs H Q q
abbrev isL(x:PV)(h:PH):Bool:=match x with
 |.ref n=>(dM h n).isSome
 |_=>false
def N6{x:V}(rh:FR h)(rv:j_ p x)(e:isL p h=true):tyV C.K "list" x H:=by
 cases p with
 |ref n=>
  let⟨a,rfl,ha⟩:=rv;let⟨xs,hx⟩:=Wz.mp (show(dM h n).isSome=true from e)
  let⟨vs,hH,ra⟩:=Yb<|gX hx;show .inl ⟨rfl,vs,SqL.of hH⟩
 |_=>cases e
abbrev onL(f:X9 0->X9 0->y_ (PV×X9 0)):PV->X9 0->PH->Rs PV:=λx ps h=>match x with
 |.ref n=>match dM h n with
  |some xs=>match f xs ps with
   |some (r,ys)=>.ok r (Yr<|.lst ys)
   |none=>.bad
  |none=>.bad
 |_=>.bad
def N7{f:X9 0->X9 0->y_ (PV×X9 0)}{x:V}{xs:x_ V}{Q:VK}(h:rM C (onL f) x xs H Q):∃φ l ps ys vs r zs,x=.ref l/\H l=a_ (.lst vs)/\C_ ys vs/\C_ ps xs/\f ys ps=a_ (r,zs)/\
  ∀(v:V)(ws:x_ V),j_ r v->C_ zs ws->Q v (R_ l<|.lst ws):=by
 let⟨φ,h,p,ps,rh,rx,rs,po⟩:=h;unfold onL at po;cases p with
 |ref n=>
  let⟨a,rfl,ha⟩:=rx;dsimp only at po;cases e:dM h n with
  |none=>rw[e]at po;show po.elim
  |some ys=>
   rw[e]at po;dsimp only at po;let⟨vs,hH,ra⟩:=Yb<|gX e;cases ef:f ys ps with
   |none=>rw[ef]at po;show po.elim
   |some rz=>rw[ef]at po;let⟨r,zs⟩:=rz;show⟨φ,a,ps,ys,vs,r,zs,rfl,hH,ra,rs,ef,λv ws rv dh=>po.lset rh ha hH dh rv⟩
 |_=>exact po.elim
abbrev bP:X9 0->X9 0->y_ (PV×X9 0):=λxs ps=>match ps with
 |[p]=>if xs.length<UG then a_ (.non,xs++[p]) else b_
 |_=>b_
def EW:MtR X "list.append" (rM C<|onL bP):=MtR.imp (show MtR X "list.append" Dy from yG) λx xs H Q h=>by
 let⟨φ,l,ps,ys,vs,r,zs,rfl,hH,ra,rs,ef,q⟩:=N7 h;unfold bP at ef;split at ef
 ·split at ef
  ·rename_i hz;cases ef
   let⟨v,rfl,rx⟩:=rs.one;show⟨l,vs,v,rfl,rfl,hH,by rw[<-ra.length];show hz,q .non _ rfl<|ra.snoc rx⟩
  ·cases ef
 ·cases ef
def GE:MtS C k X "list" isL "list.append" (onL bP):=λc=>⟨EW,λφ H h p x rh rv e=>N6 rh rv e⟩
abbrev Pp(K:Us):R2:=λx y H Q=>∃a b ys,x=.ref a/\y=.ref b/\SqT K H a []/\SqT K H b ys/\Q (.ref b) H
def JY:Yg (V6 .Add) (Pp X.K):=by
 intro td s σ H x y v u Q I rx ry h;let⟨a,b,ys,rfl,rfl,ha,hb,q⟩:=h;cases rx
 cases ry
 let⟨its,r1,p1,_⟩:=I.tuple ha;let⟨da,r2,p2,_⟩:=I.tuple hb;cases r1
 let⟨⟨cls,dd,data,sl⟩,ho,hc,n,hd⟩:=id p1;let⟨⟨qg,ki,data2,kh⟩,i8,dr,n2,hd2⟩:=id p2;simp only at hc hd dr hd2;subst hc hd dr hd2;show concat_meets ⟨_,ho,rfl⟩ ⟨_,i8,rfl⟩ noFill_tuple_add seq_tuple_add PySem.F.slot_tuple_add PySem.F.entry_tuple_add (PySem.F.args_tuple_add_2 _ _)
   (tuple_addW0 a b ([]:x_ q_).toArray da.toArray n n2 dd ki sl kh<|by simp) ⟨ho,i8,⟨.ref b,H,I,rfl,q⟩⟩
abbrev aY:PV->PV->PH->Rs PV:=λx y h=>match x,y with
 |.tup [],.tup ys=>.ok (.tup ys) h
 |x,y=>Gn x y h
def N8:Yq (V6 .Add) aY:=λc=>((OV c).or (by have:=JY (X:=X);rw[c.K]at this;show this)).imp λx y H Q h=>by
 let⟨φ,h,p,q,rh,rx,ry,po⟩:=h;unfold aY at po;split at po
 ·let⟨a,vs,rfl,sa,ra⟩:=rx;let⟨b,us,rfl,sb,rb⟩:=ry;have:vs=[]:=by cases vs <;> first|rfl|exact ra.elim
  subst this;show .inr ⟨a,b,us,rfl,rfl,sa,sb,K_ ⟨b,us,rfl,sb,rb⟩⟩
 ·show .inl ⟨φ,h,p,q,rh,rx,ry,po⟩
variable{C:MC}{k:Nat}{X:Cx}
def Pq:UnS C k X (unaryOp .USub) CN:=λc=>by
 let h:UnR X (unaryOp .USub) (rU λi=>.int<|-i):=M5;intro td s σ H x v Q I rx q;refine Ym x v Q I rx ?_;let⟨φ,h,p,rh,rv,po⟩:=q;unfold CN at po;cases p with
 |int i=>cases rv;show⟨i,rfl,K_ rfl⟩
 |_=>exact po.elim
open PySem
@[irreducible]def Rs.W{α:Type}(r:Rs α)(Q:α->PH->Prop):Prop:=match r with
 |.ok a h=>Q a h
 |_=>False
structure FE where
 nx:Ev->PH->Prop
 rt:PV->PH->Prop
 bk:Ev->PH->Prop:=λ_ _=>False
 ct:Ev->PH->Prop:=λ_ _=>False
@[irreducible]def Fl.W(r:Fl)(E:FE):Prop:=match r with
 |.nx δ h=>E.nx δ h
 |.rt p h=>E.rt p h
 |.bk δ h=>E.bk δ h
 |.ct δ h=>E.ct δ h
 |_=>False
@[irreducible]def Lt(b:Ms)(E:FE)(δ:Ev)(h:PH):Prop:=(b δ h).W E
variable{ys:X9 0}{h1:PH}{args:X9 0}
section
unseal Rs.W Fl.W Lt
variable{α β:Type}{Q:α->PH->Prop}{E:FE}
@[simp]theorem rH{a:α}:(Rs.ok a h).W Q=Q a h:=(rfl)
@[simp]theorem Rj:(Fl.nx δ h).W E=E.nx δ h:=(rfl)
@[simp]theorem RQ:(Fl.rt p h).W E=E.rt p h:=(rfl)
@[simp]theorem Ah{Q:β->PH->Prop}{r:Rs α}{f:α->PH->Rs β}:(r.bind f).W Q=r.W λa h=>(f a h).W Q:=by cases r <;> rfl
@[simp]theorem EX{r:Rs α}{f:α->PH->Fl}:(r.fl f).W E=r.W λa h=>(f a h).W E:=by cases r <;> rfl
def GF{Q':α->PH->Prop}{r:Rs α}(h:r.W Q)(i:∀a h,Q a h->Q' a h):r.W Q':=by cases r <;> first|exact i _ _ h|exact h
@[simp]theorem RF{c:Prop}[Decidable c]{x y:Rs α}:(if c then x else y).W Q=if c then x.W Q else y.W Q:=by split <;> rfl
@[simp]theorem RG:(Rs.bad:Rs α).W Q=False:=(rfl)
@[simp]theorem Rk:Fl.bad.W E=False:=(rfl)
def iW{r:Rs α}(w:r.W Q):∃a h,r=.ok a h/\Q a h:=by
 cases r with
 |ok a h=>exact⟨a,h,rfl,w⟩
 |exc=>exact w.elim
 |bad=>exact w.elim
variable{a b:Ms}{mc:Me}{t ta tb:Ev->PH->Rs Bool}{g g':PV->PV->PH->Rs PV}
def GG:(aE a b δ h).W E=(a δ h).W { E with nx:=λδ h=>(b δ h).W E}:=by
 change(match a δ h with|.nx δ1 h1=>b δ1 h1|r=>r).W E=_
 cases a δ h <;> rfl
def aD:(aE a b δ h).W E=(a δ h).W { E with nx:=Lt b E}:=by
 change(match a δ h with|.nx δ1 h1=>b δ1 h1|r=>r).W E=_
 cases a δ h <;> rfl
def now{b:Ms}(w:(b δ h).W E):Lt b E δ h:=w
@[simp]theorem RI:(cH δ h).W E=E.nx δ h:=(rfl)
@[simp]theorem RJ:(Gy δ h).W E=E.ct δ h:=(rfl)
@[simp]theorem Bw:(aQ i m δ h).W E=(m δ h).W λp h=>E.nx (δ.set i<|a_ p) h:=by simp[aQ]
@[simp]theorem RK{t:Mg}:(hW m t δ h).W E=(m δ h).W λp h=>∃δ',t p δ=a_ δ'/\E.nx δ' h:=by
 unfold hW;cases m δ h with
 |ok p h1=>
  change(match t p δ with|some δ'=>Fl.nx δ' h1|none=>.bad).W E=∃δ',t p δ=a_ δ'/\E.nx δ' h1
  cases t p δ <;> simp[Fl.W]
 |exc=>rfl
 |bad=>rfl
@[simp]theorem Pr:(iA m δ h).W E=(m δ h).W λ_ h=>E.nx δ h:=by simp[iA]
@[simp]theorem Bx:(bF m δ h).W E=(m δ h).W E.rt:=by simp[bF]
@[simp]theorem cI:(bA t a b δ h).W E=(t δ h).W λc h=>if c=true then(a δ h).W E else(b δ h).W E:=by
 unfold bA;rw[EX];congr;funext c h;cases c <;> simp
@[simp]theorem Pt:mV i δ h=match uB δ i with|some p=>.ok p h|none=>.bad:=(rfl)
@[simp]theorem Pu:mC p δ h=.ok p h:=(rfl)
@[simp]theorem JZ:aB g ma mb δ h=(ma δ h).bind λx h1=>(mb δ h1).bind λy h2=>g x y h2:=(rfl)
@[simp]theorem Rl{g:PV->PH->Rs PV}:mUn g ma δ h=(ma δ h).bind g:=(rfl)
@[simp]theorem Qk:aO m δ h=(m δ h).bind tru:=(rfl)
@[simp]theorem Pv:Bu t δ h=(t δ h).bind λb h1=>.ok (!b) h1:=(rfl)
@[simp]theorem Pw:tL ta tb δ h=(ta δ h).bind λb h1=>if b=true then tb δ h1 else .ok false h1:=by unfold tL;congr 1;funext b h1;cases b <;> simp
@[simp]theorem Ql:CO ta tb δ h=(ta δ h).bind λb h1=>if b=true then .ok true h1 else tb δ h1:=by unfold CO;congr 1;funext b h1;cases b <;> simp
@[simp]theorem Rm:mIf t ma mb δ h=(t δ h).bind λb h1=>if b=true then ma δ h1 else mb δ h1:=by unfold mIf;congr 1;funext b h1;cases b <;> simp
abbrev bl2(x:PV)(f g:Rs PV):Rs PV:=match x with
 |.bl true=>f
 |.bl false=>g
 |_=>.bad
@[simp]theorem Rn{b:Bool}{f g:Rs PV}:bl2 (.bl b) f g=if b=true then f else g:=by cases b <;> simp[bl2]
@[simp]theorem Px:Bv ma mb δ h=(ma δ h).bind λx h1=>bl2 x (mb δ h1) (.ok (.bl false) h1):=by unfold Bv;first|rfl|(congr 1;funext x h1;cases x <;> first|rfl|(rename_i b;cases b <;> rfl))
@[simp]theorem Qm:aZ ms δ h=(ms δ h).bind λxs h1=>if xs.length<=UG then .ok (.tup xs) h1 else .bad:=(rfl)
@[simp]theorem Qn:iI ms δ h=(ms δ h).bind λxs h1=>if xs.length<=UG then .ok (.ref h1.length) (h1++[.lst xs]) else .bad:=(rfl)
@[simp]theorem EY:bW δ h=.ok (.ref h.length) (h++[.dK []]):=(rfl)
@[simp]theorem DH:aC δ h=.ok [] h:=(rfl)
@[simp]theorem By:aA m ms δ h=(m δ h).bind λx h1=>(ms δ h1).bind λxs h2=>.ok (x::xs) h2:=(rfl)
@[simp]theorem GH{g:X9 0->PH->Rs PV}:mCB g ms δ h=(ms δ h).bind g:=(rfl)
@[simp]theorem GJ{f:Fn}:aN n f ms δ h=(ms δ h).bind λps h1=>if ps.length=n then f ps h1 else .bad:=(rfl)
@[simp]theorem Qo:nJ δ h=.ok b_ h:=(rfl)
abbrev GK(x:PV)(h:PH):Rs (y_ Int):=match x with
 |.int i=>.ok (a_ i) h
 |_=>.bad
@[simp]theorem N9{i:Int}:GK (.int i) h=.ok (a_ i) h:=(rfl)
@[simp]theorem RL:mP m δ h=(m δ h).bind GK:=(rfl)
@[simp]theorem Ro:mSl m ml mh δ h=(m δ h).bind λx h1=>(ml δ h1).bind λl h2=>(mh δ h2).bind λu h3=>vSl x l u h3:=(rfl)
@[simp]theorem Rp{g:PV->X9 0->PH->Rs PV}:mMt ty g m ms δ h=(m δ h).bind λx h1=>if ty x h1=true then(ms δ h1).bind λps h2=>g x ps h2 else .bad:=(rfl)
@[simp]theorem Qp{g:PV->X9 0->PH->Rs PV}:uC ty g m δ h=(m δ h).bind λx h1=>if ty x h1=true then g x [] h1 else .bad:=(rfl)
@[simp]theorem kB:UG=16777216:=by rw[Vs]
def K0{i j:Int}(c:(-18446744073709551616<i/\i<18446744073709551616)\/(-18446744073709551616<j/\j<18446744073709551616)):rF (.int i) (.int j) h=.ok (.int<|i*j) h:=by
 change(if B7 i j then _ else _)=_
 show if_pos c
@[simp]theorem Py{i j:Int}(c:(-18446744073709551616<i/\i<18446744073709551616)\/(-18446744073709551616<j/\j<18446744073709551616)):vInt B7 (λi j=>i*j) (.int i) (.int j) h=.ok (.int<|i*j) h:=K0 c
@[simp]theorem Qq{i j:Int}(c:0<j/\j<1073741824):vInt FI (λi j=>i/j) (.int i) (.int j) h=.ok (.int<|i/j) h:=if_pos c
@[simp]theorem Qr{i j:Int}(c:0<j):vInt (λ_ j=>0<j) (λi j=>i%j) (.int i) (.int j) h=.ok (.int<|i%j) h:=if_pos c
@[simp]theorem Qs{i j:Int}:Bs (.int i) (.int j) h=.ok (.int<|i-j) h:=(rfl)
@[simp]theorem Qt{i:Int}:CN (.int i) h=.ok (.int<|-i) h:=(rfl)
@[simp]theorem EZ{i j:Int}:aY (.int i) (.int j) h=.ok (.int<|i+j) h:=(rfl)
@[simp]theorem O6{y:Str}(c:x.length+y.length<=16777216):aY (.str x) (.str y) h=.ok (.str<|x++y) h:=if_pos c
@[simp]theorem F0(c:xs.length+ys.length<=16777216):aY (.tup xs) (.tup ys) h=.ok (.tup<|xs++ys) h:=by
 cases xs with
 |nil=>rfl
 |cons x xs=>exact if_pos ⟨rfl,c⟩
@[simp]theorem Pz{f:Int->Int->Bool}{g:x_ Nat->x_ Nat->Bool}{i j:Int}:ES f g (.int i) (.int j) h=.ok (.bl<|f i j) h:=(rfl)
@[simp]theorem Rq{b:Bool}:tru (.bl b) h=.ok b h:=(rfl)
@[simp]theorem PB:ofO (a_ p) h=.ok p h:=(rfl)
@[simp]theorem Qu{i:Int}:vIx (.tup xs) (.int i) h=ofO (atI xs i) h:=(rfl)
def cZ{i:Int}(e:h[n]?=a_ (.lst xs)):vIx (.ref n) (.int i) h=ofO (atI xs i) h:=by simp[vIx,aL,e]
@[simp]theorem uN{z:Str}{i:Int}(c:z.length<=16777216):vIx (.str z) (.int i) h=ofO ((atI z.cps.toList i).map λc=>.str ⟨#[c]⟩) h:=if_pos c
@[simp]theorem Bz(c:x.length<=16777216):jJ [.str x] h=.ok (.int x.length) h:=if_pos c
def lY(e:h[n]?=a_ (.lst xs)):jJ [.ref n] h=.ok (.int xs.length) h:=by simp[jJ,aL,e]
@[simp]theorem Qv{i j:Int}:Gx [.int i,.int j] h=.ok (.int<|if j>i then j else i) h:=(rfl)
@[simp]theorem PC{i:Str}{c:String}:xU [.str i,.ty c] h=if c∈known then .ok (.bl<|pX "str" c) h else .bad:=(rfl)
def GL{c:String}(e:h[n]?=a_ (.lst xs)):xU [.ref n,.ty c] h=if c∈known then .ok (.bl<|pX "list" c) h else .bad:=by simp[xU,tyN,e]
def kC(e:h[n]?=a_ (.lst xs)):isL (.ref n) h=true:=by simp[isL,dM,e]
def dX(e:h[n]?=a_ (.lst xs))(c:xs.length<16777216):onL bP (.ref n) [p] h=.ok .non (Yr<|.lst<|xs++[p]):=by simp[onL,dM,e,bP,c]
def DK{α:Type}{xs:x_ α}{i:Int}(h0:0<=i)(h1:i<xs.length):atI xs i=xs[i.toNat]?:=by unfold atI ixN;rw[if_pos h0,if_pos h1];rfl
def BA{α:Type}{xs:x_ α}{x:α}:atI (xs++[x]) (-1)=a_ x:=by
 unfold atI ixN;rw[if_neg<|by decide,if_pos (by simp;omega)];have:((-1:Int)+((xs++[x]).length:Int)).toNat=xs.length:=by simp;omega
 rw[this];simp
def lZ{g:PH->Bool}{tg:Mg}{body:Ms}{E:FE}(I:Nat->Ev->PH->Prop):∀(xs:X9 0)(k:Nat)(δ:Ev)(h:PH),I k δ h->
  (∀i x δ h,k<=i->xs[i-k]?=a_ x->I i δ h->g h=true/\∃δ1,tg x δ=a_ δ1/\(body δ1 h).W { nx:=I<|i+1,ct:=I<|i+1,rt:=E.rt,bk:=E.nx})->
  (∀δ h,I (k+xs.length) δ h->g h=true/\E.nx δ h)->(eY g tg body xs δ h).W E
 |[],k,δ,h,i0,_,fin=>by let⟨h1,h2⟩:=fin δ h i0;simp[eY,h1,h2]
 |x::xs,k,δ,h,i0,step,fin=>by
  let⟨h1,δ1,h2,h3⟩:=step k x δ h (Uv _) (by simp) i0;let go:∀δ2 h2,I (k+1) δ2 h2->(eY g tg body xs δ2 h2).W E:=λδ2 h2 i2=>
   lZ I xs (k+1) δ2 h2 i2 (λi y δ h hk hy=>step i y δ h ⋯ (by
    have:i-k=(i-(k+1))+1:=⋯;rw[this,VN];show hy)) (λδ h hi=>fin δ h (by
    let e:k+(x::xs).length=k+1+xs.length:=by simp;omega
    rw[e];show hi))
  unfold eY;rw[if_pos h1,h2]
  change Fl.W (match body δ1 h with|.nx δ2 h2=>eY g tg body xs δ2 h2|.ct δ2 h2=>eY g tg body xs δ2 h2|.bk δ2 h2=>.nx δ2 h2|r=>r) E
  cases e:body δ1 h with
  |nx δ2 h2=>rw[e]at h3;show go δ2 h2 h3
  |ct δ2 h2=>rw[e]at h3;show go δ2 h2 h3
  |bk δ2 h2=>rw[e]at h3;show h3
  |rt p h2=>rw[e]at h3;show h3
  |exc=>rw[e]at h3;show h3
  |bad=>rw[e]at h3;show h3
def Ai{j:Int}(I:Nat->Ev->PH->Prop)(e:ms δ h=.ok [.int j] h)(hj:-4611686018427387904<=j/\j<4611686018427387904)(h0:I 0 δ h)(step:∀(q:Nat) δ h,(q:Int)<j->I q δ h->(body (δ.set i<|d_ q) h).W { nx:=I<|q+1,ct:=I<|q+1,rt:=E.rt,bk:=E.nx})(fin:∀δ h,I j.toNat δ h->E.nx δ h):(bR (pW ms) (gN i) body δ h).W E:=by
 unfold bR pW;rw[e];let ku:-(2 ^ 62)<=j/\j<2 ^ 62:=hj;simp only[Rs.bind_ok,Gz,if_pos ku,Rs.fl_ok];refine lZ I _ 0 δ h h0 (λq x δ h _ hx hi=>?_) (λδ h hi=>⟨rfl,fin δ h (by rw[cU,Nat.zero_add]at hi;show hi)⟩);let hq:q<j.toNat:=by have:=(SC.mp hx).1;rw[cU]at this;omega
 rw[Nat.sub_zero,pV _ _ _ hq]at hx;cases hx
 refine⟨rfl,_,rfl,?_⟩;rw[Int.zero_add];show step q δ h ⋯ hi
def GM{lo j:Int}(I:Nat->Ev->PH->Prop)(e:ms δ h=.ok [.int lo,.int j] h)(hj:-4611686018427387904<=lo/\lo<4611686018427387904/\-4611686018427387904<=j/\j<4611686018427387904)(h0:I 0 δ h)(step:∀(q:Nat) δ h,lo+(q:Int)<j->I q δ h->(body (δ.set i<|d_<|lo+q) h).W { nx:=I<|q+1,ct:=I<|q+1,rt:=E.rt,bk:=E.nx})(fin:∀δ h,I (j-lo).toNat δ h->E.nx δ h):(bR (yW ms) (gN i) body δ h).W E:=by
 unfold bR yW;rw[e];let ku:-(2 ^ 62)<=lo/\lo<2 ^ 62/\-(2 ^ 62)<=j/\j<2 ^ 62:=hj;simp only[Rs.bind_ok,GA,if_pos ku,Rs.fl_ok];refine lZ I _ 0 δ h h0 (λq x δ h _ hx hi=>?_) (λδ h hi=>⟨rfl,fin δ h (by rw[cU,Nat.zero_add]at hi;show hi)⟩);let hq:q<(j-lo).toNat:=by have:=(SC.mp hx).1;rw[cU]at this;omega
 rw[Nat.sub_zero,pV _ _ _ hq]at hx;cases hx
 show⟨rfl,_,rfl,step q δ h ⋯ hi⟩
def CP{tg:Mg}(I:Nat->Ev->PH->Prop)(e:m δ h=.ok (.tup xs) h\/m δ h=.ok (.fl xs) h)(h0:I 0 δ h)(step:∀(q:Nat) x δ h,xs[q]?=a_ x->I q δ h->∃δ1,tg x δ=a_ δ1/\(body δ1 h).W { nx:=I<|q+1,ct:=I<|q+1,rt:=E.rt,bk:=E.nx})(fin:∀δ h,I xs.length δ h->E.nx δ h):(bR (aR m) tg body δ h).W E:=by
 let go:(eY (λ_=>true) tg body xs δ h).W E:=lZ I _ 0 δ h h0 (λq x δ h _ hx hi=>⟨rfl,step q x δ h (ke hx) hi⟩)<|λδ h hi=>⟨rfl,fin δ h<|ke hi⟩;unfold bR aR;rcases e with e|e <;> rw[e] <;> exact go
def iX{tg:Mg}(I:Nat->Ev->PH->Prop)(e:m δ h=.ok (.ref n) h1)(hn:h1[n]?=a_ (.lst xs))(h0:I 0 δ h1)(keep:∀q δ h,q<=xs.length->I q δ h->h[n]?=a_ (.lst xs))(step:∀(q:Nat) x δ h,xs[q]?=a_ x->I q δ h->∃δ1,tg x δ=a_ δ1/\(body δ1 h).W { nx:=I<|q+1,ct:=I<|q+1,rt:=E.rt,bk:=E.nx})(fin:∀δ h,I xs.length δ h->E.nx δ h):(bR (aR m) tg body δ h).W E:=by
 let hk:∀{h:PH},h[n]?=a_ (.lst xs)->vR n xs h=true:=λ{h} e=>by
  let e3:aL h n=a_ xs:=by unfold aL;rw[e]
  unfold vR;rw[e3];show PV.beqs_self xs
 unfold bR aR;rw[e];let e2:ofSeq (.ref n) h1=.ok ⟨xs,vR n xs⟩ h1:=by
  let e3:aL h1 n=a_ xs:=by unfold aL;rw[hn]
  unfold ofSeq;simp only[e3]
 rw[Rs.bind_ok,e2,Rs.fl_ok];refine lZ I _ 0 δ h1 h0 (λq x δ h _ hx hi=>?_)<|λδ h hi=>?_
 ·let ic:xs[q]?=a_ x:=by simpa using hx
  have:=(SC.mp ic).1;show⟨hk<|keep q δ h ⋯ hi,step q x δ h ic hi⟩
 ·let bc:I xs.length δ h:=by simpa using hi
  show⟨hk<|keep _ δ h (Uv _) bc,fin δ h bc⟩
def bG{N:Nat}{Q:PV->PH->Prop}(w:(body (args.map a_++Xn (N-args.length) b_) h).W { nx:=λ_ h=>Q .non h,rt:=Q}):(mFn N body args h).W Q:=by
 unfold mFn;cases e:body (args.map a_++Xn (N-args.length) b_) h with
 |nx δ h'=>rw[e]at w;show w
 |rt p h'=>rw[e]at w;show w
 |_=>rw[e]at w;show w.elim
@[simp]theorem RM:gN i p δ=a_ (δ.set i<|a_ p):=(rfl)
@[simp]theorem Rr{u:Mgs}{ps:X9 0}:gTp n u (.tup ps) δ=if ps.length=n then u ps δ else b_:=(rfl)
@[simp]theorem Rt{t:Mg}{u:Mgs}{r:X9 0}:gCn t u (p::r) δ=(t p δ).bind (u r):=(rfl)
@[simp]theorem Ru:gNl [] δ=a_ δ:=(rfl)
end
abbrev Ext(h h':PH):Prop:=∀(n:Nat)(o:MO),h[n]?=a_ o->h'[n]?=a_ o
def Ext.refl(h:PH):X5 h:=λ_ _ e=>e
variable{h2:PH}
def Ext.trans(a:X5 h1)(b:Ext h1 h2):X5 h2:=λn o e=>b n o<|a n o e
def Ext.app(h g:PH):X5 (h++g):=λn o e=>by rw[Vq (SC.mp e).1];show e
def Ext.len{h':PH}(e:X5 h'):h.length<=h'.length:=by
 rcases Nat.lt_or_ge h'.length h.length with z|z
 ·have:h[h'.length]?=a_ h[h'.length]:=by simp[z]
  have:=(SC.mp<|e _ _ this).1;omega
 ·show z
def aF{o:MO}:(h++[o])[h.length]?=a_ o:=by simp
variable{o':MO}
def cD{o:MO}(e:h[n]?=a_ o):(Yr o')[n]?=a_ o':=VU (SC.mp e).1
def aG{m:Nat}{o:MO}(e:h[m]?=a_ o)(d:n≠m):(Yr o')[m]?=a_ o:=by rw[VH d];show e
abbrev PV.pl:Nat->PV->Bool
 |_,.non=>true
 |_,.int _=>true
 |_,.str _=>true
 |n+1,.tup xs=>xs.all (PV.pl n)
 |_,_=>false
def DL{x:PV}{d:D}{ds:x_ D}(h1:x.d=a_ d)(h2:PV.ds xs=a_ ds):PV.ds (x::xs)=a_ (d::ds):=by simp[PV.ds,h1,h2]
def PD{ds:x_ D}(h:PV.ds xs=a_ ds):(PV.tup xs).d=a_ (.tup ds):=by simp[PV.d,h]
set_option tactic.hygienic true in
def bC{d:D}(h:(PV.tup xs).d=a_ d):∃ds,PV.ds xs=a_ ds/\d=.tup ds:=by
 unfold PV.d at h;split at h
 ·rename_i ds e;cases h;show⟨ds,e,rfl⟩
 ·cases h
set_option tactic.hygienic true in
def cJ{x:PV}{ds:x_ D}(h:PV.ds (x::xs)=a_ ds):∃d r,x.d=a_ d/\PV.ds xs=a_ r/\ds=d::r:=by
 unfold PV.ds at h;split at h
 ·rename_i d r e1 e2;cases h;show⟨d,r,e1,e2,rfl⟩
 ·cases h
def mB:∀(n:Nat)(x:PV),x.pl n=true->∃d,x.d=a_ d/\d.depth<=n:=by
 intro n
 induction n with
 |zero=>intro x h;cases x <;> first|exact⟨_,rfl,Uv _⟩|(simp[PV.pl]at h)
 |succ n ih=>
  intro x h;cases x with
  |tup xs=>
   let h:xs.all (PV.pl n)=true:=h;let many:∀(xs:X9 0),xs.all (PV.pl n)=true->∃ds,PV.ds xs=a_ ds/\V_ 0<=n:=by
    intro xs
    induction xs with
    |nil=>intro _;show⟨[],rfl,U5 _⟩
    |cons x xs ihx=>
     intro h;simp only[WW,UQ]at h;let⟨d,h1,h2⟩:=ih x h.1;let⟨ds,h3,h4⟩:=ihx h.2;refine⟨d::ds,DL h1 h3,?_⟩
     change max d.depth (V_ 0)<=n
     omega
   let⟨ds,h1,h2⟩:=many xs h;refine⟨.tup ds,PD h1,?_⟩
   change V_ 0+1<=n+1
   omega
  |_=>first|exact⟨_,rfl,U5 _⟩|(simp[PV.pl]at h)
def BB:∀(n:Nat)(x y:PV)(d e:D),x.pl n=true->y.pl n=true->x.d=a_ d->y.d=a_ e->eqD d e=decide (x=y):=by
 intro n
 induction n with
 |zero=>
  intro x y d e hx hy h1 h2;cases x <;> first|(simp[PV.pl]at hx;done)|skip
  all_goals cases h1
  all_goals cases y <;> first|(simp[PV.pl]at hy;done)|skip
  all_goals cases h2
  all_goals simp only[eqD]
  all_goals rw[Wc]
  all_goals simp
 |succ n ih=>
  intro x y d e hx hy h1 h2;let lists:∀(xs ys:X9 0)(ds es:x_ D),xs.all (PV.pl n)=true->ys.all (PV.pl n)=true->PV.ds xs=a_ ds->PV.ds ys=a_ es->gO ds es=decide (xs=ys):=by
   intro xs
   induction xs with
   |nil=>
    intro ys ds es _ _ h1 h2;cases h1
    cases ys with
    |nil=>cases h2;rfl
    |cons y ys=>let⟨d,r,_,_,rfl⟩:=cJ h2;simp[gO]
   |cons x xs ihx=>
    intro ys ds es hx hy h1 h2;let⟨d,r,g1,g2,rfl⟩:=cJ h1;simp only[WW,UQ]at hx;cases ys with
    |nil=>cases h2;simp[gO]
    |cons y ys=>let⟨e,q,g3,g4,rfl⟩:=cJ h2;simp only[WW,UQ]at hy;simp only[gO,ih x y d e hx.1 hy.1 g1 g3,ihx ys r q hx.2 hy.2 g2 g4];rw[Wc];simp
  cases x with
  |tup xs=>
   let⟨ds,g1,rfl⟩:=bC h1;cases y with
   |tup ys=>let⟨es,g2,rfl⟩:=bC h2;simp only[eqD,lists xs ys ds es hx hy g1 g2];rw[Wc];simp
   |non=>cases h2;simp[eqD]
   |int j=>cases h2;simp[eqD]
   |str j=>cases h2;simp[eqD]
   |_=>simp[PV.pl]at hy
  |non=>
   cases h1
   cases y with
   |tup ys=>let⟨es,g2,rfl⟩:=bC h2;simp[eqD]
   |non=>cases h2;simp[eqD]
   |int j=>cases h2;simp[eqD]
   |str j=>cases h2;simp[eqD]
   |_=>simp[PV.pl]at hy
  |int i=>
   cases h1
   cases y with
   |tup ys=>let⟨es,g2,rfl⟩:=bC h2;simp[eqD]
   |non=>cases h2;simp[eqD]
   |int j=>cases h2;simp only[eqD];rw[Wc];simp
   |str j=>cases h2;simp[eqD]
   |_=>simp[PV.pl]at hy
  |str i=>
   cases h1
   cases y with
   |tup ys=>let⟨es,g2,rfl⟩:=bC h2;simp[eqD]
   |non=>cases h2;simp[eqD]
   |int j=>cases h2;simp[eqD]
   |str j=>cases h2;simp only[eqD];rw[Wc];simp
   |_=>simp[PV.pl]at hy
  |_=>simp[PV.pl]at hx
def DM{x:PV}{y:PV}(hx:x.pl 40=true)(hy:y.pl 40=true):Ad x y h=a_ (decide (x=y)):=by let⟨d,h1,h2⟩:=mB 40 x hx;let⟨e,h3,h4⟩:=mB 40 y hy;unfold Ad;rw[h1,h3];simp only[h2,if_true,BB 40 x y d e hx hy h1 h3]
def Aj{x:PV}{y:PV}(hx:x.pl 40=true)(hy:y.pl 40=true):vEq x y h=.ok (.bl<|decide (x=y)) h:=by unfold vEq;rw[DM hx hy];rfl
def GN{x:PV}{y:PV}(hx:x.pl 40=true)(hy:y.pl 40=true):vNe x y h=.ok (.bl<|!decide (x=y)) h:=by unfold vNe;rw[DM hx hy];rfl
@[simp]theorem Qw{i j:Int}:vEq (.int i) (.int j) h=.ok (.bl<|decide (i=j)) h:=by rw[Aj rfl rfl];congr 2;simp
@[simp]theorem Qx{i j:Str}:vEq (.str i) (.str j) h=.ok (.bl<|decide (i=j)) h:=by rw[Aj rfl rfl];congr 2;simp
@[simp]theorem Qy{i j:Str}:vNe (.str i) (.str j) h=.ok (.bl<|!decide (i=j)) h:=by rw[GN rfl rfl];congr 3;simp
def pY{x:PV}(hx:x.pl 39=true)(hy:ys.all (PV.pl 39)=true):vO x ys=a_ (decide (x∈ys)):=by
 let key:∀ys:X9 0,ys.all (PV.pl 39)=true->∃ds,PV.ds ys=a_ ds/\V_ 0<=39/\∀d,x.d=a_ d->(ds.any λe=>eqD e d)=decide (x∈ys):=by
  intro ys
  induction ys with
  |nil=>intro _;show⟨[],rfl,U5 _,λ_ _=>by simp⟩
  |cons y ys ih=>
   intro h;simp only[WW,UQ]at h;let⟨e,h1,h2⟩:=mB 39 y h.1;let⟨ds,h3,h4,h5⟩:=ih h.2;refine⟨e::ds,DL h1 h3,?_,λd hd=>?_⟩
   ·change max e.depth (V_ 0)<=39
    omega
   ·rw[Xg,h5 d hd,BB 39 y x e d h.1 hx h1 hd,Wc];simp only[Bool.or_eq_true,decide_eq_true_eq,UF];constructor
    ·rintro(h|h)
     ·show .inl h.symm
     ·show .inr h
    ·rintro(h|h)
     ·show .inl h.symm
     ·show .inr h
 let⟨d,h1,h2⟩:=mB 39 x hx;let⟨ds,h3,h4,h5⟩:=key ys hy;unfold vO;rw[h1,h3];simp only[show V_ 0<=40 by omega,if_true,h5 d h1]
def DN{x:PV}(hx:x.pl 39=true)(hy:ys.all (PV.pl 39)=true):vIn x (.tup ys) h=.ok (.bl<|decide (x∈ys)) h:=by unfold vIn Af;dsimp only;rw[pY hx hy];rfl
def vS{x:PV}(hx:x.pl 39=true)(hy:ys.all (PV.pl 39)=true):iV x (.tup ys) h=.ok (.bl<|!decide (x∈ys)) h:=by unfold iV Af;dsimp only;rw[pY hx hy];rfl
def K1{x:PV}(e:h[n]?=a_ (.lst ys))(hx:x.pl 39=true)(hy:ys.all (PV.pl 39)=true):vIn x (.ref n) h=.ok (.bl<|decide (x∈ys)) h:=by
 let e3:aL h n=a_ ys:=by unfold aL;rw[e]
 unfold vIn Af;simp only[e3,pY hx hy];rfl
def CQ{x:PV}(e:h[n]?=a_ (.lst ys))(hx:x.pl 39=true)(hy:ys.all (PV.pl 39)=true):iV x (.ref n) h=.ok (.bl<|!decide (x∈ys)) h:=by
 let e3:aL h n=a_ ys:=by unfold aL;rw[e]
 unfold iV Af;simp only[e3,pY hx hy];rfl
def BC{m:Nat}(e1:h[n]?=a_ (.lst xs))(e2:h[m]?=a_ (.lst ys))(hx:xs.all (PV.pl 39)=true)(hy:ys.all (PV.pl 39)=true):Ad (.ref n) (.ref m) h=a_ (decide (xs=ys)):=by
 let e3:nN (.ref n) h=a_ xs:=by unfold nN aL;simp only[e1]
 let e4:nN (.ref m) h=a_ ys:=by unfold nN aL;simp only[e2]
 let ic:(PV.tup xs).pl 40=true:=hx;let iz:(PV.tup ys).pl 40=true:=hy;let⟨d,h1,h2⟩:=mB 40 _ ic;let⟨e,h3,h4⟩:=mB 40 _ iz;let⟨ds,g1,rfl⟩:=bC h1;let⟨es,g2,rfl⟩:=bC h3;let h5:=BB 40 _ _ _ _ ic iz h1 h3;let fe:V_ 0+1<=40:=h2;let SV:gO ds es=decide (xs=ys):=by have:gO ds es=decide (PV.tup xs=PV.tup ys):=h5;rw[this,Wc];simp
 unfold Ad;let n1:(PV.ref n).d=b_:=rfl;rw[n1];simp only[e3,e4,g1,g2,show V_ 0<=40 by omega,if_true,SV]
def Ak{m:Nat}(e1:h[n]?=a_ (.lst xs))(e2:h[m]?=a_ (.lst ys))(hx:xs.all (PV.pl 39)=true)(hy:ys.all (PV.pl 39)=true):vEq (.ref n) (.ref m) h=.ok (.bl<|decide (xs=ys)) h:=by unfold vEq;rw[BC e1 e2 hx hy];rfl
def K2{m:Nat}(e1:h[n]?=a_ (.lst xs))(e2:h[m]?=a_ (.lst ys))(hx:xs.all (PV.pl 39)=true)(hy:ys.all (PV.pl 39)=true):vNe (.ref n) (.ref m) h=.ok (.bl<|!decide (xs=ys)) h:=by unfold vNe;rw[BC e1 e2 hx hy];rfl
section
variable{α:Type}{a b c d e f g:α}{r:x_ α}
def Al{xs:x_ α}{v:α}(i:Nat)(h:xs[i]?=a_ v):atI xs (i:Int)=a_ v:=aK h
@[simp]theorem RR:atI (a::r) 0=a_ a:=Al 0 rfl
@[simp]theorem RS:atI (a::b::r) 1=a_ b:=Al 1 rfl
@[simp]theorem RT:atI (a::b::c::r) 2=a_ c:=Al 2 rfl
def K3{xs:x_ α}{i:Int}(h:xs≠[]):∃v,atI xs (i%(xs.length:Int))=a_ v/\v∈xs:=by let h0:0<xs.length:=XR.mpr h;let⟨v,h1,h2⟩:=MA (xs:=xs) (i:=i%(xs.length:Int)) (Int.emod_nonneg _ ⋯)<|Int.emod_lt_of_pos _ ⋯;show⟨v,h1,UP h2⟩
end
open PySem.SeqAt
open PySem.AutoSeq1 (wpAny_loadPart')
open PySem.MeetsSeq PySem.MeetsSeq2 PySem.MeetsSeq3
abbrev K4(A:t_)(s:r_)(v u:q_)(b:Bool):Prop:=∀(prog:vj)(w:ve)(E:f_ 0)(Q:f_ 0),Q (.bool b) s->p_ (richCompare .Lt v u) Q E s
abbrev PF(A:t_)(s:r_)(v u:q_)(d e:D):Prop:=EqAt A s v u (eqD d e)/\(eqD d e=false->∀b,ltD d e=a_ b->K4 A s v u b)
@[reducible]def yX(A:t_)(s:r_):x_ q_->x_ q_->x_ D->x_ D->Prop:=λvs us ds es=>vs.length=ds.length/\us.length=es.length/\∀(j:Nat) v u d e,vs[j]?=a_ v->us[j]?=a_ u->ds[j]?=a_ d->es[j]?=a_ e->PF A s v u d e
def yX.tail{v u:q_}{vs:x_ q_}{d e:D}{ds es:x_ D}(h:yX A s (v::vs) (u::us) (d::ds) (e::es)):PF A s v u d e/\yX A s vs us ds es:=⟨h.2.2 0 v u d e rfl rfl rfl rfl,by have:=h.1;simpa using this,by have:=h.2.1;simpa using this,λj v u d e h1 h2 h3 h4=>h.2.2 (j+1) v u d e (ke h1) (ke h2) (ke h3)<|ke h4⟩
def Am(l b:s_)(items bw:Ya 0)(n n2:Nat)(dd ki:y_ s_)(sl kh:l_ 0)(ds es:x_ D)(c:Bool)(hc:pJ ds es=a_ c):
  Meets (Builtin.«tuple.__lt__» ⟨[.ref l,.ref b],[]⟩)
   (λA R s=>s.heap.get? l=a_ {cls:=.type "tuple",dict:=dd,data:=.seq items n,slots:=sl}/\M_ 0=a_ {cls:=.type "tuple",dict:=ki,data:=.seq bw n2,slots:=kh}/\
    yX A.in1 s items.toList bw.toList ds es/\R (.ok (.ret (.bool c))) s):=
 .of_wp λprog w A R s h=>by
  let⟨hp,g,d,tk,os⟩:=s;let⟨hl,hb,hit,h⟩:=h;let f2:=AutoSeq1.sub_tuple_tuple;let z1:items.size=ds.length:=by rw[<-hit.1];simp
  let z2:bw.size=es.length:=by rw[<-hit.2.1];simp
  wp_walk using wpAny_loadPart' hl,wpAny_loadPart' hb,wpAny_forIn_list _ (λrest b s'=>b.1=b_/\s'=⟨hp,g,d,tk,os⟩/\∃(vs ws:x_ q_)(jv iy:x_ D),rest=vs.zip ws/\
   yX A.in1 ⟨hp,g,d,tk,os⟩ vs ws jv iy/\jv.length+bw.size=iy.length+items.size/\pJ jv iy=a_ c) _
  case turn=>
   rintro⟨y,x⟩ rest b s' ⟨hb',rfl,vs,ws,jv,iy,hz,hvi,hlen,hR⟩;cases vs with
   |nil=>rw[List.zip_nil_left]at hz;cases hz
   |cons v vs=>
    cases ws with
    |nil=>rw[List.zip_nil_right]at hz;cases hz
    |cons u ws=>
     rw[Xs]at hz;injection hz with hyx hrest;injection hyx with hy hx;subst hy hx;cases jv with
     |nil=>have:=hvi.1;simp at this
     |cons a jv=>
      cases iy with
      |nil=>have:=hvi.2.1;simp at this
      |cons e iy=>
       let⟨⟨h1,h2⟩,ht⟩:=yX.tail hvi;simp only[VA]at hlen;simp only[pJ]at hR;refine SB<|h1 prog w _ _ ?_;cases q:eqD a e with
       |true=>
        rw[q,X2 0]at hR
        wp_walk
        show⟨rfl,rfl,_,_,_,_,hrest,ht,⋯,hR⟩
       |false=>
        rw[q,if_neg UH]at hR;let SR:=h2 q c hR prog w
        wp_walk using SR
        show⟨_,rfl,ke h⟩
  case fin=>
   rintro⟨b1,b2⟩ s' ⟨hb',rfl,vs,ws,jv,iy,hz,hvi,hlen,hR⟩;simp only at hb';subst hb';let hv:c=decide (items.size<bw.size):=by
    cases jv with
    |nil=>
     cases iy with
     |nil=>
      simp only[List.length_nil]at hlen;simp only[pJ]at hR;cases hR
      show(decide_eq_false ⋯).symm
     |cons e iy=>
      simp only[List.length_nil,VA]at hlen;simp only[pJ]at hR;cases hR
      show(decide_eq_true ⋯).symm
    |cons a jv=>
     cases iy with
     |nil=>
      simp only[List.length_nil,VA]at hlen;simp only[pJ]at hR;cases hR
      show(decide_eq_false ⋯).symm
     |cons e iy=>
      exfalso;cases vs with
      |nil=>have:=hvi.1;simp at this
      |cons v vs=>
       cases ws with
       |nil=>have:=hvi.2.1;simp at this
       |cons u ws=>rw[Xs]at hz;cases hz
   rw[hv]at h
   wp_walk
   show⟨_,rfl,by simpa[Builtin.Tuple.tupleCompareSizes] using h⟩
  case h=>exact⟨rfl,rfl,items.toList,bw.toList,ds,es,rfl,hit,⋯,hc⟩
variable{C:MC}{k:Nat}{X:Cx}
abbrev Rv(x y:PV):y_ Bool:=match x.d,y.d with
 |some d,a_ e=>if d.depth<=40 then ltD d e else b_
 |_,_=>b_
abbrev RN:PV->PV->PH->Rs PV:=λx y h=>match x,y with
 |.tup xs,.tup ys=>ofB (Rv (.tup xs)<|.tup ys) h
 |x,y=>vLt x y h
abbrev ltL(f:PV->PV->y_ Bool):X9 0->X9 0->y_ Bool
 |[],[]=>a_ false
 |[],_::_=>a_ true
 |_::_,[]=>a_ false
 |x::xs,y::ys=>if x=y then ltL f xs ys else f x y
abbrev ltP:Nat->PV->PV->y_ Bool
 |_,.int a,.int b=>a_ (decide (a<b))
 |_,.str a,.str b=>a_ (decide (a.cps.toList<b.cps.toList))
 |n+1,.tup xs,.tup ys=>ltL (ltP n) xs ys
 |_,_,_=>b_
def Lx:∀(n:Nat)(x y:PV)(d e:D),x.pl n=true->y.pl n=true->x.d=a_ d->y.d=a_ e->ltD d e=ltP n x y:=by
 intro n
 induction n with
 |zero=>
  intro x y d e hx hy h1 h2;cases x <;> first|(simp[PV.pl]at hx;done)|skip
  all_goals cases h1
  all_goals cases y <;> first|(simp[PV.pl]at hy;done)|skip
  all_goals cases h2
  all_goals simp[ltD,ltP]
 |succ n ih=>
  intro x y d e hx hy h1 h2;let lists:∀(xs ys:X9 0)(ds es:x_ D),xs.all (PV.pl n)=true->ys.all (PV.pl n)=true->PV.ds xs=a_ ds->PV.ds ys=a_ es->pJ ds es=ltL (ltP n) xs ys:=by
   intro xs
   induction xs with
   |nil=>
    intro ys ds es _ _ h1 h2;cases h1
    cases ys with
    |nil=>cases h2;simp[pJ,ltL]
    |cons y ys=>let⟨d,r,_,_,rfl⟩:=cJ h2;simp[pJ,ltL]
   |cons x xs ihx=>
    intro ys ds es hx hy h1 h2;let⟨d,r,g1,g2,rfl⟩:=cJ h1;simp only[WW,UQ]at hx;cases ys with
    |nil=>cases h2;simp[pJ,ltL]
    |cons y ys=>let⟨e,q,g3,g4,rfl⟩:=cJ h2;simp only[WW,UQ]at hy;simp only[pJ,ltL,BB n x y d e hx.1 hy.1 g1 g3,ihx ys r q hx.2 hy.2 g2 g4,ih x y d e hx.1 hy.1 g1 g3,decide_eq_true_eq]
  cases x with
  |tup xs=>
   let⟨ds,g1,rfl⟩:=bC h1;cases y with
   |tup ys=>let⟨es,g2,rfl⟩:=bC h2;simp only[ltD,lists xs ys ds es hx hy g1 g2,ltP]
   |non=>cases h2;simp[ltD,ltP]
   |int j=>cases h2;simp[ltD,ltP]
   |str j=>cases h2;simp[ltD,ltP]
   |_=>simp[PV.pl]at hy
  |non=>cases h1;cases y <;> first|(simp[PV.pl]at hy;done)|(let⟨es,g2,rfl⟩:=bC h2;simp[ltD,ltP];done)|(cases h2;simp[ltD,ltP])
  |int i=>cases h1;cases y <;> first|(simp[PV.pl]at hy;done)|(let⟨es,g2,rfl⟩:=bC h2;simp[ltD,ltP];done)|(cases h2;simp[ltD,ltP])
  |str i=>cases h1;cases y <;> first|(simp[PV.pl]at hy;done)|(let⟨es,g2,rfl⟩:=bC h2;simp[ltD,ltP];done)|(cases h2;simp[ltD,ltP])
  |_=>simp[PV.pl]at hx
variable{C:MC}{k:Nat}{X:Cx}
def F1:X7 X->dJ X (.builtin "sum") (λxs H Q=>∃(p:s_)(ns:x_ Int),xs=[.ref p]/\SqL C.K H p (ns.map V.int)/\Q (.int ns.sum) H):=λc=>by
 intro td s σ H xs us Q I r h;let⟨p,ns,rfl,hq,q⟩:=h;let⟨u,rfl,ru⟩:=vals1 r;cases ru
 rw[<-c.K]at hq;let⟨its,rv,pl,hz⟩:=I.list hq;let hi:IntsAre its ns:=intsAre_of rv;let⟨ys,hy⟩:=hi.allInts.items;let hl:=pl.isList;rw[hy]at hl;refine sum_intListG (I.ok.hd c.calm) hl λh' tk t' hk=>?_;let e:preSum (numAt ys) ys.size=ns.sum:=by let e1:=preSum_eq ys ys.size;rw[List.take_of_length_le<|by simp]at e1;rw[e1,<-nums_intItems,<-hy];have:=hi.numsOf;rw[show its.toArray.toList=its from rfl,this]
 rw[e];show⟨.int ns.sum,H,I.kept hk,⟨_,rfl⟩,q⟩
abbrev yY:X9 0->y_ (x_ Int)
 |[]=>a_ []
 |.int i::r=>(yY r).map (i::·)
 |_::_=>b_
def DP{φ:x_ s_}{H:Hp}:∀{xs:X9 0}{vs:x_ V}{ns:x_ Int},C_ xs vs->yY xs=a_ ns->vs=ns.map V.int
 |[],[],_,_,e=>by cases e;rfl
 |x::xs,v::vs,ns,⟨h,r⟩,e=>by
  cases x with
  |int i=>
   cases h
   simp only[yY,UI]at e;let⟨m,e,rfl⟩:=e;rw[DP r e];rfl
  |_=>cases e
 |[],_::_,_,h,_=>h.elim
 |_::_,[],_,h,_=>h.elim
def F2(ns:x_ Int):yY (Ye 0)=a_ ns:=by
 induction ns with
 |nil=>rfl
 |cons n ns ih=>simp[yY,ih]
abbrev BD:X9 0->PH->Rs PV:=λxs h=>match xs with
 |[x]=>match nN x h with
  |some ys=>match yY ys with
   |some ns=>.ok (.int ns.sum) h
   |none=>.bad
  |none=>.bad
 |_=>.bad
set_option tactic.hygienic true in
def PJ:lX C k X (.builtin "sum") BD:=λc=>(F1 c).imp λvs H Q h=>by
 let⟨φ,h,ps,rh,rv,po⟩:=h;unfold BD at po;split at po
 ·let⟨v,rfl,rx⟩:=rv.one;split at po
  ·rename_i ys e;split at po
   ·rename_i ns en;let⟨a,vs,rfl,sa,ra⟩:=vL rh rx e;rw[DP ra en]at sa;show⟨a,ns,rfl,sa,K_ rfl⟩
   ·show po.elim
  ·show po.elim
 ·show po.elim
def vT(e:h[n]?=a_ (.lst<|Ye 0)):BD [.ref n] h=.ok (.int ns.sum) h:=by
 let e1:nN (.ref n) h=a_ (Ye 0):=by unfold nN aL;simp only[e]
 unfold BD;simp only[e1,F2]
open PySem
@[simp]theorem Qz{z:Str}(c:z.length<=16777216):vSl (.str z) lo hi h=.ok (.str<|Txt.slice z lo hi) h:=if_pos c
@[simp]theorem Rw:vSl (.fl xs) lo hi h=.ok (.ref h.length) (h++[.lst<|cR xs lo hi]):=(rfl)
def An(e:h[n]?=a_ (.lst xs)):vSl (.ref n) lo hi h=.ok (.ref h.length) (h++[.lst<|cR xs lo hi]):=by
 let e3:aL h n=a_ xs:=by unfold aL;rw[e]
 unfold vSl;simp only[e3]
@[simp]theorem N'{x:PV}:hV x .non h=.ok (.bl<|!vQ x) h:=(rfl)
def DQ{d:Nat}{i:Int}(h0:0<=i):HT.sIx n d (a_ i)=min i.toNat n:=by
 change(if i<0 then(i+(n:Int)).toNat else min i.toNat n)=_
 rw[if_neg ⋯]
section
variable{tg:Mg}{g:PH->Bool}
def DR{δ0:Ev}{Q:PV->PH->Prop}(I:Nat->PH->Prop):∀(xs:X9 0)(k:Nat)(h:PH),I k h->
  (∀i x h,k<=i->xs[i-k]?=a_ x->I i h->g h=true/\∃δ1,tg x δ0=a_ δ1/\(tst δ1 h).W λb h'=>if b=true then(elt δ1 h').W λp ia=>∃ys,ia[n]?=a_ (.lst ys)/\ys.length<16777216/\I (i+1) (ia.set n<|.lst<|ys++[p]) else I (i+1) h')->
  (∀h,I (k+xs.length) h->g h=true/\Q (.ref n) h)->(lI g tg tst elt δ0 n xs h).W Q
 |[],k,h,i0,_,fin=>by let⟨h1,h2⟩:=fin h i0;simp[lI,h1,h2]
 |x::xs,k,h,i0,step,fin=>by
  let⟨h1,δ1,h2,h3⟩:=step k x h (Uv _) (by simp) i0;let go:∀h2,I (k+1) h2->(lI g tg tst elt δ0 n xs h2).W Q:=λh2 i2=>
   DR I xs (k+1) h2 i2 (λi y h hk hy=>step i y h ⋯ (by
    have:i-k=(i-(k+1))+1:=⋯;rw[this,VN];show hy)) (λh hi=>fin h (by
    let e:k+(x::xs).length=k+1+xs.length:=by simp;omega
    rw[e];show hi))
  unfold lI;rw[if_pos h1,h2]
  change(Rs.bind (tst δ1 h) _).W Q
  rw[Ah];refine GF h3 λb h' hb=>?_;cases b with
  |false=>exact go h'<|ke hb
  |true=>
   change(Rs.bind (elt δ1 h') _).W Q
   rw[Ah];refine GF (show(elt δ1 h').W _ from by simpa using hb) λp ia hp=>?_
   let⟨ys,e,hz,hi⟩:=hp;let e':dM ia n=a_ ys:=by unfold dM;rw[e]
   simp[e',hz];show go _ hi
def yZ{α:Type}{ys:x_ α}{emb:α->PV}(f:α->y_ PV)(e:mi δ h=.ok ⟨ys.map emb,g⟩ h1)(hg:∀h,Ext h1 h->g h=true)(hz:ys.length<=16777216)(step:∀y∈ys,∃δ1,tg (emb y) (gP js δ)=a_ δ1/\∀h,Ext h1 h->match f y with
   |none=>tst δ1 h=.ok false h
   |some p=>tst δ1 h=.ok true h/\elt δ1 h=.ok p h):bZ js mi tg tst elt δ h=.ok (.ref h1.length) (h1++[.lst (ys.filterMap f)]):=by
 let w:(bZ js mi tg tst elt δ h).W λp h'=>p=.ref h1.length/\h'=h1++[.lst<|ys.filterMap f]:=by
  unfold bZ;rw[e,Rs.bind_ok];refine DR (λi h'=>h'=h1++[.lst<|(ys.take i).filterMap f]) (ys.map emb) 0 _ (by simp) (λi x h' _ hx hi=>?_)<|λh' hi=>?_
  ·subst hi;let hx:(ys.map emb)[i]?=a_ x:=by simpa using hx
   rw[UD]at hx;let⟨y,hy,rfl⟩:=UI.mp hx;let hil:=(SC.mp hy).1;let⟨δ1,ht,hs⟩:=step y<|UP hy;let hs:=hs (h1++[.lst<|(ys.take i).filterMap f])<|z_ _;let htk:ys.take (i+1)=ys.take i++[y]:=by rw[V5,hy];rfl
   refine⟨hg _<|z_ _,δ1,ht,?_⟩;cases ef:f y with
   |none=>rw[ef]at hs;rw[hs];simp[htk,ef]
   |some p=>rw[ef]at hs;rw[hs.1];simp[hs.2];refine⟨?_,by simp[htk,ef]⟩;have:=List.length_filterMap_le f<|ys.take i;rw[VE]at this;omega
  ·subst hi;simp;show hg _<|z_ _
 let⟨p,h',e,rfl,rfl⟩:=iW w;show e
def GO(e:m δ h=.ok (.ref n) h1)(hn:h1[n]?=a_ (.lst xs)):aR m δ h=.ok ⟨xs,vR n xs⟩ h1:=by
 unfold aR;let e3:aL h1 n=a_ xs:=by unfold aL;rw[hn]
 rw[e,Rs.bind_ok];unfold ofSeq;simp only[e3]
def GP(hn:h1[n]?=a_ (.lst xs)):∀h,Ext h1 h->vR n xs h=true:=λh hx=>by
 let e3:aL h n=a_ xs:=by unfold aL;rw[hx _ _ hn]
 unfold vR;rw[e3];show PV.beqs_self xs
def GQ(e:m δ h=.ok (.tup xs) h1):aR m δ h=.ok ⟨xs,λ_=>true⟩ h1:=by unfold aR;rw[e];rfl
def eZ{α:Type}{ys:x_ α}{emb:α->PV}(f:α->y_ PV)(e:m δ h=.ok (.ref n) h1)(hn:h1[n]?=a_ (.lst (ys.map emb)))(hz:ys.length<=16777216)(step:∀y∈ys,∃δ1,tg (emb y) (gP js δ)=a_ δ1/\∀h,Ext h1 h->match f y with
   |none=>tst δ1 h=.ok false h
   |some p=>tst δ1 h=.ok true h/\elt δ1 h=.ok p h):bZ js (aR m) tg tst elt δ h=.ok (.ref h1.length) (h1++[.lst (ys.filterMap f)]):=
 yZ f (GO e hn) (GP hn) hz step
def zA{α:Type}{ys:x_ α}{emb:α->PV}(f:α->y_ PV)(e:m δ h=.ok (.tup (ys.map emb)) h1)(hz:ys.length<=16777216)(step:∀y∈ys,∃δ1,tg (emb y) (gP js δ)=a_ δ1/\∀h,Ext h1 h->match f y with
   |none=>tst δ1 h=.ok false h
   |some p=>tst δ1 h=.ok true h/\elt δ1 h=.ok p h):bZ js (aR m) tg tst elt δ h=.ok (.ref h1.length) (h1++[.lst (ys.filterMap f)]):=
 yZ f (GQ e) (λ_ _=>rfl) hz step
def filterMap_some{α β:Type}(f:α->β)(xs:x_ α):xs.filterMap (λx=>a_<|f x)=xs.map f:=by
 induction xs with
 |nil=>rfl
 |cons x xs ih=>simp[ih]
end
mutual
theorem GR(I:H_ s)(hK:X.K=C.K):∀(n:Nat){p:PV}{v:V}{u:q_},p.ky n=true->j_ p v->RelV v u->HR s.heap p u
 |_,.int i,v,u,_,r,ru=>by cases r;show ru
 |_,.str i,v,u,_,r,ru=>by cases r;show ru
 |n+1,.tup ps,v,u,hk,r,ru=>by
  let⟨a,vs,rfl,q,rs⟩:=r;cases ru
  rw[<-hK]at q;let⟨its,rv,p,_⟩:=I.tuple q;show⟨a,its,rfl,p,Ao I hK n (UK.mp hk) rs rv⟩
 |0,.tup _,_,_,hk,_,_=>by cases hk
 |n,.non,_,_,hk,_,_=>by cases n <;> cases hk
 |n,.bl _,_,_,hk,_,_=>by cases n <;> cases hk
 |n,.ref _,_,_,hk,_,_=>by cases n <;> cases hk
 |n,.ty _,_,_,hk,_,_=>by cases n <;> cases hk
 |n,.fl _,_,_,hk,_,_=>by cases n <;> cases hk
theorem Ao(I:H_ s)(hK:X.K=C.K):∀(n:Nat){ps:X9 0}{vs:x_ V}{us:x_ q_},(∀p∈ps,p.ky n=true)->C_ ps vs->aJ vs us->HRs s.heap ps us
 |_,[],[],us,_,_,ru=>by cases ru;trivial
 |n,p::ps,v::vs,us,hk,r,ru=>by
  cases ru with
  |cons h t=>exact⟨GR I hK n (hk p Uy) r.1 h,Ao I hK n (λq hq=>hk q (Uw _ hq)) r.2 t⟩
 |_,[],_::_,_,_,r,_=>r.elim
 |_,_::_,[],_,_,r,_=>r.elim
end
@[reducible]def xV:x_ (PV×s_×V)->x_ (PV×s_×q_)->Prop:=Paired λp q=>p.1=q.1/\p.2.1=q.2.1/\RelV p.2.2 q.2.2
abbrev HD(C:MC)(φ:x_ s_)(H:Hp)(X:Cx)(s:r_)(a:s_)(kvs:x_ (PV×PV)):Prop:=
 ∃ks xs,RKd C φ H kvs ks/\xV ks xs/\xs.length<=UG/\(a == VM)=false/\s.heap.DictOfH (pS X.prog X.w) a xs
abbrev bJ(h:PH)(n:Nat):y_ (x_<|PV×PV):=match h[n]? with
 |some (.dD kvs)=>a_ kvs
 |some (.dK [])=>a_ []
 |_=>b_
abbrev PV.isKt:PV->Bool
 |.tup xs=>(PV.tup xs).ky 6
 |_=>false
def Ap(h:p.isKt=true):p.ky 6=true:=by cases p <;> first|exact h|cases h
def iN(h:p.isKt=true)(r:j_ p v):∃b,v=.ref b:=by cases p <;> first|(let⟨b,_,e,_⟩:=r;show⟨b,e⟩)|cases h
variable{kvs:x_ (PV×PV)}
set_option tactic.hygienic true in
def nO(I:H_ s)(hK:X.K=C.K)(hw:X.w=C.w)(rh:FR h)(ha:φ[n]?=a_ a)(e:bJ h n=a_ kvs):HD C φ H X s a kvs/\Mut (H a)/\tH (H a):=by
 unfold bJ at e;split at e
 ·rename_i kv hk;cases e
  let⟨ks,hH,r⟩:=Yb hk;let hO:Yj H s.heap a (dDO C.w a ks):=I.hok a _ hH;let⟨⟨hz,hm,xs,rx,o,es,ep,h1,h2,h3,h4,h5⟩,_⟩:=hO;refine⟨⟨ks,xs,r,rx,by rw[<-Ve rx];show hz,hm,o,es,ep,h1,h2,h3,?_,?_,h5⟩,by rw[hH];show Wl,by rw[hH];show Wl⟩
  ·rw[h4,<-hw];rfl
  ·let all:∀{l:x_ (PV×PV)}{m:x_ (PV×s_×V)}{z:x_ (PV×s_×q_)},RKd C φ H l m->xV m z->∀x∈z,(pS X.prog X.w).is s.heap x.1 x.2.1:=by
    intro l m z q;unfold RKd at q
    induction q generalizing z with
    |nil=>intro rz x hx;cases rz;cases hx
    |cons hq t ih=>
     intro rz x hx;cases rz with
     |cons hz' tz=>
      rcases UF.mp hx with e|hx
      ·subst e;refine⟨?_,?_⟩
       ·rw[<-hz'.1,<-hq.1];show hq.2.1
       ·rw[<-hz'.1,<-hq.1,<-hz'.2.1];show GR I hK 6 hq.2.1 hq.2.2.1 rfl
      ·show ih tz x hx
   show all r rx
 ·rename_i hk;cases e
  let⟨ks,hH,r⟩:=Yb hk;have:ks=[]:=by cases r;rfl
  subst this;let⟨z,hd,vs,rel,o,es,ep,h1,h2,h3,h4,h5,h6⟩:=Be I.hok hH;have:vs=[]:=by cases rel;rfl
  subst this;refine⟨⟨[],[],.nil,.nil,U5 _,hd,o,es,ep,h1,h2,h3,?_,(λx hx=>nomatch hx),List.nodup_nil⟩,by rw[hH];show Wl,by rw[hH];show Wl⟩;cases he:es.toList with
  |nil=>rfl
  |cons y ys=>rw[he]at h5;cases h5
 ·cases e
variable{ks:x_ (PV×s_×V)}
def HD.val{a:s_}{xs:x_ (PV×s_×q_)}(r:RKd C φ H kvs ks)(rx:xV ks xs)(k:PV):match aP kvs k,(atKey xs k).map (·.2) with
  |some p,a_ u=>∃v,RelV v u/\j_ p v
  |none,b_=>True
  |_,_=>False:=by
 unfold RKd at r
 induction r generalizing xs with
 |nil=>cases rx;trivial
 | @cons p q ps qs h t ih=>
  cases rx with
  | @cons q' x qs' xs' hx tx=>
   let⟨pk,pv⟩:=p;by_cases e:pk=k
   ·let e':x.1=k:=hx.1.symm.trans<|h.1.symm.trans e;let b:atKey (x::xs') k=a_ x.2:=by simp[atKey,Wt,e']
    rw[b];unfold aP;rw[if_pos e];show⟨_,hx.2.2,h.2.2.2⟩
   ·let e':¬ x.1=k:=λz=>e<|h.1.trans<|hx.1.trans z;let b:atKey (x::xs') k=atKey xs' k:=by simp[atKey,Wt,e']
    rw[b];unfold aP;rw[if_neg e];show ih tx
abbrev iY{κ:Type}[Yv 0](kvs:x_ (κ×PV))(k:κ)(p:PV):x_ (κ×PV):=if(aP kvs k).isSome then kvs.map (λkv=>if kv.1=k then(kv.1,p) else kv) else kvs++[(k,p)]
def HD.replace{a:s_}{xs:x_ (PV×s_×q_)}(r:RKd C φ H kvs ks)(rx:xV ks xs)(k:PV){u:q_}(rp:j_ p v)(ru:RelV v u):
  ∃bx,RKd C φ H (kvs.map λkv=>if kv.1=k then(kv.1,p) else kv) bx/\xV bx (xs.map<|putAt k u):=by
 unfold RKd at r
 induction r generalizing xs with
 |nil=>cases rx;show⟨[],.nil,.nil⟩
 | @cons pp q ps qs h t ih=>
  cases rx with
  | @cons q' x qs' xs' hx tx=>
   let⟨bx,r1,r2⟩:=ih tx;by_cases e:pp.1=k
   ·refine⟨(q.1,q.2.1,v)::bx,.cons ?_ r1,.cons ?_ r2⟩
    ·simp only[if_pos e];show⟨h.1,h.2.1,h.2.2.1,rp⟩
    ·unfold putAt;rw[if_pos<|hx.1.symm.trans<|h.1.symm.trans e];show⟨hx.1,hx.2.1,ru⟩
   ·refine⟨q::bx,.cons ?_ r1,.cons ?_ r2⟩
    ·simp only[if_neg e];show h
    ·unfold putAt;rw[if_neg λz=>e<|h.1.trans<|hx.1.trans z];show hx
def HD.put{a b:s_}{xs:x_ (PV×s_×q_)}(r:RKd C φ H kvs ks)(rx:xV ks xs){k:PV}(hk:k.ky 6=true)(rk:j_ k (.ref b)){u:q_}(rp:j_ p v)(ru:RelV v u):
  ∃bx,RKd C φ H (iY kvs k p) bx/\xV bx (storedH xs k b u):=by
 let hv:=HD.val (a:=b) r rx k;unfold iY storedH;cases e1:aP kvs k with
 |some p0=>
  rw[e1]at hv;cases e2:atKey xs k with
  |none=>rw[e2]at hv;show hv.elim
  |some z=>exact HD.replace (a:=b) r rx k rp ru
 |none=>
  rw[e1]at hv;cases e2:atKey xs k with
  |some z=>rw[e2]at hv;show hv.elim
  |none=>exact⟨ks++[(k,b,v)],Paired.snoc r ⟨rfl,hk,rk,rp⟩,Paired.snoc rx ⟨rfl,rfl,ru⟩⟩
def HD.isSome{xs:x_ (PV×s_×q_)}(r:RKd C φ H kvs ks)(rx:xV ks xs)(k:PV):(atKey xs k).isSome=(aP kvs k).isSome:=by
 let hv:=HD.val (a:=0) r rx k;cases e1:aP kvs k with
 |some p0=>
  rw[e1]at hv;cases e2:atKey xs k with
  |none=>rw[e2]at hv;show hv.elim
  |some z=>rfl
 |none=>
  rw[e1]at hv;cases e2:atKey xs k with
  |some z=>rw[e2]at hv;show hv.elim
  |none=>rfl
def pZ(I:H_ s)(hK:X.K=C.K){b:s_}(hk:p.isKt=true)(r:j_ p (.ref b)):(pS X.prog X.w).is s.heap p b:=⟨Ap hk,GR I hK 6 (Ap hk) r rfl⟩
def Cxt.room6{k:Nat}(c:X7 X):(pS X.prog X.w).room X.A.in1:=by
 have:=c.hu64
 change X.A.units+1+6<cLine
 omega
abbrev eW(x y:PV)(h:PH):y_ (y_ PV):=match y with
 |.ref n=>if x.isKt=true then(bJ h n).map λkvs=>aP kvs x else b_
 |_=>b_
abbrev BE(C:MC):V->V->Hp->(x_ s_->y_ PV->Prop)->Prop:=λx y H R=>∃φ h p n a kvs,FR h/\j_ p x/\y=.ref a/\φ[n]?=a_ a/\bJ h n=a_ kvs/\p.isKt=true/\R φ (aP kvs p)
def kE{q:PV}{x:V}{o:y_ PV}{R:x_ s_->y_ PV->Prop}(rh:FR h)(rx:j_ p x)(ry:j_ q y)(e:eW p q h=a_ o)(r:R φ o):BE C x y H R:=by
 unfold eW at e;cases q with
 |ref n=>
  let⟨a,rfl,ha⟩:=ry;dsimp only at e;split at e
  ·rename_i hk;cases e1:bJ h n with
   |none=>rw[e1]at e;cases e
   |some kvs=>rw[e1]at e;cases e;show⟨φ,h,p,n,a,kvs,rh,rx,rfl,ha,e1,hk,r⟩
  ·cases e
 |_=>cases e
def K5{k:Nat}(c:X7 X):Yg (Vc .In) (λx y H Q=>BE C x y H λ_ o=>Q (.bl o.isSome) H):=λtd s σ H x y v u Q I rx ry h=>by
 let⟨φ,h,p,n,a,kvs,rh,rp,rfl,ha,ht,hk,q⟩:=h;cases ry
 let⟨b,rfl⟩:=iN hk rp;cases rx
 let⟨⟨ks,xs,r,cg,hz,hm,dd⟩,_⟩:=Yu 0;refine wpAny_in_heap c.room6 (pZ I c.K hk rp) hm dd ?_;rw[HD.isSome r cg p];show⟨.bl _,H,I.tok _,rfl,q⟩
def CS{k:Nat}(c:X7 X):Yg (Vc .NotIn) (λx y H Q=>BE C x y H λ_ o=>Q (.bl<|!o.isSome) H):=λtd s σ H x y v u Q I rx ry h=>by
 let⟨φ,h,p,n,a,kvs,rh,rp,rfl,ha,ht,hk,q⟩:=h;cases ry
 let⟨b,rfl⟩:=iN hk rp;cases rx
 let⟨⟨ks,xs,r,cg,hz,hm,dd⟩,_⟩:=Yu 0;refine wpAny_notIn_heap c.room6 (pZ I c.K hk rp) hm dd ?_;rw[HD.isSome r cg p];show⟨.bl _,H,I.tok _,rfl,q⟩
abbrev kF:PV->PV->PH->Rs PV:=λx y h=>match eW x y h with
 |some o=>.ok (.bl o.isSome) h
 |none=>vIn x y h
abbrev bD:PV->PV->PH->Rs PV:=λx y h=>match eW x y h with
 |some o=>.ok (.bl<|!o.isSome) h
 |none=>iV x y h
def PK{k:Nat}:Yq (Vc .In) kF:=λc=>((Re c).or<|K5 c).imp λx y H Q h=>by
 let⟨φ,h,p,q,rh,rx,ry,po⟩:=h;unfold kF at po;cases e:eW p q h with
 |none=>rw[e]at po;show .inl ⟨φ,h,p,q,rh,rx,ry,po⟩
 |some o=>rw[e]at po;show .inr<|kE rh rx ry e<|K_ rfl
def GS{k:Nat}:Yq (Vc .NotIn) bD:=λc=>((JR c).or<|CS c).imp λx y H Q h=>by
 let⟨φ,h,p,q,rh,rx,ry,po⟩:=h;unfold bD at po;cases e:eW p q h with
 |none=>rw[e]at po;show .inl ⟨φ,h,p,q,rh,rx,ry,po⟩
 |some o=>rw[e]at po;show .inr<|kE rh rx ry e<|K_ rfl
def Rx{k:Nat}(c:X7 X):IxR X (λx y H Q=>BE C y x H λφ o=>∃p,o=a_ p/\∀v:V,j_ p v->Q v H):=by
 intro value slice td s σ H x y v u Q I rx ry h hs;let⟨φ,h,p,n,a,kvs,rh,rp,rfl,ha,ht,hk,p',ep,q⟩:=h;cases rx
 let⟨b,rfl⟩:=iN hk rp;cases ry
 let⟨⟨ks,xs,r,cg,hz,hm,dd⟩,_⟩:=Yu 0;let hT:=dd.typeIs;let hv:=HD.val (a:=a) r cg p;rw[ep]at hv;cases e2:atKey xs p with
 |none=>rw[e2]at hv;show hv.elim
 |some z=>
  rw[e2]at hv;let⟨v',ae,bq⟩:=hv;unfold subscriptTail;refine SB ?_;rw[getitemInPython_of_ne hT.not_modules];refine SB<|wpAny_specialOf hT PySem.F.slot_dict_getitem.lookup ?_;let fin:wpAny (g_ X) X.A (subscripted slice false (.ref a)<|.ref b) (λr s₃=>wpAny (g_ X) X.A (letTemporaryGo value (.ref a) r >>= λ_=>pure r) (X3 Q) X.xe s₃) X.xe s:=by rw[hs];show wpAny_operating<|wpAny_getItem_heap c.room6 (pZ I c.K hk rp) dd e2<|SB<|wpAny_letTemporaryGo<|SL ⟨v',H,I.tok _,ae,q v' bq⟩
  first
   |exact SL (SB fin)
   |exact SB (SL<|SB fin)
   |exact SB fin
abbrev vAt:PV->PV->PH->Rs PV:=λx y h=>match eW y x h with
 |some (a_ p)=>.ok p h
 |some b_=>.bad
 |none=>vIx x y h
def Ry{k:Nat}{a b:v_}(ha:D_ a ma)(hb:D_ b mb)(hs:Dx b:=by intro _ _;rfl):D_ (.Subscript a b pos) (i_ ma mb):=λc=>
 (Ou ((ixC c.hu C.K c.K).or<|Rx c) (ha c) (hb c) hs).imp λσ H Q h=>by
  let⟨φ,δ,h,rh,re,p⟩:=DE h;refine⟨φ,δ,h,rh,re,p.imp ?_⟩;rintro v H1 ⟨φ,δ,h,rh,re,p⟩;refine⟨φ,δ,h,rh,re,p.imp ?_⟩;rintro u H2 ⟨φ,h,p,q,rh,rx,ry,po⟩;unfold vAt at po;cases e:eW q p h with
  |none=>rw[e]at po;show .inl<|P9 ⟨φ,h,p,q,rh,rx,ry,po⟩
  |some o=>
   rw[e]at po;cases o with
   |none=>exact po.elim
   |some r=>exact .inr<|kE rh ry rx e ⟨r,rfl,λv' rv=>K_ rv⟩
abbrev lR(x y v:PV)(h:PH):y_ PH:=match x with
 |.ref n=>match vN y,h[n]? with
  |some key,a_ (.dK kvs)=>if kvs.length<UG then a_ (Yr<|.dK<|iY kvs key v) else b_
  |some _,_=>b_
  |none,_=>if y.isKt=true then(match bJ h n with
   |some kvs=>if kvs.length<UG then a_ (Yr<|.dD<|iY kvs y v) else b_
   |none=>b_) else b_
 |_=>b_
def CT{κ:Type}[Yv 0]{kvs:x_ (κ×PV)}{ks:x_ (κ×V)}(r:RKv C φ H kvs ks)(a:κ):(aP kvs a).isSome=(lP ks a).isSome:=by
 have:=yU r a;cases e1:aP kvs a with
 |none=>
  cases e2:lP ks a with
  |none=>rfl
  |some v=>rw[e1,e2]at this;show this.elim
 |some p=>
  cases e2:lP ks a with
  |none=>rw[e1,e2]at this;show this.elim
  |some v=>rfl
def GT{κ:Type}[Yv 0]{kvs:x_ (κ×PV)}{ks:x_ (κ×V)}(r:RKv C φ H kvs ks)(a:κ)(rp:j_ p v):RKv C φ H (iY kvs a p) (putK ks a v):=by
 unfold iY putK;rw[uV,CT r a];split
 ·rename_i hx;clear hx;unfold RKv at r⊢
  induction r with
  |nil=>exact .nil
  | @cons p' q' ps qs h t ih=>
   refine .cons ?_ ih;by_cases e:p'.1=a
   ·let e':q'.1=a:=h.1.symm.trans e;simp only[if_pos e,if_pos e'];show⟨h.1,rp⟩
   ·let e':¬ q'.1=a:=λz=>e<|h.1.trans z;simp only[if_neg e,if_neg e'];show h
 ·show Paired.snoc r ⟨rfl,rp⟩
variable{px py:PV}{xu yu:q_}
set_option tactic.hygienic true in
def rJ{k:Nat}{h':PH}{pv:PV}{x:V}(c:X7 X)(rh:FR h)(rx:j_ px x)(ry:j_ py y)(rv:j_ pv v)(e:lR px py pv h=a_ h'){Q:jn Unit}(I:H_ s)(jd:RelV x xu)(cj:RelV y yu)(jg:RelV v vu)(q:∀s' H',h_ H' s'->Kp H H'->RH C φ H' h'->Q () s'):wpAny (g_ X) X.A (setItem xu yu vu) Q X.xe s:=by
 unfold lR at e;cases px with
 |ref n=>
  let⟨a,rfl,ha⟩:=rx;cases jd
  dsimp only at e;split at e
  ·rename_i key kvs ba hk;split at e
   ·rename_i hl;cases e
    let⟨ks,hH,rk⟩:=Yb hk;let ey:y=kV key:=Gu ry ba;subst ey;let j9:ks.length<UG:=by rw[<-Ve rk];show hl
    refine EA c.hu I (.k hH j9) cj jg λs' I'=>q s' _ I' (Kp.dK hH) ?_;refine rh.write ha (by rw[hH];show Wl) ⟨_,aI,?_⟩;show(GT rk key rv).mono Ux (Kp.dK hH)
   ·cases e
  ·cases e
  ·split at e
   ·rename_i hk;split at e
    ·rename_i kvs ht;split at e
     ·rename_i hl;cases e
      let⟨b,rfl⟩:=iN hk ry;cases cj
      let⟨⟨ks,xs,r,cg,hz,hm,dd⟩,mu,nt⟩:=Yu 0;refine wpAny_setItem_heap (hsz:=hz) c.room6 (pZ I c.K hk ry) dd λh' je hs=>?_;let⟨bx,r1,r2⟩:=HD.put (a:=a) r cg (Ap hk) ry rv jg;let⟨o,es,ep,hq,h2,h3,h4,_,h5⟩:=je;let nv:bx.length<=UG:=by
       let e1:=Ve r1;let e2:(iY kvs py pv).length<=kvs.length+1:=by
        unfold iY;split
        ·rw[Uu];omega
        ·simp
       omega
      refine q _ (R_ a<|dDO C.w a bx) (pG I mu hs ⟨o,hq⟩ ⟨⟨nv,hm,_,r2,o,es,ep,hq,h2,h3,?_,h5⟩,⟨o,hq⟩,?_⟩) (Kp.upd nt) ?_
      ·rw[h4,<-c.w];rfl
      ·rintro g1 g2 ⟨z1,z2,ws,z3,o',jw,ik,z4,z5⟩ keep;show⟨z1,z2,ws,z3,o',jw,ik,keep _ z4,z5⟩
      ·show rh.write ha nt ⟨bx,aI,RKd.mono Ux (Kp.upd nt) r1⟩
     ·cases e
    ·cases e
   ·cases e
 |_=>cases e
abbrev MtG(C:MC)(k:Nat)(X:Cx)(T:String)(ty:PV->PH->Bool)(id:String)(g:PV->X9 0->PH->Rs PV):Prop:=X7 X->MtR X id (rM C g)/\
 ∀td s σ H φ h p x v,H_ s->FR h->j_ p x->RelV x v->ty p h=true->s.TypeIs v T/\∀a,v=.ref a->∃ob,s.heap.get? a=a_ ob/\ob.dict=b_
def Na{k:Nat}{o:v_}{id:String}{g:PV->X9 0->PH->Rs PV}(pa:PlainAttrs T)(slot:Slot T name id)(mn:typeOf (.builtin id)=pure (.type "method_descriptor"))(hm:MtG C k X T ty id g)(ho:D_ o mo)(ha:SA C k X (e::es) ms)(bo:Xe o name X.env (eval o X.env)=eval o X.env:=by rfl)(fb:((backTo ag (UL (e::es) X.env)).all (λx=>!x.1)&&(backToKw ag (keywordEach [] X.env)).all (λx=>x.1.isSome)
   && decide ((e::es).length+([]:x_ Keyword).length+(if([]:x_ Keyword).isEmpty then 0 else 1)<30))=true:=by rfl)(bj:(apos.endLine == ag.line)=true:=by rfl)(hs:UL (e::es) X.env=(false,S_ 0)::U_ 0:=by rfl)(cm:(backTo ag (U_ 0)).any (·.1)=false:=by rfl):
  D_ (.Call (.Attribute o name apos) (e::es) [] ag) (mMt ty g mo ms):=λc td s σ H Q I ⟨φ,δ,h,rh,re,p⟩=>by
 refine wpAny_Call_method_late bo fb bj rfl<|thn (ho c td s σ H _ I ⟨φ,δ,h,rh,re,post.bind p⟩) ?_;rintro v s1 ⟨x,H1,I1,r1,φ1,px,h1,p1,t1,aa,ae,q1⟩;let⟨ht,q1⟩:=q1.ite;let⟨g1,g2⟩:=(hm c).2 td s1 σ H1 φ1 h1 px x v I1 aa ae r1 ht;refine⟨T,id,pa,slot,mn,g1,g2,?_⟩;let hA:=ha c ag td s1 σ H1 _ I1 ⟨φ1,δ,h1,aa,O_ 0,postA.bind q1⟩;rw[hs]at hA⊢;refine Xp (show(false || (backTo ag<|U_ 0).any (·.1))=false by rw[cm];rfl) (Calls.evalArgs_plain<|thn hA ?_);rintro us s2 ⟨vs,H2,I2,r2,φ2,ps,h2,p2,t2,ah,bq,q2⟩;show(hm c).1 td s2 σ H2 x vs v us Q I2 r1 r2 ⟨φ2,h2,px,ps,ah,ae.mono p2 t2,bq,q2⟩
def Ly{k:Nat}{o:v_}{id:String}{g:PV->X9 0->PH->Rs PV}(pa:PlainAttrs T)(slot:Slot T name id)(mn:typeOf (.builtin id)=pure (.type "method_descriptor"))(hm:MtG C k X T ty id g)(ho:D_ o mo)(bo:Xe o name X.env (eval o X.env)=eval o X.env:=by rfl)(bj:(apos.endLine == ag.line)=true:=by rfl):D_ (.Call (.Attribute o name apos) [] [] ag) (uC ty g mo):=λc td s σ H Q I ⟨φ,δ,h,rh,re,p⟩=>by refine wpAny_Call_method0_late bo bj<|thn (ho c td s σ H _ I ⟨φ,δ,h,rh,re,post.bind p⟩) ?_;rintro v s1 ⟨x,H1,I1,r1,φ1,px,h1,p1,t1,aa,ae,q1⟩;let⟨ht,q1⟩:=q1.ite;let⟨g1,g2⟩:=(hm c).2 td s1 σ H1 φ1 h1 px x v I1 aa ae r1 ht;show⟨T,id,pa,slot,mn,g1,g2,Xp rfl<|PySem.evalArgs_none<|(hm c).1 td s1 σ H1 x [] v [] Q I1 r1 .nil ⟨φ1,h1,px,[],aa,ae,trivial,q1⟩⟩
abbrev bH(x:PV)(h:PH):Bool:=match x with
 |.ref n=>match h[n]? with
  |some (.dK _)=>true
  |some (.dD _)=>true
  |_=>false
 |_=>false
set_option tactic.hygienic true in
def mD{k:Nat}(c:X7 X):∀td s σ H φ h p x v,H_ s->FR h->j_ p x->RelV x v->bH p h=true->s.TypeIs v "dict" /\ ∀a,v=.ref a->∃ob,s.heap.get? a=a_ ob/\ob.dict=b_:=by
 intro td s σ H φ h p x v I rh rv r e;unfold bH at e;cases p with
 |ref n=>
  let⟨a,rfl,ha⟩:=rv;cases r
  dsimp only at e;split at e
  ·rename_i kvs hk;let⟨ks,hH,rk⟩:=Yb hk;let⟨z,hd,vs,rel,dd⟩:=Be I.hok hH;refine⟨dd.typeIs,λb eb=>?_⟩;cases eb
   let⟨ob,_,_,h1,h2,_⟩:=dd;show⟨ob,h1,h2.2.1⟩
  ·rename_i kvs hk;let ht:bJ h n=a_ kvs:=by unfold bJ;rw[hk]
   let⟨⟨ks,xs,r,cg,hz,hm,dd⟩,_⟩:=Yu 0;refine⟨dd.typeIs,λb eb=>?_⟩;cases eb
   let⟨ob,_,_,h1,h2,_⟩:=dd;show⟨ob,h1,h2.2.1⟩
  ·cases e
 |_=>cases e
abbrev dG(h:PH)(x y:PV):y_ (y_ PV):=match eW y x h with
 |some o=>a_ o
 |none=>match x with
  |.ref n=>Ae h n y
  |_=>b_
abbrev qA:PV->X9 0->PH->Rs PV:=λx ps h=>match ps with
 |[y]=>match dG h x y with
  |some o=>.ok (o.getD .non) h
  |none=>.bad
 |[y,z]=>match dG h x y with
  |some o=>.ok (o.getD z) h
  |none=>.bad
 |_=>.bad
def GU{x y:PV}{o:y_ PV}(e:eW x y h=a_ o):∃n kvs,y=.ref n/\x.isKt=true/\bJ h n=a_ kvs/\o=aP kvs x:=by
 unfold eW at e;cases y with
 |ref n=>
  dsimp only at e;split at e
  ·rename_i hk;cases e1:bJ h n with
   |none=>rw[e1]at e;cases e
   |some kvs=>rw[e1]at e;cases e;show⟨n,kvs,rfl,hk,e1,rfl⟩
  ·cases e
 |_=>cases e
set_option tactic.hygienic true in
def Nb{k:Nat}(c:X7 X):MtR X "dict.get" (rM C qA):=λtd s σ H x xs v us Q I rx rs h=>by
 let⟨φ,h,p,ps,rh,rp,jh,po⟩:=h
 -- what is found
 let key:∀{y:PV}{yv:V}{yu:q_}{o:y_ PV}{d:PV}{dv:V}{du:q_}{more:x_ q_},dG h p y=a_ o->j_ y yv->RelV yv yu->j_ d dv->RelV dv du->
   ((more=[]/\du=.none/\dv=.non)\/more=[du])->(∀z,j_ (o.getD d) z->Q z H)->wpAny (g_ X) X.A (call (.builtin "dict.get") (v::yu::more)) (X3 Q) X.xe s:=by
  intro y yv yu o d dv du more e ry cj rd rdu hm q;unfold dG at e;cases e1:eW y p h with
  |some o'=>
   rw[e1]at e;cases e
   let⟨n,kvs,rfl,hk,ht,rfl⟩:=GU e1;let⟨a,rfl,ha⟩:=rp;cases rx
   let⟨b,rfl⟩:=iN hk ry;cases cj
   let⟨⟨ks,xs,r,cg,hz,uz,dd⟩,_⟩:=Yu 0;let hv:=HD.val (a:=a) r cg y;let fin:X3 Q (((atKey xs y).map (·.2)).getD du) { s with toks:=s.toks+(pS X.prog X.w).draws y}:=by
    cases e2:aP kvs y with
    |some p2=>
     rw[e2]at hv q;cases e3:atKey xs y with
     |none=>rw[e3]at hv;show hv.elim
     |some z=>rw[e3]at hv;let⟨v',ae,bq⟩:=hv;show⟨v',H,I.tok _,ae,q v' bq⟩
    |none=>
     rw[e2]at hv q;cases e3:atKey xs y with
     |some z=>rw[e3]at hv;show hv.elim
     |none=>exact⟨dv,H,I.tok _,rdu,q dv rd⟩
   rcases hm with⟨rfl,rfl,_⟩|rfl
   ·show WG Vw dd.typeIs VW (Xh _ _) (meetsH_dict_get (pS X.prog X.w) a b uz) ⟨c.room6,y,xs,pZ I c.K hk ry,dd,fin⟩
   ·show WG Vw dd.typeIs VW (PySem.F.args_dict_get_3 _ _ _) (meetsH_dict_get_default (pS X.prog X.w) a b uz du) ⟨c.room6,y,xs,pZ I c.K hk ry,dd,fin⟩
  |none=>
   rw[e1]at e;cases p with
   |ref n=>
    let⟨a,rfl,ha⟩:=rp;cases rx
    dsimp only at e;let⟨o',g,is,val⟩:=nZ rh ha ry e;let fin:∀w' s',H_ s'->RelV (o'.getD dv) w'->X3 Q w' s':=λw' s' I' r'=>by
     refine⟨o'.getD dv,H,I',r',q _ ?_⟩;cases o with
     |some p2=>let⟨w2,rfl,TF⟩:=val p2 rfl;show TF
     |none=>
      cases o' with
      |none=>exact rd
      |some z=>cases is
    rcases hm with⟨rfl,rfl,rfl⟩|rfl
    ·show Mq c.hu I g cj fin
    ·show Mr c.hu I g cj rdu fin
   |_=>cases e
 unfold qA at po;split at po
 ·rename_i y;split at po
  ·rename_i o e;let⟨yv,rfl,ry⟩:=jh.one;let⟨yu,rfl,cj⟩:=vals1 rs;show key (d:=.non) (dv:=.non) (du:=.none) e ry cj rfl rfl (.inl ⟨rfl,rfl,rfl⟩) λz rz=>K_ rz
  ·show po.elim
 ·rename_i y z;split at po
  ·rename_i o e;let⟨yv,zv,rfl,ry,rz⟩:=jh.two;let⟨yu,zu,rfl,cj,vf⟩:=vals2 rs;show key e ry cj rz vf (.inr rfl) λz rz=>K_ rz
  ·show po.elim
 ·show po.elim
def PM{k:Nat}:MtG C k X "dict" bH "dict.get" qA:=λc=>⟨Nb c,mD c⟩
abbrev F3(x:x_ Key):x_ (x_ Key)->x_ (x_ Key)
 |[]=>[x]
 |y::ys=>if bI y x=true then y::F3 x ys else x::y::ys
abbrev rK:x_ (x_ Key)->x_ (x_ Key)
 |[]=>[]
 |x::xs=>F3 x (rK xs)
def rN(x:x_ Key):∀ys,(F3 x ys).Perm (x::ys)
 |[]=>.refl _
 |y::ys=>by
  unfold F3;split
  ·show((rN x ys).cons y).trans (.swap x y ys)
  ·show .refl _
def fT:∀xs,(rK xs).Perm xs
 |[]=>.refl _
 |x::xs=>(rN x _).trans ((fT xs).cons x)
def tO{S:x_ Bool}{x:x_ Key}(hx:shape x=S):∀{ys:x_ (x_ Key)},(∀y∈ys,shape y=S)->ys.Pairwise (λa b=>bI b a=false)->(F3 x ys).Pairwise (λa b=>bI b a=false)
 |[],_,_=>WE _ _
 |y::ys,hs,hp=>by
  let hy:=hs y Uy;let ig:=λz hz=>hs z<|Uw _ hz;rw[Vh]at hp;unfold F3;split
  ·rename_i h;rw[Vh];refine⟨λz hz=>?_,tO hx ig hp.2⟩;rcases UF.mp ((rN x ys).mem_iff.mp hz) with rfl|hz
   ·show uM h
   ·show hp.1 z hz
  ·rename_i h;let h':bI y x=false:=by simpa using h
   rw[Vh];refine⟨λz hz=>?_,Vh.mpr hp⟩;rcases UF.mp hz with rfl|hz
   ·show h'
   ·show pO (hx.trans hy.symm) (hy.trans (ig z hz).symm) h' (hp.1 z hz)
def nP{S:x_ Bool}:∀{xs:x_ (x_ Key)},(∀y∈xs,shape y=S)->(rK xs).Pairwise (λa b=>bI b a=false)
 |[],_=>.nil
 |x::xs,hs=>tO (hs x Uy) (λy hy=>hs y (Uw _<|(fT xs).mem_iff.mp hy)) (nP λy hy=>hs y (Uw _ hy))
variable{S:x_ Bool}
def CU{xs ys:x_ (x_ Key)}(hs:∀y∈xs,shape y=S)(hp:ys.Perm xs)(h:ys.Pairwise (λa b=>bI b a=false)):ys=rK xs:=by refine Xa (le:=λa b=>bI b a=false) (λa b ha hb h1 h2=>?_) h (nP hs)<|hp.trans (fT xs).symm;show pN ((hs a<|hp.mem_iff.mp ha).trans (hs b<|(fT xs).mem_iff.mp hb).symm) h2 h1
abbrev kP:Key->PV
 |.inl i=>.int i
 |.inr x=>.str x
def K6{x:PV}{a:Key}(h:vN x=a_ a):x=kP a:=by cases x <;> first|(cases h;rfl)|cases h
@[simp]theorem QA(a:Key):vN (kP a)=a_ a:=by cases a <;> rfl
abbrev tQ:X9 0->y_ (x_ Key)
 |[]=>a_ []
 |x::xs=>match vN x,tQ xs with
  |some a,a_ r=>a_ (a::r)
  |_,_=>b_
def BF:∀{xs:X9 0}{ks:x_ Key},tQ xs=a_ ks->xs=ks.map kP
 |[],_,h=>by cases h;rfl
 |x::xs,ks,h=>by
  unfold tQ at h;cases e1:vN x with
  |none=>rw[e1]at h;cases h
  |some a=>
   cases e2:tQ xs with
   |none=>rw[e1,e2]at h;cases h
   |some r=>
    rw[e1,e2]at h;cases h
    rw[K6 e1,BF e2];rfl
@[simp]theorem GV:∀ks:x_ Key,tQ (ks.map kP)=a_ ks
 |[]=>rfl
 |a::ks=>by simp[tQ,GV ks]
abbrev tP(ks:x_ Key):PV:=.tup<|ks.map kP
abbrev vU:X9 0->y_ (x_<|x_ Key)
 |[]=>a_ []
 |.tup xs::r=>match tQ xs,vU r with
  |some a,a_ b=>a_ (a::b)
  |_,_=>b_
 |_::_=>b_
def BG:∀{xs:X9 0}{ks:x_ (x_ Key)},vU xs=a_ ks->xs=ks.map tP
 |[],_,h=>by cases h;rfl
 |x::xs,ks,h=>by
  cases x with
  |tup ys=>
   unfold vU at h;cases e1:tQ ys with
   |none=>rw[e1]at h;cases h
   |some a=>
    cases e2:vU xs with
    |none=>rw[e1,e2]at h;cases h
    |some r=>
     rw[e1,e2]at h;cases h
     rw[BF e1,BG e2];rfl
  |_=>cases h
@[simp]theorem BH:∀ks:x_ (x_ Key),vU (ks.map tP)=a_ ks
 |[]=>rfl
 |a::ks=>by simp[vU,tP,BH ks]
abbrev uD(ab:x_ (x_ Key)):Bool:=match ab with
 |[]=>true
 |a::r=>(!a.isEmpty)&&r.all λx=>shape x == shape a
def CV(h:uD ab=true):∃b sh,∀ks∈ab,shape ks=b::sh:=by
 cases ab with
 |nil=>exact⟨true,[],λ_ h=>nomatch h⟩
 |cons a r=>
  unfold uD at h;rw[UQ]at h;cases a with
  |nil=>cases h.1
  |cons z zs=>
   refine⟨fS z,shape zs,λks hk=>?_⟩;rcases UF.mp hk with rfl|hk
   ·rfl
   ·have:=UK.mp h.2 ks hk;show eq_of_beq this
section
variable{k:Nat}
def PN{a:Key}:j_ (kP a) v↔Rep C.K H (kD a) v:=by cases a <;> exact Iff.rfl
def Aq{φ:x_ s_}{H:Hp}:∀{ks:x_ Key}{vs:x_ V},C_ (ks.map kP) vs↔eV C.K H (ks.map kD) vs
 |[],[]=>Iff.rfl
 |[],_::_=>Iff.rfl
 |_::_,[]=>Iff.rfl
 |_::_,_::_=>and_congr PN Aq
def PP{ks:x_ Key}:j_ (tP ks) v↔Rep C.K H (tD ks) v:=by
 constructor
 ·rintro⟨a,vs,e,s,r⟩;show⟨a,vs,e,s,Aq.mp r⟩
 ·rintro⟨a,vs,e,s,r⟩;show⟨a,vs,e,s,Aq.mpr r⟩
def DS{φ:x_ s_}{H:Hp}:∀{ab:x_ (x_ Key)}{vs:x_ V},C_ (ab.map tP) vs↔eV C.K H (ab.map tD) vs
 |[],[]=>Iff.rfl
 |[],_::_=>Iff.rfl
 |_::_,[]=>Iff.rfl
 |_::_,_::_=>and_congr PP DS
def RH.same(r:FR h)(s:Bc H H1):RH C φ H1 h:=⟨r.len,r.nd,λn b ob h1 h2=>by let q:=r.at' n b ob h1 h2;let⟨u,hu⟩:=q.some;show q.stay Ux (Kp.same s)<|(s _ _ hu).trans hu.symm⟩
def K7{a b:Str}:bI [.inr a] [.inr b]=decide (a.cps.toList<b.cps.toList):=by
 unfold bI;split
 ·rename_i e;cases e
  simp[bI,List.lt_irrefl]
 ·rfl
def tR:∀{r:x_ Str}{p:Str},risingS p r=true->((p::r).map λx=>[(WO x:Key)]).Pairwise (λa b=>bI b a=false)
 |[],p,_=>WE _ _
 |x::r,p,h=>by
  let h0:bI [.inr x] [.inr p]=false/\risingS x r=true:=by unfold risingS at h;rw[UQ,ltCps_eq]at h;rw[K7];show⟨ke h.1,h.2⟩
  let ih:=tR h0.2;rw[UJ,Vh];refine⟨λz hz=>?_,ih⟩;let⟨y,hy,rfl⟩:=UO.mp hz;rcases UF.mp hy with rfl|hy
  ·show h0.1
  ·rw[UJ,Vh]at ih;show pO (a:=[.inr p]) (b:=[.inr x]) (c:=[.inr y]) rfl rfl h0.1<|ih.1 _<|UO.mpr ⟨y,hy,rfl⟩
def Ar{φ:x_ s_}{H:Hp}:∀{ss:x_ Str}{vs:x_ V},C_ (ss.map PV.str) vs↔vs=ss.map V.str
 |[],[]=>by simp[RVs]
 |[],_::_=>by simp[RVs]
 |_::_,[]=>by simp[RVs]
 |x::ss,v::vs=>by simp only[UJ,RVs,List.cons.injEq];show and_congr Iff.rfl Ar
end
open PySem
@[simp]theorem PQ{x:PV}:eW x (.tup xs) h=b_:=(rfl)
@[simp]theorem O7{x:PV}{z:Str}:eW x (.str z) h=b_:=(rfl)
@[simp]theorem PR{i:Int}{y:PV}:eW (.int i) y h=b_:=by cases y <;> rfl
@[simp]theorem PU{i:Str}{y:PV}:eW (.str i) y h=b_:=by cases y <;> rfl
def BJ{x:PV}(e:h[n]?=a_ (.lst xs)):eW x (.ref n) h=b_:=by unfold eW bJ;simp[e]
@[simp]theorem QB{z:Str}{y:PV}:vAt (.str z) y h=vIx (.str z) y h:=by unfold vAt;simp
@[simp]theorem QC{x:PV}{i:Int}:vAt x (.int i) h=vIx x (.int i) h:=by unfold vAt;simp
@[simp]theorem QD{x:PV}{i:Str}:vAt x (.str i) h=vIx x (.str i) h:=by unfold vAt;simp
@[simp]theorem BK{x:PV}:kF x (.tup ys) h=vIn x (.tup ys) h:=by unfold kF;simp
@[simp]theorem mE{x:PV}:bD x (.tup ys) h=iV x (.tup ys) h:=by unfold bD;simp
def GW{x:PV}(e:h[n]?=a_ (.lst xs)):kF x (.ref n) h=vIn x (.ref n) h:=by unfold kF;rw[BJ e]
def BL{x:PV}(e:h[n]?=a_ (.lst xs)):bD x (.ref n) h=iV x (.ref n) h:=by unfold bD;rw[BJ e]
def GX{kvs:x_ (Key×PV)}(e:h[n]?=a_ (.dK kvs)):bH (.ref n) h=true:=by unfold bH;simp[e]
variable{z:PV}
def K8{kvs:x_ (Key×PV)}(e:h[n]?=a_ (.dK kvs)):qA (.ref n) [.str x,z] h=.ok ((aP kvs<|.inr x).getD z) h:=by simp[qA,dG,Ae,e,vN]
def K9{kvs:x_ (Key×PV)}(e:h[n]?=a_ (.dK kvs))(c:kvs.length<16777216):lR (.ref n) (.str x) z h=a_ (Yr<|.dK<|iY kvs (.inr x) z):=by simp[lR,e,vN,c]
abbrev lJ{κ:Type}[Yv 0](kvs:x_ (κ×PV))(a:κ):x_ (κ×PV):=kvs.filter λkv=>decide (kv.1≠a)
abbrev kG(h:PH)(d:Nat):y_ (X9 0):=match h[d]? with
 |some (.dK kvs)=>a_ (kvs.map (·.2))
 |some (.dD kvs)=>a_ (kvs.map (·.2))
 |_=>b_
def vV{K:Type}[DecidableEq K]{knd:KeyKind prog w K}{es:x_ VQ}{kvs:x_ (K×q_)}(h:Pairs knd es kvs):es.map (·.val)=kvs.map (·.2):=by
 apply W8;intro i;rw[UD,UD];let hl:=h.length;by_cases hi:i<es.length
 ·let e1:es[i]?=a_ es[i]:=by simp[hi]
  let bc:i<kvs.length:=⋯;let e2:kvs[i]?=a_ (kvs[i].1,kvs[i].2):=by simp[bc]
  rw[e1,e2];show congrArg a_ (h.get? e1 e2).2
 ·rw[Wx ⋯,Wx ⋯];rfl
set_option tactic.hygienic true in
def vW{k:Nat}{d:Nat}{b:s_}(c:X7 X)(I:H_ s)(rh:FR h)(hb:φ[d]?=a_ b)(e:kG h d=a_ xs):
  s.TypeIs (.ref b) "dict" /\ (b == VM)=false/\xs.length<=UG/\∃oc es ep,M_ 0=a_ oc/\oc.data=.dict es ep/\∃ws,C_ xs ws/\aJ ws (es.toList.map (·.val)):=by
 unfold kG at e;split at e
 ·rename_i kvs hk;cases e
  let⟨ks,hH,rk⟩:=rh.at' d b _ hb hk;let⟨z,hd,vs,rel,dd⟩:=Be I.hok hH;refine⟨dd.typeIs,hd,by rw[Uu,Ve rk];show z,?_⟩;let⟨oc,es,ep,g1,g2,g3,g4,g5,g6⟩:=dd;refine⟨oc,es,ep,g1,g3,ks.map (·.2),?_,?_⟩
  ·unfold RKv at rk;clear hk hH rel z
   induction rk with
   |nil=>trivial
   |cons q t ih=>exact⟨q.2,ih⟩
  ·rw[vV g5];clear hk hH g4 g5 g6 z;unfold KV at rel;clear rk
   induction rel with
   |nil=>exact .nil
   |cons q t ih=>exact .cons q.2 ih
 ·rename_i kvs hk;cases e
  let ht:bJ h d=a_ kvs:=by unfold bJ;rw[hk]
  let⟨⟨ks,ys,r,cg,hz,hm,dd⟩,_⟩:=nO I c.K c.w rh hb ht;let hlen:kvs.length=ys.length:=(Ve r).trans<|Ve cg;refine⟨dd.typeIs,hm,by rw[Uu,hlen];show hz,?_⟩;let⟨oc,es,ep,g1,g2,g3,g4,g5,g6⟩:=dd;refine⟨oc,es,ep,g1,g3,ks.map (·.2.2),?_,?_⟩
  ·unfold RKd at r;clear hk ht cg hlen
   induction r with
   |nil=>trivial
   |cons q t ih=>exact⟨q.2.2.2,ih⟩
  ·rw[g4,Vk];clear hk ht r hlen hz g4 g5 g6
   induction cg with
   |nil=>exact .nil
   |cons q t ih=>exact .cons q.2.2 ih
 ·cases e
abbrev zB:PV->X9 0->PH->Rs PV:=λx ps h=>match x,ps with
 |.ref n,[]=>match kG h n with
  |some _=>.ok (.ref h.length) (h++[.vw 1 n])
  |none=>.bad
 |_,_=>.bad
set_option tactic.hygienic true in
def m_values{k:Nat}:MtG C k X "dict" bH "dict.values" zB:=λc=>⟨λtd s σ H x xs v us Q I rx rs h=>by
 let⟨φ,h,p,ps,rh,rp,jh,po⟩:=h;unfold zB at po;split at po
 ·rename_i n;split at po
  ·rename_i ys ey;let⟨a,rfl,ha⟩:=rp;have:xs=[]:=by cases xs <;> first|rfl|exact jh.elim
   subst this;cases rx
   cases rs
   let⟨hT,hm,_⟩:=vW c I rh ha ey;refine WG PySem.F.slot_dict_values hT PySem.F.entry_dict_values (PySem.F.args_dict_values_1 _) (Ab a hm) ⟨hT,?_⟩;let fr:H (e_ s)=b_:=I.fresh;refine⟨.ref<|e_ s,_,I.laid (t':=s.toks) (o:=DD 1 (e_ s) a) (λb u e=>SZ _ e) (Uv _) ?_,rfl,?_⟩
   ·show⟨⟨_,Yo 0,rfl,rfl⟩,⟨_,Yo 0⟩,λh1 h2 ⟨o,e,p⟩ k=>⟨o,k o e,p⟩⟩
   ·show po (φ++[(e_ s)]) (.ref _) _ (Vo _ _) (Kp.new fr) (rh.new fr ⟨a,fO (Vo _ _) ha,aI⟩) ⟨_,rfl,by rw[<-rh.len];simp⟩
  ·show po.elim
 ·show po.elim,mD c⟩
abbrev qB(h:PH)(n:Nat):y_ (X9 0):=match h[n]? with
 |some (.vw 1 d)=>kG h d
 |_=>b_
variable{acc:Ya 0}
def BM{es:Array VQ}(h:ItemsOf (λi v=>∃e,es[i]?=a_ e/\v=e.val) acc es.size):acc.toList=es.toList.map (·.val):=by
 apply W8;intro i;rw[UD,Array.getElem?_toList,Array.getElem?_toList];by_cases hi:i<acc.size
 ·let e1:acc[i]?=a_ acc[i]:=by simp[hi]
  let⟨e,h1,h2⟩:=h.2 i _ e1;rw[e1,h1,h2];rfl
 ·let bc:¬ i<es.size:=by rw[<-h.1];show hi
  rw[VJ ⋯,VJ ⋯];rfl
def DT(e:h[n]?=a_ (.dK [])):bJ h n=a_ []:=by simp[bJ,e]
def As(e:h[n]?=a_ (.dD kvs)):bJ h n=a_ kvs:=by simp[bJ,e]
open PySem.SeqAt PySem.W
abbrev vX(l:x_ Nat):x_ Int:=l.map (λ(c:Nat)=>(c:Int)+2)++[1]
mutual
def enc:PV->x_ Int
 |.int i=>[i]
 |.str x=>vX x.cps.toList
 |.tup xs=>qC xs
 |_=>[]
def qC:X9 0->x_ Int
 |[]=>[0]
 |x::xs=>1::(enc x++qC xs)
end
def nB(a:Nat)(l:x_ Nat):vX (a::l)=((a:Int)+2)::vX l:=rfl
def DU:∀(a b:x_ Nat)(s t:x_ Int),a≠b->((vX a++s<vX b++t)↔a<b)
 |[],[],_,_,h=>(h rfl).elim
 |[],b::bs,s,t,_=>by
  rw[nB]
  change(1::s<((b:Int)+2)::(vX bs++t))↔_
  rw[Vp];constructor
  ·intro _;show List.nil_lt_cons _ _
  ·intro _;left;omega
 |a::as,[],s,t,_=>by
  rw[nB]
  change(((a:Int)+2)::(vX as++s)<1::t)↔_
  rw[Vp];constructor
  ·rintro(h|⟨h,_⟩) <;> omega
  ·intro h;show(List.not_lt_nil _ h).elim
 |a::as,b::bs,s,t,h=>by
  rw[nB,nB]
  change(((a:Int)+2)::(vX as++s)<((b:Int)+2)::(vX bs++t))↔_
  rw[Vp,Vp];by_cases e:a=b
  ·subst e;let h':as≠bs:=λz=>h (by rw[z]);let ih:=DU as bs s t h';constructor
   ·rintro(h1|⟨_,h1⟩)
    ·omega
    ·show .inr ⟨rfl,ih.mp h1⟩
   ·rintro(h1|⟨_,h1⟩)
    ·omega
    ·show .inr ⟨rfl,ih.mpr h1⟩
  ·constructor
   ·rintro(h1|⟨h1,_⟩) <;> (left;omega)
   ·rintro(h1|⟨h1,_⟩)
    ·left;omega
    ·show(e h1).elim
def CW:∀(n:Nat)(x y:PV)(c:Bool)(s t:x_ Int),x≠y->ltP n x y=a_ c->((enc x++s<enc y++t)↔c=true):=by
 intro n;let one:∀(a b:Int)(c:Bool)(s t:x_ Int),PV.int a≠.int b->a_ (decide (a<b))=a_ c->(([a]++s < [b]++t)↔c=true):=λa b c s t h e=>by
  cases e
  let h':a≠b:=λz=>h (by rw[z])
  change(a::s<b::t)↔_
  rw[Vp,decide_eq_true_eq];constructor
  ·rintro(h1|⟨h1,_⟩)
   ·show h1
   ·show(h' h1).elim
  ·intro h1;show .inl h1
 let two:∀(a b:Str)(c:Bool)(s t:x_ Int),PV.str a≠.str b->a_ (decide (a.cps.toList<b.cps.toList))=a_ c->((vX a.cps.toList++s<vX b.cps.toList++t)↔c=true):=λa b c s t h e=>by
  cases e
  rw[DU _ _ s t<|λz=>h<|by rw[DB z],decide_eq_true_eq]
 induction n with
 |zero=>intro x y c s t h e;cases x <;> cases y <;> first|exact one _ _ c s t h e|exact two _ _ c s t h e|(simp[ltP]at e)
 |succ n ih=>
  let lists:∀(xs ys:X9 0)(c:Bool)(s t:x_ Int),xs≠ys->ltL (ltP n) xs ys=a_ c->((qC xs++s<qC ys++t)↔c=true):=by
   intro xs
   induction xs with
   |nil=>
    intro ys c s t h e;cases ys with
    |nil=>exact(h rfl).elim
    |cons y ys=>
     cases e
     change(0::s<1::((enc y++qC ys)++t))↔_
     rw[Vp];constructor
     ·intro _;rfl
     ·intro _;left;omega
   |cons x xs ihx=>
    intro ys c s t h e;cases ys with
    |nil=>
     cases e
     change(1::((enc x++qC xs)++s)<0::t)↔_
     rw[Vp];constructor
     ·rintro(h1|⟨h1,_⟩) <;> omega
     ·intro h1;cases h1
    |cons y ys=>
     change(1::((enc x++qC xs)++s)<1::((enc y++qC ys)++t))↔_
     let e':(if x=y then ltL (ltP n) xs ys else ltP n x y)=a_ c:=e;rw[Vp,XD,XD];let key:(enc x++(qC xs++s)<enc y++(qC ys++t))↔c=true:=by
      by_cases xy:x=y
      ·rw[if_pos xy]at e';subst xy;have:=ihx ys c s t (λz=>h<|by rw[z]) e';rw[<-this];let cut:∀l:x_ Int,(l++(qC xs++s)<l++(qC ys++t))↔(qC xs++s<qC ys++t):=λl=>by
        induction l with
        |nil=>exact Iff.rfl
        |cons a l ih=>
         change(a::(l++_)<a::(l++_))↔_
         rw[Vp,ih];constructor
         ·rintro(h1|⟨_,h1⟩)
          ·omega
          ·show h1
         ·intro h1;show .inr ⟨rfl,h1⟩
       show cut _
      ·rw[if_neg xy]at e';show ih x y c _ _ xy e'
     rw[key];constructor
     ·rintro(h1|⟨_,h1⟩)
      ·omega
      ·show h1
     ·intro h1;show .inr ⟨rfl,h1⟩
  intro x y c s t h e;cases x <;> cases y <;> first|exact one _ _ c s t h e|exact two _ _ c s t h e|(simp[ltP]at e;done)|exact lists _ _ c s t (λz=>h<|by rw[z]) e
abbrev ltN(x y:PV):Bool:=decide (enc x<enc y)
def BN{f:PV->PV->y_ Bool}:∀xs:X9 0,ltL f xs xs=a_ false
 |[]=>rfl
 |x::xs=>by
  change(if x=x then ltL f xs xs else f x x)=a_ false
  rw[X2 0];show BN xs
def GY{x:PV}{c:Bool}(h:ltP n x x=a_ c):c=false:=by
 let st:∀{z:Str}{c:Bool},a_ (decide (z.cps.toList<z.cps.toList))=a_ c->c=false:=λ{z c} e=>by
  cases e
  show decide_eq_false<|List.lt_irrefl _
 let it:∀{z:Int}{c:Bool},a_ (decide (z<z))=a_ c->c=false:=λ{z c} e=>by
  cases e
  show decide_eq_false<|Int.lt_irrefl _
 cases n with
 |zero=>
  cases x with
  |int i=>exact it h
  |str i=>exact st h
  |_=>simp[ltP]at h
 |succ n=>
  cases x with
  |tup xs=>
   let h':ltL (ltP n) xs xs=a_ c:=h;rw[BN]at h';cases h'
   rfl
  |int i=>exact it h
  |str i=>exact st h
  |_=>simp[ltP]at h
def K'(x:PV):ltN x x=false:=decide_eq_false<|List.lt_irrefl _
def Nc{x y:PV}{c:Bool}(h:ltP n x y=a_ c):ltN x y=c:=by
 by_cases e:x=y
 ·subst e;rw[GY h];show K' x
 ·have:=CW n x y c [] [] e h;rw[Ws,Ws]at this;unfold ltN;cases c with
  |true=>exact decide_eq_true<|this.mpr rfl
  |false=>exact decide_eq_false λz=>by cases this.mp z
def Ka{x y:PV}{c:Bool}(h:ltP n x y=a_ c)(e:enc x=enc y):x=y:=by
 by_cases xy:x=y
 ·show xy
 ·let h1:=CW n x y c [0] [1] xy h;let h2:=CW n x y c [1] [0] xy h;rw[e]at h1 h2;let cut:∀(l s t:x_ Int),(l++s<l++t)↔(s<t):=λl s t=>by
   induction l with
   |nil=>exact Iff.rfl
   |cons a l ih=>
    change(a::(l++_)<a::(l++_))↔_
    rw[Vp,ih];constructor
    ·rintro(h1|⟨_,h1⟩)
     ·omega
     ·show h1
    ·intro h1;show .inr ⟨rfl,h1⟩
  rw[cut]at h1 h2;let t1:([0]:x_ Int) < [1]:=by decide
  let t2:¬ ([1]:x_ Int) < [0]:=by decide
  show(t2<|h2.mpr<|h1.mp t1).elim
def GZ{a b c:PV}(h1:ltN b a=false)(h2:ltN c b=false):ltN c a=false:=decide_eq_false<|Xi.mpr<|List.le_trans (Xi.mp<|of_decide_eq_false h1)<|Xi.mp<|of_decide_eq_false h2
def Ha{a b:PV}(h:ltN a b=true):ltN b a=false:=decide_eq_false<|List.lt_asymm<|of_decide_eq_true h
def Nd{a b:PV}(h1:ltN a b=false)(h2:ltN b a=false):enc a=enc b:=List.le_antisymm (Xi.mp<|of_decide_eq_false h2)<|Xi.mp<|of_decide_eq_false h1
section
variable{α:Type}(key:α->PV)
abbrev vY(x:α):x_ α->x_ α
 |[]=>[x]
 |y::ys=>if ltN (key y) (key x) then y::vY x ys else x::y::ys
abbrev jK:x_ α->x_ α
 |[]=>[]
 |x::xs=>vY key x (jK xs)
def rO(x:α):∀ys,(vY key x ys).Perm (x::ys)
 |[]=>.refl _
 |y::ys=>by
  unfold vY;split
  ·show((rO x ys).cons y).trans (.swap x y ys)
  ·show .refl _
def kH:∀xs,(jK key xs).Perm xs
 |[]=>.refl _
 |x::xs=>(rO key x _).trans ((kH xs).cons x)
def tS(x:α):∀{ys:x_ α},ys.Pairwise (λa b=>ltN (key b) (key a)=false)->(vY key x ys).Pairwise (λa b=>ltN (key b) (key a)=false)
 |[],_=>WE _ _
 |y::ys,h=>by
  unfold vY;rw[Vh]at h;split
  ·rename_i ao;rw[Vh];refine⟨λz hz=>?_,tS x h.2⟩;rcases UF.mp ((rO key x ys).mem_iff.mp hz) with rfl|hz
   ·show Ha ao
   ·show h.1 z hz
  ·rename_i ao;let sg:ltN (key y) (key x)=false:=by simpa using ao
   rw[Vh];refine⟨λz hz=>?_,Vh.mpr h⟩;rcases UF.mp hz with rfl|hz
   ·show sg
   ·show GZ sg (h.1 z hz)
def kI:∀xs:x_ α,(jK key xs).Pairwise (λa b=>ltN (key b) (key a)=false)
 |[]=>.nil
 |x::xs=>tS key x (kI xs)
def zC{xs ys:x_ α}(inj:∀a∈xs,∀b∈xs,enc (key a)=enc (key b)->a=b)(hp:ys.Perm xs)(h:ys.Pairwise (λa b=>ltN (key b) (key a)=false)):ys=jK key xs:=by refine Xa (le:=λa b=>ltN (key b) (key a)=false) (λa b ha hb h1 h2=>?_) h (kI key xs)<|hp.trans (kH key xs).symm;show inj a (hp.mem_iff.mp ha) b ((kH key xs).mem_iff.mp hb)<|Nd h2 h1
end
def CY:∀{xs:X9 0}{ds:x_ D},PV.ds xs=a_ ds->xs.length=ds.length
 |[],ds,h=>by cases h;rfl
 |x::xs,ds,h=>by let⟨d,r,_,h2,rfl⟩:=cJ h;simp[CY h2]
def Hb:∀{xs:X9 0}{ds:x_ D}{j:Nat}{d:D},PV.ds xs=a_ ds->ds[j]?=a_ d->∃x,xs[j]?=a_ x/\x.d=a_ d
 |[],ds,j,d,h,e=>by cases h;simp at e
 |x::xs,ds,j,d,h,e=>by
  let⟨d',r,h1,h2,rfl⟩:=cJ h;cases j with
  |zero=>
   have:d'=d:=by simpa using e
   show⟨x,rfl,by rw[h1,this]⟩
  |succ j=>
   let⟨y,a,b⟩:=Hb (j:=j) h2<|ke e;show⟨y,ke a,b⟩
def mF:∀(n:Nat)(p:PV),p.ky n=true->p.pl n=true:=by
 intro n
 induction n with
 |zero=>intro p h;cases p <;> first|rfl|cases h
 |succ n ih=>
  intro p h;cases p with
  |tup xs=>
   change xs.all (PV.pl n)=true
   rw[UK];show λy hy=>ih y (UK.mp (show xs.all (PV.ky n)=true from h) y hy)
  |_=>first|rfl|cases h
def Nf:∀(n:Nat){A:t_}{s:r_}{p q:PV}{v u:q_}{b:Bool},p.ky n=true->q.ky n=true->A.units+n<cLine->HR s.heap p v->HR s.heap q u->ltP n p q=a_ b->K4 A s v u b:=by
 intro n;let one:∀{A:t_}{s:r_}{i j:Int}{v u:q_}{b:Bool},HR s.heap (.int i) v->HR s.heap (.int j) u->a_ (decide (i<j))=a_ b->K4 A s v u b:=λ{A s i j v u b} r r' e=>by
  let⟨t,rfl⟩:=r;let⟨t',rfl⟩:=r';cases e
  show λprog w E Q q=>(PyProof.Rows.lt_int q:p_ (Vc .Lt _ _) Q E s)
 let two:∀{A:t_}{s:r_}{i j:Str}{v u:q_}{b:Bool},HR s.heap (.str i) v->HR s.heap (.str j) u->a_ (decide (i.cps.toList<j.cps.toList))=a_ b->K4 A s v u b:=λ{A s i j v u b} r r' e=>by
  let⟨t,rfl⟩:=r;let⟨t',rfl⟩:=r';cases e
  show λprog w E Q q=>(PyProof.Rows.lt_str q:p_ (Vc .Lt _ _) Q E s)
 induction n with
 |zero=>
  intro A s p q v u b hp hq hu r r' e;cases p with
  |int i=>
   cases q with
   |int j=>exact one r r' e
   |_=>simp[ltP]at e
  |str i=>
   cases q with
   |str j=>exact two r r' e
   |_=>simp[ltP]at e
  |_=>cases hp
 |succ n ih=>
  intro A s p q v u b hp hq hu r r' e;cases p with
  |int i=>
   cases q with
   |int j=>exact one r r' e
   |_=>simp[ltP]at e
  |str i=>
   cases q with
   |str j=>exact two r r' e
   |_=>simp[ltP]at e
  |tup ps=>
   cases q with
   |tup qs=>
    let⟨a,its,rfl,p1,rs⟩:=r;let⟨a',its',rfl,p2,dz⟩:=r';let kp:∀z∈ps,z.ky n=true:=UK.mp hp;let kq:∀z∈qs,z.ky n=true:=UK.mp hq;let⟨d,hd,_⟩:=mB (n+1) _<|mF _ _ hp;let⟨d',d8,_⟩:=mB (n+1) _<|mF _ _ hq;let ao:=Lx (n+1) _ _ d d' (mF _ _ hp) (mF _ _ hq) hd d8;rw[e]at ao;let⟨ds,g1,rfl⟩:=bC hd;let⟨es,g2,rfl⟩:=bC d8;let hb':pJ ds es=a_ b:=by simpa[ltD] using ao
    let⟨⟨cls,dd,data,sl⟩,ho,hc,m,oq⟩:=id p1;let⟨⟨qg,ki,data2,kh⟩,i8,dr,m2,hd2⟩:=id p2;simp only at hc oq dr hd2;subst hc oq dr hd2;intro prog w E Q ji;refine richCompare_meets_room (op:=.Lt) ⟨_,ho,rfl⟩ ⟨_,i8,rfl⟩ PySem.F.slot_tuple_lt PySem.F.entry_tuple_lt (PySem.F.args_tuple_lt_2 _ _) (Am a a' its.toArray its'.toArray m m2 dd ki sl kh ds es b hb')
     ⟨ho,i8,⟨?_,?_,?_⟩,show Value.bool b≠Value.notImplemented/\Q (.bool b) s from⟨(λx=>nomatch x),ji⟩⟩ ⋯
    ·let l1:=rs.length;let l2:=CY g1
     change its.length=ds.length
     omega
    ·let l1:=dz.length;let l2:=CY g2
     change its'.length=es.length
     omega
    ·intro j v u d e h1 h2 h3 h4;let⟨x,hx,ex⟩:=Hb g1 h3;let⟨y,hy,ey⟩:=Hb g2 h4;let⟨v',hv,rv⟩:=rs.at hx;let⟨u',Ue,ru⟩:=dz.at hy;let e1:v=v':=by have:its[j]?=a_ v:=h1;rw[hv]at this;show(UW this).symm
     let e2:u=u':=by have:its'[j]?=a_ u:=h2;rw[Ue]at this;show(UW this).symm
     subst e1 e2;let kx:=kp x<|UP hx;let ky:=kq y<|UP hy;let zr:A.in1.units+n<cLine:=by change A.units+1+n<cLine;omega
     refine⟨?_,λ_ b hb=>?_⟩
     ·rw[BB n x y d e (mF _ _ kx) (mF _ _ ky) ex ey];show CM kx ky zr rv ru
     ·rw[Lx n x y d e (mF _ _ kx) (mF _ _ ky) ex ey]at hb;show ih kx ky zr rv ru hb
   |_=>simp[ltP]at e
  |_=>cases hp
section
abbrev Hc:X9 0->Prop
 |.tup _::_=>False
 |_=>True
def zD{b fin:Bool}{n:Nat}{Q:jn Bool}(hu:A.units+n<cLine):∀(ps qs:X9 0)(us ws:x_ q_)(i:Nat)(c:Bool),(∀p∈ps,p.ky n=true)->(∀q∈qs,q.ky n=true)->HRs s.heap ps us->HRs s.heap qs ws->ltL (ltP n) ps qs=a_ c->((b&&i == 0)=true->Hc ps)->fin=decide (ps.length<qs.length)->Q c s->KatLex prog w A b fin Q (us.zip ws) i s
 |[],[],[],[],i,c,_,_,_,_,hc,_,hf,h=>by
  cases hc
  rw[hf];show h
 |[],q::qs,[],u::ws,i,c,_,_,_,_,hc,_,hf,h=>by
  cases hc
  rw[hf];show h
 |p::ps,[],u::us,[],i,c,_,_,_,_,hc,_,hf,h=>by
  cases hc
  rw[hf];show h
 |p::ps,q::qs,u::us,v::ws,i,c,kp,kq,rs,dz,hc,hn,hf,h=>by
  rw[Xs];let cq:(if p=q then ltL (ltP n) ps qs else ltP n p q)=a_ c:=hc;let k1:=kp p Uy;let k2:=kq q Uy;refine kat_cons<|CM k1 k2 hu rs.1 dz.1 prog w _ _ ?_;by_cases pq:p=q
  ·rw[if_pos pq]at cq;rw[decide_eq_true pq];refine kat_yes (zD hu ps qs us ws (i+1) c (λz hz=>kp z<|Uw _ hz) (λz hz=>kq z<|Uw _ hz) rs.2 dz.2 cq (λz=>?_) ?_ h)
   ·cases b <;> simp at z
   ·rw[hf];simp
  ·rw[if_neg pq]at cq;rw[decide_eq_false pq];refine kat_no ?_;let gen:p_ (oneLt' false u v) Q (λ_ _=>False) s:=kat_one _ _<|Nf n k1 k2 hu rs.1 dz.1 cq prog w _ (PySem.W.BoolBack Q) h;cases hb:(b&&i == 0) with
   |false=>exact gen
   |true=>
    let om:=hn hb;cases p with
    |tup _=>exact om.elim
    |int a=>
     cases q with
     |int d=>
      let⟨t,rfl⟩:=rs.1;let⟨t',rfl⟩:=dz.1;let e:decide (a<d)=c:=by cases n <;> exact UW cq
      rw[<-e]at h;show oneLt_int h
     |_=>cases n <;> simp[ltP]at cq
    |str a=>
     cases q with
     |str d=>
      let⟨t,rfl⟩:=rs.1;let⟨t',rfl⟩:=dz.1;let e:decide (a.cps.toList<d.cps.toList)=c:=by cases n <;> exact UW cq
      rw[<-e]at h;show oneLt_str h
     |_=>cases n <;> simp[ltP]at cq
    |_=>exact rs.1.elim
 |[],_,_::_,_,_,_,_,_,r,_,_,_,_,_=>r.elim
 |_::_,_,[],_,_,_,_,_,r,_,_,_,_,_=>r.elim
 |_,[],_,_::_,_,_,_,_,_,r,_,_,_,_=>r.elim
 |_,_::_,_,[],_,_,_,_,_,r,_,_,_,_=>r.elim
def Hd{q:PV}{v u:q_}{c:Bool}{Q:jn Bool}(hu:A.units+n<cLine)(kp:p.ky (n+1)=true)(kq:q.ky (n+1)=true)(tp:∃ps,p=.tup ps/\(b=true->Hc ps))(tq:∃qs,q=.tup qs)(r:HR s.heap p v)(r':HR s.heap q u)(hc:ltP (n+1) p q=a_ c)(h:Q c s):
  p_ (keyLt' (tuples' b) v u) Q E s:=by
 let⟨ps,rfl,hn⟩:=tp;let⟨qs,rfl⟩:=tq;let⟨a,its,rfl,⟨ox,yg,_,m,dx⟩,rs⟩:=r;let⟨a',its',rfl,⟨oy,vt,_,m',dy⟩,dz⟩:=r';refine kat_lt yg dx vt dy ?_;let l1:=rs.length;let l2:=dz.length;let e1:decide (its.toArray.size<its'.toArray.size)=decide (ps.length<qs.length):=by simp[l1,l2]
 rw[e1];show zD hu ps qs its its' 0 c (UK.mp kp) (UK.mp kq) rs dz hc (λz=>hn (by cases b <;> simp at z;rfl)) rfl h
abbrev fk:PV->Nat
 |.tup (.int _::_)=>0
 |.tup (.str _::_)=>1
 |.tup (.tup _::_)=>2
 |_=>3
abbrev fkT(m:Nat):q_:=.type (if m=0 then "int" else if m=1 then "str" else "tuple")
def vZ{m:Nat}(hm:m<3):∀{ps:X9 0}{vs:x_ q_},HRs s.heap ps vs->(∀p∈ps,fk p=m)->∃fs:x_ q_,fs.length=vs.length/\KatTups s.heap vs fs/\∀f∈fs,Looks (model prog w) s.heap (typeOf f) (fkT m)
 |[],[],_,_=>⟨[],rfl,KatTups.nil,λ_ hf=>nomatch hf⟩
 |p::ps,v::vs,r,hs=>by
  let⟨fs,hl,ht,hT⟩:=vZ hm r.2 λx hx=>hs x<|Uw _ hx;let h0:=hs p Uy;let r1:=r.1;cases p with
  |tup xs=>
   let⟨a,its,rfl,⟨o,ho,hc,n,hd⟩,rx⟩:=r1;cases xs with
   |nil=>simp[fk]at h0;omega
   |cons x xs=>
    cases its with
    |nil=>exact rx.elim
    |cons f its=>
     refine⟨f::fs,by simp[hl],KatTups.cons ho hc hd (by simp) ht,λg hg=>?_⟩;rcases UF.mp hg with rfl|hg
     ·let rf:=rx.1;cases x with
      |int i=>let⟨t,rfl⟩:=rf;have:m=0:=h0.symm;subst this;show Looks.now
      |str i=>let⟨t,rfl⟩:=rf;have:m=1:=h0.symm;subst this;show Looks.now
      |tup i=>let⟨a',its',rfl,⟨o',gg,cq,n',d8⟩,_⟩:=rf;have:m=2:=h0.symm;subst this;have:Looks (model prog w) s.heap (typeOf<|.ref a') o'.cls:=(Looks.ld gg).andThen .now;rw[cq]at this;show this
      |_=>exact rf.elim
     ·show hT g hg
  |_=>simp[fk]at h0;omega
 |[],_::_,r,_=>r.elim
 |_::_,[],r,_=>r.elim
def Kb{m:Nat}(hm:m<3){ps:X9 0}{vs:x_ q_}{Q:jn SortKind}(r:HRs s.heap ps vs)(hs:∀p∈ps,fk p=m)(h0:0<vs.length)(h:Q (tuples'<|decide (m≠2)) s):p_ (keyKind' vs.toArray) Q E s:=by
 let⟨fs,hl,ht,hT⟩:=vZ (prog:=prog) (w:=w) hm r hs;refine kat_kind (T:=fkT m) ht ⋯ hT ?_ ?_
 ·match m,hm with
  |0,_=>rfl
  |1,_=>rfl
  |2,_=>rfl
 ·have:((fkT m) != XU "tuple")=decide (m≠2):=by
   match m,hm with
   |0,_=>rfl
   |1,_=>rfl
   |2,_=>rfl
  rw[this];show h
end
structure OkN(m:Nat)(xs:x_ PV):Prop where
 m3:m<3
 ky:∀x∈xs,x.ky 20=true
 fk:∀x∈xs,fk x=m
 lt:∀x∈xs,∀y∈xs,(ltP 20 x y).isSome=true
def OkN.inj{m:Nat}(h:OkN m xs):∀a∈xs,∀b∈xs,enc a=enc b->a=b:=λa ha b hb e=>by let⟨c,hc⟩:=Wz.mp<|h.lt a ha b hb;show Ka hc e
def He{m:Nat}(hm:m<3)(h:fk p=m):∃ps,p=.tup ps/\(decide (m≠2)=true->Hc ps):=by
 cases p with
 |tup xs=>
  refine⟨xs,rfl,λhd=>?_⟩;let d8:m≠2:=of_decide_eq_true hd;cases xs with
  |nil=>trivial
  |cons x xs=>cases x <;> first|trivial|(exact(d8 h.symm).elim)
 |_=>simp[fk]at h;omega
def HRs.getD{h:u_}{ps:X9 0}{vs:x_ q_}(r:HRs h ps vs)(hi:i<ps.length):HR h (ps.getD i .non) (vs.getD i UT):=by
 let g:ps[i]?=a_ (ps.getD i .non):=by simp[hi]
 let⟨v,hv,hr⟩:=r.at g;let e:vs.getD i UT=v:=by simp[Wh,hv]
 rw[e];show hr
abbrev zE:X9 0->y_ (x_ Str)
 |[]=>a_ []
 |.str x::r=>(zE r).map (x::·)
 |_=>b_
def BO:∀ss:x_ Str,zE (ss.map PV.str)=a_ ss
 |[]=>rfl
 |x::r=>by
  change(zE<|r.map PV.str).map (x::·)=_
  rw[BO r];rfl
def BP:∀{xs:X9 0}{ss:x_ Str},zE xs=a_ ss->xs=ss.map PV.str
 |[],ss,h=>by cases h;rfl
 |x::r,ss,h=>by
  cases x with
  |str z=>have h':(zE r).map (z::·)=a_ ss:=h;let⟨t,ht,rfl⟩:=UI.mp h';rw[BP ht];rfl
  |_=>cases h
abbrev unZ:x_ Key->Str
 |[.inr x]=>x
 |_=>""
abbrev BQ(ss:x_ Str):x_ Str:=(rK<|ss.map λx=>[(WO x:Key)]).map unZ
def DV(ss:x_ Str):(ss.map λx=>[(WO x:Key)]).map unZ=ss:=by rw[Vk];show(VZ λ_ _=>rfl).trans (List.map_id ss)
def CZ(ss:x_ Str):(BQ ss).Perm ss:=by have:=(fT<|ss.map λx=>[(WO x:Key)]).map unZ;rw[DV]at this;show this
abbrev rP:X9 0->PH->Rs PV:=λxs h=>match xs with
 |[.ref n]=>match aL h n with
  |some ys=>match zE ys with
   |some ss=>if ss.length<64 then .ok (.ref h.length) (h++[.lst<|(BQ ss).map PV.str]) else .bad
   |none=>.bad
  |none=>.bad
 |_=>.bad
set_option tactic.hygienic true in
def Kc{k:Nat}:lX C k X (.builtin "sorted") rP:=λc=>dJ.imp (by have:=rC (X:=X);rw[c.K]at this;show this) λvs H Q h=>by
 let⟨φ,h,ps,rh,rv,po⟩:=h;unfold rP at po;split at po
 ·rename_i n;split at po
  ·rename_i ys e;split at po
   ·rename_i ss es;let⟨hc,po⟩:=po.ite;let⟨v,rfl,rx⟩:=rv.one;let⟨a,rfl,ha⟩:=rx;let⟨a2,vs,aq,sa,ra⟩:=bO rh e;rw[ha]at aq;cases aq;let ey:=BP es;subst ey;let ev:=Ar.mp ra;subst ev;refine⟨a,ss,rfl,sa,hc,λl jc hl hp hs=>?_⟩;let e1:(jc.map λx=>[(WO x:Key)])=rK (ss.map λx=>[(WO x:Key)]):=by
     refine CU (S:=[false]) (λy hy=>?_) (hp.map _) ?_
     ·let⟨z,_,rfl⟩:=UO.mp hy;rfl
     ·cases jc with
      |nil=>exact .nil
      |cons x r=>exact tR hs
    let e2:BQ ss=jc:=by unfold BQ;rw[<-e1,DV]
    rw[e2]at po;show po.lnew rh (Ar.mpr rfl) hl
   ·show po.elim
  ·show po.elim
 ·show po.elim
variable{ss:x_ Str}
def BR(e:h[n]?=a_ (.lst<|ss.map PV.str))(hl:ss.length<64):∃zs:x_ Str,zs.Perm ss/\rP [.ref n] h=.ok (.ref h.length) (h++[.lst<|zs.map PV.str]):=by
 refine⟨BQ ss,CZ ss,?_⟩;let e1:aL h n=a_ (ss.map PV.str):=by simp[aL,e]
 simp only[rP,e1,BO];rw[if_pos hl]
@[reducible]def KP:=x_ Key×PV
abbrev tT(x:KP):x_ KP->x_ KP
 |[]=>[x]
 |y::ys=>if bI y.1 x.1=true then y::tT x ys else x::y::ys
abbrev iB:x_ KP->x_ KP
 |[]=>[]
 |x::xs=>tT x (iB xs)
def oA(x:KP):∀ys,(tT x ys).Perm (x::ys)
 |[]=>.refl _
 |y::ys=>by
  unfold tT;split
  ·show((oA x ys).cons y).trans (.swap x y ys)
  ·show .refl _
def iO:∀xs,(iB xs).Perm xs
 |[]=>.refl _
 |x::xs=>(oA x _).trans ((iO xs).cons x)
def qD{S:x_ Bool}{x:KP}(hx:shape x.1=S):∀{ys:x_ KP},(∀y∈ys,shape y.1=S)->ys.Pairwise (λa b=>bI b.1 a.1=false)->(tT x ys).Pairwise (λa b=>bI b.1 a.1=false)
 |[],_,_=>WE _ _
 |y::ys,hs,hp=>by
  let hy:=hs y Uy;let ig:=λz hz=>hs z<|Uw _ hz;rw[Vh]at hp;unfold tT;split
  ·rename_i h;rw[Vh];refine⟨λz hz=>?_,qD hx ig hp.2⟩;rcases UF.mp ((oA x ys).mem_iff.mp hz) with rfl|hz
   ·show uM h
   ·show hp.1 z hz
  ·rename_i h;let h':bI y.1 x.1=false:=by simpa using h
   rw[Vh];refine⟨λz hz=>?_,Vh.mpr hp⟩;rcases UF.mp hz with rfl|hz
   ·show h'
   ·show pO (hx.trans hy.symm) (hy.trans (ig z hz).symm) h' (hp.1 z hz)
def iZ{S:x_ Bool}:∀{xs:x_ KP},(∀y∈xs,shape y.1=S)->(iB xs).Pairwise (λa b=>bI b.1 a.1=false)
 |[],_=>.nil
 |x::xs,hs=>qD (hs x Uy) (λy hy=>hs y (Uw _<|(iO xs).mem_iff.mp hy)) (iZ λy hy=>hs y (Uw _ hy))
def zF{α β:Type}:∀{l:x_ (α×β)},(l.map (·.1)).Nodup->∀{a b:α×β},a∈l->b∈l->a.1=b.1->a=b
 |[],_,_,_,h,_,_=>nomatch h
 |x::l,nd,a,b,ha,hb,e=>by
  rw[UJ,VC]at nd;rcases UF.mp ha with rfl|ha'
  ·rcases UF.mp hb with rfl|hb'
   ·rfl
   ·show(nd.1<|UO.mpr ⟨b,hb',e.symm⟩).elim
  ·rcases UF.mp hb with rfl|hb'
   ·show(nd.1<|UO.mpr ⟨a,ha',e⟩).elim
   ·show zF nd.2 ha' hb' e
def wA{xs ys:x_ KP}(hs:∀y∈xs,shape y.1=S)(nd:(xs.map (·.1)).Nodup)(hp:ys.Perm xs)(h:ys.Pairwise (λa b=>bI b.1 a.1=false)):ys=iB xs:=by refine Xa (le:=λa b=>bI b.1 a.1=false) (λa b ha hb h1 h2=>?_) h (iZ hs)<|hp.trans (iO xs).symm;let ha':=hp.mem_iff.mp ha;let hb':=(iO xs).mem_iff.mp hb;show zF nd ha' hb'<|pN ((hs a ha').trans (hs b hb').symm) h2 h1
open Classical in
abbrev sortBy(b:Bool)(ks ys:X9 0):y_ (X9 0):=match vU ks with
 |some ab=>if ab.length<64/\ab.length=ys.length/\uD ab=true/\ab.Nodup then a_ ((XM b<|iB<|ab.zip ys).map (·.2)) else b_
 |none=>b_
def F4(h1:ab.length<64)(h2:ab.length=ys.length)(h3:uD ab=true)(h4:ab.Nodup):sortBy b (ab.map tP) ys=a_ ((XM b<|iB<|ab.zip ys).map (·.2)):=by unfold sortBy;rw[BH];show if_pos ⟨h1,h2,h3,h4⟩
abbrev iP(f:Fn)(b:Bool)(ys:X9 0):X9 0->X9 0->PH->Rs PV
 |[],ks,h=>match sortBy b ks ys with
  |some zs=>.ok (.ref h.length) (h++[.lst zs])
  |none=>.bad
 |x::xs,ks,h=>(f [x] h).bind λk h1=>iP f b ys xs (ks++[k]) h1
abbrev fE(x:PV)(h:PH):y_ (X9 0):=match x with
 |.ref n=>match aL h n with
  |some ys=>a_ ys
  |none=>qB h n
 |.fl ys=>a_ ys
 |_=>b_
abbrev oB(f:Fn)(b:Bool)(x:PV)(h:PH):Rs PV:=match fE x h with
 |some ys=>if ys.length<64 then iP f b ys ys [] h else .bad
 |none=>.bad
abbrev kJ(f:Fn)(b:Bool)(me:Me):Me:=λδ h=>(me δ h).bind λx h1=>oB f b x h1
def RVs.pick(r:C_ xs vs):∀{p:x_ Nat},(∀i∈p,i<xs.length)->C_ (p.map λi=>xs.getD i .non) (p.map λi=>vs.getD i .non)
 |[],_=>trivial
 |i::p,h=>by
  let hi:=h i Uy;let g:xs[i]?=a_ (xs.getD i .non):=by simp[hi]
  let⟨v,hv,hr⟩:=r.at g;let e:vs.getD i .non=v:=by simp[Wh,hv]
  refine⟨?_,RVs.pick r λj hj=>h j<|Uw _ hj⟩
  change j_ (xs.getD i .non) (vs.getD i .non)
  rw[e];show hr
def BS(I:H_ s)(ha:(e_ s)<=a):X.s₀.heap.objs.size<=a/\a≠X.env.locals/\(∀x c,L_ 0=a_ c->c≠a)/\(∀p∈X.pn++td,p.1≠a)/\a∉X.fs:=by
 refine⟨U1 I.sz ha,Vv<|UM I.lt ha,λx c e z=>?_,λp hp z=>?_,I.nofs ha⟩
 ·let⟨v,o,ho,_⟩:=I.cell x c e;rw[z]at ho;show absurd (UM (UE ho) ha)<|Vx _
 ·let ho:=(I.pin p hp).1;rw[z]at ho;show absurd (UM (UE ho) ha)<|Vx _
def eP{its:Ya 0}{e:Nat}:∀v,(seqObj "list" its e).data≠.cell v:=λv z=>nomatch z
def Inv.adopt{d:s_}(I:H_ s)(ha:H a=b_)(hd:H d=b_)(fa:X.s₀.heap.objs.size<=a/\a≠X.env.locals/\(∀x c,L_ 0=a_ c->c≠a)/\(∀p∈X.pn++td,p.1≠a)/\a∉X.fs)(fd:X.s₀.heap.objs.size<=d/\d≠X.env.locals/\(∀x c,L_ 0=a_ c->c≠d)/\(∀p∈X.pn++td,p.1≠d)/\d∉X.fs)(kp:∀x u,x≠a->x≠d->s.heap.get? x=a_ u->h'.get? x=a_ u)(new:Yj (R_ a o) h' a o):h_ (R_ a o) {s with heap:=h'}:=by
 let na:∀x u,H x=a_ u->x≠a:=λx u e z=>by rw[z,ha]at e;cases e
 let nd:∀x u,H x=a_ u->x≠d:=λx u e z=>by rw[z,hd]at e;cases e
 refine I.call' (s':={s with heap:=h'}) (ch:=[a,d]) rfl ⟨λb u q n _ hx=>?_,λb u q n _ hx=>⟨u.slots,?_⟩,λb u q n hx=>?_,λb u q hx=>⟨u,?_⟩,λb xs q=>?_,λb u xs q=>?_,λb ps q=>⟨#[],?_⟩⟩ (λb u e=>?_) I.bare λb hb=>?_
 ·show kp b u (λz=>hx<|by simp[z]) (λz=>hx<|by simp[z]) q
 ·show kp b u (λz=>hx<|by simp[z]) (λz=>hx<|by simp[z]) q
 ·rw[aH<|λz=>hx<|by simp[z]];show n
 ·show kp b u (λz=>hx<|by simp[z]) (λz=>hx<|by simp[z]) q
 ·rw[aH<|na _ _ q];show q
 ·rw[aH<|na _ _ q];show q
 ·rw[aH<|na _ _ q,q];simp
 ·by_cases hb:b=a
  ·subst hb;rw[aI]at e;cases e;show new
  ·rw[aH hb]at e;refine(I.hok b u e).stay (λc v hc q=>kp c v ?_ ?_ q) (λc q=>by rw[aH<|na _ _ q];show q) λc xs q=>by rw[aH<|na _ _ q];show q
   ·rcases hc with z|z
    ·rw[z];show hb
    ·show na _ _ z
   ·rcases hc with z|z
    ·rw[z];show nd _ _ e
    ·show nd _ _ z
 ·rcases UF.mp hb with rfl|hb
  ·show⟨.inr fa.1,fa.2.1,fa.2.2.1,fa.2.2.2.1⟩
  ·rw[UX.mp hb];show⟨.inr fd.1,fd.2.1,fd.2.2.1,fd.2.2.2.1⟩
abbrev Ng(C:MC)(X:Cx)(td:gV 0)(σ:St)(φ:x_ s_)(H:Hp)(f:Fn)(b:Bool)(ys:X9 0)(Q:VK)(a z:s_)(kS:s_)(e1:Nat)(ks:x_ q_)(e:Nat)(s':r_):Prop:=z<kS/\∃H' φ' h' zs ps,Inv X (td++[(kS,seqObj "list" ks.toArray e),(a,seqObj "list" #[] e1)]) σ H' s'/\φ<+:φ'/\Kp H H'/\Yn h'/\aJ zs ks/\RVs C φ' H' ps zs/\post C φ' H' (iP f b ys (ys.drop ks.length) ps h') Q
variable{A':t_}{pn:x_ Str}
def Hf{k:Nat}{q:s_}{f:Fn}{us:x_ V}{Q:VK}(c:X7 X)(D:Def C.K X.mg x st q fd pn)(G:E_ q fd pn (spM C 1 f))(hj:j+2<=k)(ry:C_ ys us)(rv:aJ us its)(eA:A'=X.A.in1.in1)(fr:∀kS,a<=kS->X.s₀.heap.objs.size<=kS/\kS≠X.env.locals/\(∀x c,L_ 0=a_ c->c≠kS)/\(∀p∈X.pn++td,p.1≠kS)/\kS∉X.fs)(kS:s_)(e1:Nat)(ks:x_ q_)(e:Nat)(s':r_)(y:q_)(hy:its[ks.length]?=a_ y)(hJ:Ng C X td σ φ H f b ys Q a a kS e1 ks e s'):
  wpAny (g_ X) A' (call (.ref q) [y]) (λv cu=>cu.heap.get? kS=a_ (seqObj "list" ks.toArray e)/\∀(h':u_) e',V1 kS cu.heap h'->h'.get? kS=a_ (seqObj "list" (ks++[v]).toArray e')->Ng C X td σ φ H f b ys Q a a kS e1 (ks++[v]) e' { cu with heap:=h'}) (λ_ _=>False) s':=by
 subst eA;let⟨hz,H',φ',h',zs,ps,I,pp,tt,rh,rz,rp,po⟩:=hJ;let ao:ks.length<its.length:=(SC.mp hy).1;let qh:us.length=its.length:=rv.length;let rq:ys.length=us.length:=ry.length;let gy:ys[ks.length]?=a_ (ys[ks.length]'⋯):=by simp
 let⟨u,hu,ru⟩:=ry.at gy;let⟨y',iz,vx⟩:=rv.get hu;rw[hy]at iz;cases iz
 let hd:ys.drop ks.length=ys[ks.length]'⋯::ys.drop (ks.length+1):=drop_cons gy;rw[hd]at po;let oz:=c.K;let G':G_ CX0 j q fd pn (spM C 1 f):=by rw[oz];show G
 let D':Def X.K X.mg x st q fd pn:=by rw[oz];show D
 let qt:spM C 1 f [u] H' (λv H2=>∃φ2 p h2,φ'<+:φ2/\Kp H' H2/\RH C φ2 H2 h2/\RV C φ2 H2 p v/\post C φ2 H2 (iP f b ys (ys.drop (ks.length+1)) (ps++[p]) h2) Q) E0:=⟨φ',h',[ys[ks.length]'⋯],rh,⟨ru.mono pp tt,trivial⟩,rfl,post.bind po⟩;let hl:([y]:x_ q_).length=pn.length:=G'.len _ _ _ _ qt;refine wpAny_call (codeAny_mono (G'.run X.A.in1.in1 X.stack s' H' ⟨[y],[]⟩ [y] [u] _ E0 ((c.room.mono hj).in1.in1) I.env0.in1.in1 (by
  have:=D'.bd s' [y] I.kIn<|ke hl
  simpa using this) (.cons vx .nil) qt) λr s2 hq=>?_)
 cases r with
 |error e=>exact hq.elim
 |ok fl=>
  cases fl with
  |next=>exact VV hq
  |brk=>exact VV hq
  |cont=>exact VV hq
  |ret v=>
   let⟨x2,H2,I2,vk,φ2,p2,h2,qr,qd,ah,qf,xi⟩:=I.after hq;let gk:=I2.pin (kS,seqObj "list" ks.toArray e)<|Ut _<|Ut _ Uy;let ga:=I2.pin (a,seqObj "list" #[] e1)<|Ut _<|Ut _<|Uw _ Uy;refine⟨gk.1,λg e' sb ip=>?_⟩;let fk:=fr kS<|VR hz;let wb:a≠kS:=UR hz;let I3:Inv X (td++[(a,seqObj "list" #[] e1)]) σ H2 s2:=I2.pins_of λp hp=>(UN.mp hp).elim (λz=>I2.pin p<|Ut _<|U8 _ z) λz=>by rw[UX.mp z];show ga
   let I4:=I3.turned (t':=s2.toks) (it:=kS) (h':=g) (λb' o' hb hq=>(sb.2 b' hb).trans hq) gk.2.1 fk.2.1 (.inr fk.1) fk.2.2.1 (λp hp=>by
    rcases UN.mp hp with hp|hp
    ·show fk.2.2.2.1 p (U8 _ hp)
    ·rcases UN.mp hp with hp|hp
     ·show fk.2.2.2.1 p (Ut _ hp)
     ·rw[UX.mp hp];show wb)
   refine⟨hz,H2,φ2,h2,zs++[x2],ps++[p2],I4.pins_of λp hp=>?_,pp.trans qr,tt.trans qd,ah,rz.append<|.cons vk .nil,(rp.mono qr qd).snoc qf,?_⟩
   ·rcases UN.mp hp with hp|hp
    ·show I4.pin p (Ut _<|U8 _ hp)
    ·rcases UF.mp hp with rfl|hp
     ·show⟨ip,gk.2.1,fk.2.1,fk.2.2.2.2,eP⟩
     ·rw[UX.mp hp];show I4.pin _<|Ut _<|Ut _ Uy
   ·rw[Vm];show xi
def BU(hl:ab.length=ys.length)(hs:∀y∈ab,shape y=S)(nd:ab.Nodup){p:x_ Nat}(hp:p.Perm (U9 ys.length))(ho:p.Pairwise (λi j=>(if b then bI (ab.getD i []) (ab.getD j []) else bI (ab.getD j []) (ab.getD i []))=false)):p.map (λi=>ys.getD i .non)=(XM b<|iB<|ab.zip ys).map (·.2):=by
 letI zs:=ab.zip ys;let vq:zs.length=ys.length:=by change(ab.zip ys).length=_;simp[hl]
 let cf:∀i∈p,i<ys.length:=λi hi=>by simpa using hp.mem_iff.mp hi
 let eg:∀i,i<ys.length->zs.getD i ([],.non)=(ab.getD i [],ys.getD i .non):=λi hi=>by
  let h1:i<ab.length:=⋯;let h2:i<zs.length:=⋯;let h3:(ab.zip ys)[i]?=a_ (ab[i],ys[i]):=by rw[W2];show⟨by simp[h1],by simp[hi]⟩
  change(ab.zip ys).getD i _=_
  simp[h1,hi,h3]
 let og:(p.map λi=>zs.getD i ([],.non)).Perm zs:=yT (by rw[vq];show hp);let hm:zs.map (·.1)=ab:=by
  change(ab.zip ys).map WN=ab
  show List.map_fst_zip ⋯
 let hsz:∀y∈zs,shape y.1=S:=λy hy=>hs _ (by rw[<-hm];show UO.mpr ⟨y,hy,rfl⟩);let e2:p.map (λi=>ys.getD i .non)=(p.map λi=>zs.getD i ([],.non)).map (·.2):=by rw[Vk];show VZ λi hi=>by change _=(zs.getD i _).2;rw[eg i<|cf i hi]
 rw[e2];let key:∀(R:Nat->Nat->Bool),p.Pairwise (λi j=>R i j=false)->(∀i j,i<ys.length->j<ys.length->R i j=bI (zs.getD j ([],.non)).1 (zs.getD i ([],.non)).1)->(p.map λi=>zs.getD i ([],.non)).Pairwise (λx y=>bI y.1 x.1=false):=λR h1 h2=>by rw[VP];show h1.imp_of_mem λ{i j} hi hj h=>by rw[<-h2 i j (cf i hi) (cf j hj)];show h
 cases b with
 |false=>
  congr 1;refine wA hsz (by rw[hm];show nd) og (key (λi j=>bI (ab.getD j [])<|ab.getD i []) ho λi j hi hj=>by rw[eg i hi,eg j hj])
 |true=>
  congr 1;let hr:(p.map λi=>zs.getD i ([],.non)).reverse=iB zs:=by refine wA hsz (by rw[hm];show nd) ((XE _).trans og) ?_;rw[Xz,VP];show ho.imp_of_mem λ{i j} hi hj h=>by rw[eg i<|cf i hi,eg j<|cf j hj];show h
  change _=(iB zs).reverse
  rw[<-hr,List.reverse_reverse]
variable{kw:x_ (Str×q_)}
def wB{k:Nat}{q:s_}{f:Fn}(c:X7 X)(D:Def C.K X.mg x st q fd pn)(G:E_ q fd pn (spM C 1 f))(hj:j+2<=k)(vg:∀v,argsOk "sorted" ⟨[v],kw⟩)(aq:∀v,argsOk "list.sort" ⟨[.ref v],kw⟩)(ht:∀v,Builtin.«list.sort» ⟨[.ref v],kw⟩=ksk_tree v (.ref q) b){Q:VK}{u:q_}(I:H_ s)(ru:RelV v u)(h:r1 C (oB f b) v H Q):
  wpAny (g_ X) X.A (call (.builtin "sorted") [u] kw) (X3 Q) X.xe s:=by
 let⟨φ,h,p,rh,rp,po⟩:=h;unfold oB at po;cases ei:fE p h with
 |none=>rw[ei]at po;show po.elim
 |some ys=>
 rw[ei]at po;let⟨jy,po⟩:=po.ite;refine call_function_entry_kw kind_sorted plain_sorted entry_sorted (vg u) ?_;unfold Builtin.«sorted»;refine SB (m:=checkCount "sorted" 1 1 _)<|SL ?_;let col:wpAny (g_ X) X.A.in1 (collect u) (λits s1=>∃us,H_ s1/\aJ us its/\C_ ys us) X.xe s:=by
  let dk:∀{a:s_}{vs:x_ V},v=.ref a->SqL C.K H a vs->C_ ys vs->wpAny (g_ X) X.A.in1 (collect u) (λits s1=>∃us,H_ s1/\aJ us its/\C_ ys us) X.xe s:=λ{a vs} ev sa ra=>by
   subst ev;cases ru
   let qp:SqL X.K H a vs:=by rw[c.K];show sa
   let⟨its,rv,pl,hz⟩:=I.list qp;refine collect_list pl.isList ?_ (by have:=rv.length;have:=ra.length;rw[Vs];omega);show⟨vs,I.kept (t':=s.toks) λb o e=>by
    let ao:b<(e_ s):=UE e
    first
     |(rw[Heap.get?_update_ne _ _ _ _<|UR ao,Heap.get?_push_ne _ _ _<|UR ao];show e)
     |exact SZ _ e,rv,ra⟩
  unfold fE at ei;split at ei
  ·rename_i n;split at ei
   ·rename_i Tn e;cases ei
    let⟨a,ev,ha⟩:=rp;let⟨a2,vs,aq,sa,ra⟩:=bO rh e;rw[ha]at aq;cases aq;show dk ev sa ra
   ·unfold qB at ei;split at ei
    ·rename_i d hv;let⟨a,ev,ha⟩:=rp;subst ev;cases ru
     let⟨bb,hb,hH⟩:=Yb hv;let⟨hT,hm,hz,oc,es,ep,g1,g2,ws,r1,r2⟩:=vW c I rh hb ei;let oj:s.heap.IsValuesView a bb:=(I.hok a _ hH).1;let hn:es.size<=UG:=by
      let e1:=r1.length;let e2:ws.length=es.size:=by have:=r2.length;simpa using this
      rw[<-e2,<-e1];show hz
     refine PySem.W.kdu_collect (Bo (r:=a) g2) (I.ok.hd c.calm) ⟨oj,g1⟩ hn λh' tk acc hk ak=>?_;show⟨ws,I.kept (t':=tk) hk,by rw[BM ak];show r2,r1⟩
    ·cases ei
  ·cases ei
   let⟨a,vs,ev,sa,ra⟩:=rp;show dk ev sa.sq ra
  ·cases ei
 refine SB<|WH col (λits s1 hh=>?_) λ_ _ z=>z;let⟨us,I1,rv,ry⟩:=hh;let qh:us.length=its.length:=rv.length;let rq:ys.length=us.length:=ry.length;refine SB (wpAny_newList ?_ (by rw[Vs];omega));let k8:(s1.heap.push<|seqObj "list" its.toArray 0).get? (e_ s1)=a_ (seqObj "list" its.toArray 0):=Yo 0;let keep:∀b o,s1.heap.get? b=a_ o->b≠(e_ s1)/\(s1.heap.push<|seqObj "list" its.toArray 0).get? b=a_ o:=λb o q=>⟨UR<|UE q,SZ _ q⟩;let fr:∀kS,(e_ s1)<=kS->X.s₀.heap.objs.size<=kS/\kS≠X.env.locals/\(∀x c,L_ 0=a_ c->c≠kS)/\(∀p∈X.pn++td,p.1≠kS)/\kS∉X.fs:=λkS hk=>BS I1 hk
 change B_ _ _ _ {s1 with heap:=s1.heap.push (seqObj "list" its.toArray 0)}
 refine SB<|VY<|wpAny_call_entry_kw slot_list_sort ⟨_,k8,rfl⟩ entry_list_sort ?body<|aq _
 case body=>
  change wpAny (g_ X) X.A.in1.in1 (Builtin.«list.sort» ⟨[.ref<|e_ s1],kw⟩) _ _ _
  rw[ht<|e_ s1];refine vJ (s:={s1 with heap:=s1.heap.push (seqObj "list" its.toArray 0)}) (a:=(e_ s1)) (κ:=tuples' true) (vs:=its) k8 ⋯ (Ng C X td σ φ H f b ys Q (e_ s1)<|e_ s1) ?h0 ?dj ?turn ?fin
  case h0=>
   intro kS e1 h' kp hk g1 g2;let fv:(e_ s1)<kS:=by have:(s1.heap.push<|seqObj "list" its.toArray 0).objs.size<=kS:=hk;rw[VL]at this;show this
   let I2:H_ {s1 with heap:=h'}:=I1.kept (t':=s1.toks) λb o q=>kp b o (keep b o q).1 (keep b o q).2;let fk:=fr kS<|VR fv;let fa:=fr (e_ s1)<|Uv _;refine⟨fv,H,φ,h,[],[],I2.pins_of λp hp=>?_,Ux,Kp.refl H,rh,.nil,trivial,po⟩;rcases UN.mp hp with hp|hp
   ·show I2.pin p (Ut _ hp)
   ·rcases UF.mp hp with rfl|hp
    ·show⟨g2,I1.hok.fresh<|VR fv,fk.2.1,fk.2.2.2.2,eP⟩
    ·rw[UX.mp hp];show⟨g1,I1.hok.fresh<|Uv _,fa.2.1,fa.2.2.2.2,eP⟩
  case dj=>rintro kS e1 ks e s' ⟨hz,H',φ',h',zs,ps,I',_⟩;show⟨Vv hz,(I'.pin (s1.heap.objs.size,seqObj "list" #[] e1)<|Ut _<|Ut _<|Uw _ Uy).1,(I'.pin (kS,seqObj "list" ks.toArray e)<|Ut _<|Ut _ Uy).1⟩
  case turn=>intro kS e1 ks e s' y hy hJ;show Hf c D G hj ry rv rfl fr kS e1 ks e s' y hy hJ
  case fin=>
   rintro kS e1 ks e s' hl ⟨hz,H',φ',h',zs,ps,I',pp,tt,bf,rz,rp',po'⟩;let hd:ys.drop ks.length=[]:=List.drop_eq_nil_of_le ⋯;rw[hd]at po';unfold iP at po';cases es:sortBy b ps ys with
   |none=>rw[es]at po';show po'.elim
   |some out=>
   rw[es]at po';unfold sortBy at es;split at es
   ·rename_i ab ek;split at es
    ·rename_i hc;let⟨Sm,dr,Tx,yf⟩:=hc;cases es
     let ep:=BG ek;subst ep;let⟨bb,sh,hsh⟩:=CV Tx;let rr:eV X.K H' (ab.map tD) zs:=by rw[c.K];show DS.mp rp'
     let tk:=vE I' rr rz;let f9:∀i,i<its.length->shape (ab.getD i [])=bb::sh:=λi hi=>by
      let bc:i<ab.length:=⋯;have:ab.getD i []=ab[i]:=by simp[bc]
      rw[this];show hsh _<|List.getElem_mem bc
     refine⟨λi j=>bI (ab.getD i [])<|ab.getD j [],λi j k hi hj hk h1 h2=>?_,λi j _ _ h=>uM h,λh2 Q' E' hq=>?_,λi j hi hj Q' hq=>?_,λp g e2 a1 a2 kp he gk=>?_⟩
     ·show pO ((f9 i hi).trans (f9 j hj).symm) ((f9 j hj).trans (f9 k hk).symm) h1 h2
     ·show EJ tk hsh ⋯ hq
     ·let⟨a,ua,q1,p1,r1⟩:=tk.get (i:=i) ⋯;let⟨d,ud,q2,p2,r2⟩:=tk.get (i:=j) ⋯;rw[q1,q2];show CD p1 p2 r1 r2 ((f9 i hi).trans (f9 j hj).symm) hq
     ·let cf:∀i∈p,i<its.length:=λi hi=>by simpa using a1.mem_iff.mp hi
      let fa:=fr (e_ s1)<|Uv _;let fk:=fr kS<|VR hz;let wt:=I'.pin (kS,seqObj "list" ks.toArray e)<|Ut _<|Ut _ Uy;let r9:=I'.pin (s1.heap.objs.size,seqObj "list" #[] e1)<|Ut _<|Ut _<|Uw _ Uy;let I5:h_ H' s':=I'.unpinned;let I6:=I5.adopt (a:=(e_ s1)) (d:=kS) (o:=.lst<|p.map λi=>us.getD i .non) (h':=g) r9.2.1 wt.2.1 fa fk (λx o h1 h2 q=>kp x o h1 h2 q) (by refine⟨?_,p.map<|λi=>its.getD i UT,e2,rE rv (λi hi=>by have:=cf i hi;omega),he⟩;rw[Uu,a1.length_eq,List.length_range,Vs];omega)
      refine⟨_,rfl,SL ⟨_,rfl,.ref<|e_ s1,_,I6,rfl,?_⟩⟩;refine po'.lnew bf ?_ r9.2.1;rw[<-BU (b:=b) dr hsh yf (p:=p) (by rw[rq,qh];show a1) a2];show(ry.mono pp tt).pick (λi hi=>by have:=cf i hi;omega)
    ·cases es
   ·cases es
variable{dq kp:Pos}{kf:Str}
section
variable{q:s_}{jb:Nat}{f:Fn}{p rp iu:Pos}
def BV{Q:VK}(h:rd C (kJ f b me) σ H Q):FT (rd C me) FQ σ H λvs H1=>∃x,vs=[x]/\r1 C (oB f b) x H1 Q:=by let⟨φ,δ,h,rh,re,po⟩:=h;refine⟨φ,δ,h,rh,re,(post.bind po).imp ?_⟩;rintro v H1 ⟨φ1,x,h1,p1,t1,aa,ae,q1⟩;show⟨v,rfl,φ1,h1,x,aa,ae,q1⟩
def Kd{k:Nat}(D:Def C.K X.mg kf st q fd pn)(G:E_ q fd pn (spM C 1 f))(he:D_ e me)(hb:("sorted" : Str)∈C.bs)(hj:j+2<=k:=by decide)(hg:Gl X "sorted" := by rfl)(pb:Gl X kf:=by rfl)(hdk:(kf == ("__debug__" : Str))=false:=by decide)(dg:UL [e] X.env=(false,S_ 0)::UL [] X.env:=by rfl)(qu:Yc (UL [e] X.env)=(false,S_ 0)::Yc (UL [] X.env):=by rfl)(bh:(Yc<|UL [e] X.env).any (·.1)=false:=by rfl):
  D_ (.Call (.Name "sorted" p) [e] [⟨a_ "key",.Name kf kp,dq⟩] pos) (kJ f false me):=λc td s σ H Q I h=>by
 refine VS (jS I hg (c.bn _ hb) PyProof.Rows.Boot.«sorted» ?_ (by decide) (by decide));refine callWith_kw (thn (uK (he c) A0 dg pos td s σ H _ I<|BV h) λus s1 hh=>?_) qu bh;let⟨vs,H1,I1,rv,x,rfl,r⟩:=hh;let⟨u,rfl,ru⟩:=vals1 rv;refine kws_cons<|iL I1 pb D.mg (kws_nil ?_) hdk
 change B_ (call (.builtin "sorted") [u] [(UB "key",.ref q)]) _ _ _
 show wB c D G hj (λv=>ksk_s1 _ _) (λv=>ksk_l1 _ _) (λv=>ksk_t1 _ _) I1 ru r
def Hg{k:Nat}(D:Def C.K X.mg kf st q fd pn)(G:E_ q fd pn (spM C 1 f))(he:D_ e me)(hb:("sorted" : Str)∈C.bs)(hj:j+2<=k:=by decide)(hg:Gl X "sorted" := by rfl)(pb:Gl X kf:=by rfl)(hdk:(kf == ("__debug__" : Str))=false:=by decide)(dg:UL [e] X.env=(false,S_ 0)::UL [] X.env:=by rfl)(qu:Yc (UL [e] X.env)=(false,S_ 0)::Yc (UL [] X.env):=by rfl)(bh:(Yc<|UL [e] X.env).any (·.1)=false:=by rfl):
  D_ (.Call (.Name "sorted" p) [e] [⟨a_ "key",.Name kf kp,dq⟩,⟨a_ "reverse",.Constant (.bool b) jb rp,iu⟩] pos) (kJ f b me):=λc td s σ H Q I h=>by
 refine VS (jS I hg (c.bn _ hb) PyProof.Rows.Boot.«sorted» ?_ (by decide) (by decide));refine callWith_kw (thn (uK (he c) A0 dg pos td s σ H _ I<|BV h) λus s1 hh=>?_) qu bh;let⟨vs,H1,I1,rv,x,rfl,r⟩:=hh;let⟨u,rfl,ru⟩:=vals1 rv;refine kws_cons<|iL I1 pb D.mg (kws_cons<|Constant_bool<|kws_nil ?_) hdk
 change B_ (call (.builtin "sorted") [u] [(UB "key",.ref q),(UB "reverse",.bool b)]) _ _ _
 show wB c D G hj (λv=>ksk_s2 _ _ _) (λv=>ksk_l2 _ _ _) (λv=>ksk_t2 _ _ _) I1 ru r
end
open PySem
section
variable{α:Type}(key:α->x_ Key)
abbrev F5(x:α):x_ α->x_ α
 |[]=>[x]
 |y::ys=>if bI (key y) (key x)=true then y::F5 x ys else x::y::ys
abbrev mG:x_ α->x_ α
 |[]=>[]
 |x::xs=>F5 key x (mG xs)
variable{key}
def zG(x:α):∀ys,(F5 key x ys).Perm (x::ys)
 |[]=>.refl _
 |y::ys=>by
  unfold F5;split
  ·show((zG x ys).cons y).trans (.swap x y ys)
  ·show .refl _
def oC:∀xs,(mG key xs).Perm xs
 |[]=>.refl _
 |x::xs=>(zG x _).trans ((oC xs).cons x)
def BW(f:α->PV)(x:α):∀ys:x_ α,tT (key x,f x) (ys.map λy=>(key y,f y))=(F5 key x ys).map λy=>(key y,f y)
 |[]=>rfl
 |y::ys=>by
  rw[UJ];unfold tT F5;dsimp only;split
  ·rw[BW f x ys];rfl
  ·rfl
def rQ(f:α->PV):∀xs:x_ α,iB (xs.map λy=>(key y,f y))=(mG key xs).map λy=>(key y,f y)
 |[]=>rfl
 |x::xs=>by rw[UJ];unfold iB mG;rw[rQ f xs,BW]
def Au(f:α->PV){xs:x_ α}(hs:∀x∈xs,shape (key x)=S):(mG key xs).Pairwise (λa b=>bI (key b) (key a)=false):=by
 let h:=iZ (S:=S) (xs:=xs.map λy=>(key y,f y)) (λy hy=>by let⟨x,hx,rfl⟩:=UO.mp hy;show hs x hx);rw[rQ,VP]at h;show h
def BX{β γ:Type}(f:α->β)(g:α->γ):∀xs:x_ α,(xs.map f).zip (xs.map g)=xs.map λx=>(f x,g x)
 |[]=>rfl
 |x::xs=>by simp[BX f g xs]
def Hh{f:α->PV}{xs:x_ α}(h1:xs.length<64)(h3:uD (xs.map key)=true)(h4:(xs.map key).Nodup):sortBy b ((xs.map key).map tP) (xs.map f)=a_ ((XM b<|mG key xs).map f):=by
 rw[F4 (ke h1) (by simp) h3 h4,BX,rQ];cases b with
 |false=>
  change a_ (((mG key xs).map λy=>(key y,f y)).map Prod.snd)=a_ ((mG key xs).map f)
  rw[Vk];rfl
 |true=>
  change a_ ((((mG key xs).map λy=>(key y,f y)).reverse).map Prod.snd)=a_ ((mG key xs).reverse.map f)
  rw[<-List.map_reverse,Vk];rfl
def Hi{f:Fn}{b:Bool}{emb:α->PV}{ys zs:X9 0}{Q:PV->PH->Prop}:∀(r done:x_ α)(h:PH),(∀d∈r,∀h(Q:PV->PH->Prop),(∀h',X5 h'->Q (tP<|key d) h')->(f [emb d] h).W Q)->
  sortBy b (((done++r).map key).map tP) ys=a_ zs->(∀h',X5 h'->Q (.ref h'.length) (h'++[.lst zs]))->(iP f b ys (r.map emb) ((done.map key).map tP) h).W Q
 |[],done,h,_,hs,k=>by rw[Ws]at hs;simp only[XW,iP,hs,rH];show k h<|Ext.refl h
 |x::r,done,h,hf,hs,k=>by
  rw[UJ];unfold iP;rw[Ah];refine hf x Uy h _ λh1 x1=>?_;let e:(done.map key).map tP++[tP<|key x]=((done++[x]).map key).map tP:=by simp
  rw[e];show Hi r (done++[x]) h1 (λd hd=>hf d<|Uw _ hd) (by rw[XD];show hs) λh' x2=>k h'<|x1.trans x2
def Av{f:Fn}{emb:α->PV}{xs:x_ α}{x:PV}{Q:PV->PH->Prop}(e:fE x h=a_ (xs.map emb))(h1:xs.length<64)(h3:uD (xs.map key)=true)(hs:∀x∈xs,shape (key x)=S)(h4:(xs.map key).Nodup)(hf:∀d∈xs,∀h(Q:PV->PH->Prop),(∀h',X5 h'->Q (tP<|key d) h')->(f [emb d] h).W Q)(k:∀(os:x_ α) h',X5 h'->os.Perm xs->os.Pairwise (λp q=>(if b then bI (key p) (key q) else bI (key q) (key p))=false)->Q (.ref h'.length) (h'++[.lst<|os.map emb])):(oB f b x h).W Q:=by
 unfold oB;rw[e];dsimp only;rw[if_pos<|ke h1];refine Hi (key:=key) xs [] h hf (Hh h1 h3 h4) λh' hx=>k _ h' hx ?_ ?_
 ·cases b with
  |false=>exact oC xs
  |true=>exact(XE _).trans (oC xs)
 ·let hp:=Au emb hs;cases b with
  |false=>exact hp
  |true=>
   change((mG key xs).reverse).Pairwise _
   rw[Xz];show hp
end
@[simp]theorem O8{f:Fn}:kJ f b m δ h=(m δ h).bind λx h1=>oB f b x h1:=(rfl)
def oE(e:h[n]?=a_ (.lst xs)):fE (.ref n) h=a_ xs:=by simp[fE,aL,e]
def zH(e:bJ h n=a_ kvs):kG h n=a_ (kvs.map (·.2)):=by
 unfold bJ at e;split at e
 ·rename_i q;cases e;simp[kG,q]
 ·rename_i q;cases e;simp[kG,q]
 ·cases e
def fU(e:bJ h n=a_ kvs):∃o,h[n]?=a_ o/\bH (.ref n) h=true/\∀h',h'[n]?=a_ o->bJ h' n=a_ kvs:=by
 unfold bJ at e;split at e
 ·rename_i q;cases e;show⟨_,q,by simp[bH,q],λh' e=>by simp[bJ,e]⟩
 ·rename_i q;cases e;show⟨_,q,by simp[bH,q],λh' e=>by simp[bJ,e]⟩
 ·cases e
def Hj{h':PH}(x:X5 h')(e:bJ h n=a_ kvs):bJ h' n=a_ kvs:=by let⟨o,g,_,k⟩:=fU e;show k h'<|x _ _ g
def BY{d:Nat}(e:h[n]?=a_ (.vw 1 d))(e2:bJ h d=a_ kvs):fE (.ref n) h=a_ (kvs.map (·.2)):=by
 let e1:aL h n=b_:=by simp[aL,e]
 simp only[fE,e1,qB,e];show zH e2
def Ke{d:Nat}(e:bJ h d=a_ kvs):zB (.ref d) [] h=.ok (.ref h.length) (h++[.vw 1 d]):=by simp[zB,zH e]
def D0(e:bJ h n=a_ kvs)(hk:(PV.tup xs).ky 6=true)(hl:kvs.length<16777216):lR (.ref n) (.tup xs) z h=a_ (Yr<|.dD<|iY kvs (.tup xs) z):=by
 let k1:(PV.tup xs).isKt=true:=hk;let j9:kvs.length<UG:=by rw[kB];show hl
 unfold lR;simp only[vN,k1,if_true,e];rw[if_pos j9]
def F6(e:bJ h n=a_ kvs)(hk:(PV.tup xs).ky 6=true):bD (.tup xs) (.ref n) h=.ok (.bl<|!(aP kvs<|.tup xs).isSome) h:=by
 let k1:(PV.tup xs).isKt=true:=hk;have:eW (.tup xs) (.ref n) h=a_ (aP kvs<|.tup xs):=by simp only[eW,k1,if_true,e,Xb]
 unfold bD;rw[this]
def Nh(e:bJ h n=a_ kvs)(hk:(PV.tup xs).ky 6=true):kF (.tup xs) (.ref n) h=.ok (.bl (aP kvs<|.tup xs).isSome) h:=by
 let k1:(PV.tup xs).isKt=true:=hk;have:eW (.tup xs) (.ref n) h=a_ (aP kvs<|.tup xs):=by simp only[eW,k1,if_true,e,Xb]
 unfold kF;rw[this]
@[simp]theorem Ni:vQ .non=true:=(rfl)
def Ext.setN{hX:PH}{o:MO}(x:X5 hX)(hn:h.length<=n):X5 (hX.set n o):=λm o' e=>by have:=(SC.mp e).1;rw[VH ⋯];show x m o' e
def Nj{kvs:x_ (Key×PV)}(e:h[n]?=a_ (.dK kvs)):vIx (.ref n) (.str x) h=ofO (aP kvs<|.inr x) h:=by
 let e1:aL h n=b_:=by simp[aL,e]
 simp[vIx,e1,Ae,e,vN]
def zI{m:Nat}(e1:h[n]?=a_ (.lst xs))(e2:h[m]?=a_ (.lst ys))(c:xs.length+ys.length<=16777216):aY (.ref n) (.ref m) h=.ok (.ref h.length) (h++[.lst<|xs++ys]):=by
 change Gn (.ref n) (.ref m) h=_
 simp[Gn,dM,e1,e2,c]
abbrev gI(f:Str)(p:PV):x_ (Str×PV)->x_ (Str×PV)
 |[]=>[(f,p)]
 |(g,x)::r=>if g=f then(g,p)::r else(g,x)::gI f p r
abbrev mH(x:PV)(h:PH):y_ (Nat×Str×x_ (Str×PV)):=match x with
 |.ref n=>match h[n]? with
  |some (.ins c fs)=>a_ (n,c,fs)
  |_=>b_
 |_=>b_
abbrev aU(f:Str):PV->PH->Rs PV:=λx h=>match mH x h with
 |some (_,_,fs)=>match fs.lookup f with
  |some p=>.ok p h
  |none=>.bad
 |none=>.bad
abbrev tU(f:Str)(x y:PV)(h:PH):y_ PH:=match mH x h with
 |some (n,c,fs)=>if fs.length<1000 then a_ (Yr<|.ins c<|gI f y fs) else b_
 |none=>b_
def Hk{fs:x_ (Str×PV)}{ks:x_ (Str×V)}(r:RKv C φ H fs ks)(f:Str)(rv:j_ p v):RKv C φ H (gI f p fs) (jH f v ks):=by
 unfold RKv at r⊢
 induction r with
 |nil=>exact .cons ⟨rfl,rv⟩ .nil
 | @cons a b as bs h t ih=>
  let⟨a1,a2⟩:=a;let⟨b1,b2⟩:=b;let e:a1=b1:=h.1;subst e;unfold gI jH;by_cases z:a1=f
  ·rw[if_pos z,if_pos z];show .cons ⟨rfl,rv⟩ t
  ·rw[if_neg z,if_neg z];show .cons h ih
def wC{fs:x_ (Str×PV)}{ks:x_ (Str×V)}(r:RKv C φ H fs ks)(f:Str):(fs.lookup f=b_/\ks.lookup f=b_)\/∃p v,fs.lookup f=a_ p/\ks.lookup f=a_ v/\j_ p v:=by
 unfold RKv at r
 induction r with
 |nil=>exact .inl ⟨rfl,rfl⟩
 | @cons a b as bs h t ih=>
  let⟨a1,a2⟩:=a;let⟨b1,b2⟩:=b;let e:a1=b1:=h.1;subst e;simp only[UU];cases z:(f == a1) with
  |true=>exact .inr ⟨a2,b2,rfl,rfl,h.2⟩
  |false=>exact ih
variable{c:Str}
set_option tactic.hygienic true in
def wD{x:PV}{fs:x_ (Str×PV)}(rh:FR h)(rv:j_ x v)(e:mH x h=a_ (n,c,fs)):
  ∃a ca dx ks,x=.ref n/\v=.ref a/\φ[n]?=a_ a/\h[n]?=a_ (.ins c fs)/\C.cl c=a_ ca/\H a=a_ (.ins ca dx ks)/\RKv C φ H fs ks:=by
 unfold mH at e;cases x with
 |ref m=>
  let⟨a,rfl,ha⟩:=rv;dsimp only at e;split at e
  ·rename_i c' tw q;cases e
   let⟨ca,dx,ks,h1,h2,h3⟩:=rh.at' _ a _ ha q;show⟨a,ca,dx,ks,rfl,rfl,ha,q,h1,h2,h3⟩
  ·cases e
 |_=>cases e
abbrev Hl(C:MC)(f:Str):Prop:=∀c a,C.cl c=a_ a->Cls C.K a/\jU C.K a f
variable{h3:PH}{mv:Me}{value:v_}
section
variable{o:v_}{f:Str}{jk:Pos}
def PY{k:Nat}(hF:Hl C f)(he:D_ e m)(hb:Xe e f X.env (S_ 0)=S_ 0:=by rfl):D_ (.Attribute e f pos) (mUn (aU f) m):=λc=>
 (M6 (he c) hb).imp λσ H Q h=>by
  let⟨φ,δ,h,rh,re,p⟩:=h;refine⟨φ,δ,h,rh,re,(post.bind p).imp ?_⟩;rintro v H1 ⟨φ1,x,h1,p1,t1,aa,ae,q1⟩;unfold aU at q1;cases ei:mH x h1 with
  |none=>rw[ei]at q1;show q1.elim
  |some z=>
   let⟨n,cn,fs⟩:=z;rw[ei]at q1;dsimp only at q1;let⟨a,ca,dx,ks,rfl,rfl,ha,hh,hc,hH,rk⟩:=wD aa ae ei;let⟨cl,na⟩:=hF cn ca hc;rcases wC rk f with⟨l1,_⟩|⟨y,u,l1,l2,ru⟩
   ·rw[l1]at q1;show q1.elim
   ·rw[l1]at q1;show⟨a,ca,dx,ks,u,rfl,hH,by rw[c.K];show cl,by rw[c.K];show na,l2,q1.val aa ru⟩
abbrev dO(f:Str)(mo mv:Me):Ms:=λδ h=>(mv δ h).fl λy h1=>(mo δ h1).fl λx h2=>match tU f x y h2 with
 |some h3=>.nx δ h3
 |none=>.bad
def Kf{k:Nat}{x y:PV}{u:V}{D:Ends}(c:X7 X)(hF:Hl C f)(rh:FR h)(re:Yi 0)(rx:j_ x v)(ry:j_ y u)(es:tU f x y h=a_ h3)(q:bY C φ H (.nx δ h3) D):
  ∃a ca dx ks,v=.ref a/\H a=a_ (.ins ca dx ks)/\Cls X.K ca/\jU X.K ca f/\ks.length<1000/\D.nx σ (R_ a<|.ins ca dx<|jH f u ks)/\∃n cn fs,mH x h=a_ (n,cn,fs)/\C.cl cn=a_ ca:=by
 unfold tU at es;cases ei:mH x h with
 |none=>rw[ei]at es;cases es
 |some z=>
  let⟨n,cn,fs⟩:=z;rw[ei]at es;dsimp only at es;split at es
  ·rename_i hl;cases es
   let⟨a,ca,dx,ks,rfl,rfl,ha,hh,hc,hH,rk⟩:=wD rh rx ei;let⟨cl,na⟩:=hF cn ca hc;let kp:Kp H (R_ a<|.ins ca dx<|jH f u ks):=Kp.upd (by rw[hH];trivial);refine⟨a,ca,dx,ks,rfl,hH,by rw[c.K];show cl,by rw[c.K];show na,by rw[<-Ve rk];show hl,?_⟩;refine⟨q φ σ _ Ux kp (rh.write ha (by rw[hH];trivial) ⟨ca,dx,_,hc,aI,?_⟩)<|re.mono Ux kp,n,cn,fs,rfl,hc⟩;show(Hk rk f ry).mono Ux kp
  ·cases es
def PZ{k:Nat}(hF:Hl C f)(hv:D_ value mv)(ho:D_ o mo)(hs:XX value (a_<|.Attribute o f pos') pos.line X.env=pure false:=by rfl):SSt C k X (.Assign [.Attribute o f pos'] value pos) (dO f mo mv):=λc=>
 (M7 (ho c) (hv c) hs).imp λD σ H h=>by
  let⟨φ,δ,h,rh,re,p⟩:=h;refine⟨φ,δ,h,rh,re,(post.fl p).imp ?_⟩;rintro u H1 ⟨φ1,y,h1,p1,t1,aa,ae,q1⟩;refine⟨φ1,δ,h1,aa,O_ 0,(post.fl q1).imp ?_⟩;rintro v H2 ⟨φ2,x,h2,p2,t2,ah,bq,q2⟩;cases es:tU f x y h2 with
  |none=>rw[es]at q2;show q2.elim
  |some h3=>rw[es]at q2;let⟨a,ca,dx,ks,g1,g2,g3,g4,g5,g6,_⟩:=Kf c hF ah ((O_ 0).mono p2 t2) bq (ae.mono p2 t2) es q2;show⟨a,ca,dx,ks,g1,g2,g3,g4,g5,g6⟩
end
abbrev BZ(C:MC)(X:Cx)(k:Nat)(m:Str)(n:Nat)(tb:Str->y_ Fn):Prop:=∀c a f,C.cl c=a_ a->tb c=a_ f->
 ∃g fd ps j,Cls C.K a/\Eo C.K a m g/\j<=k/\E_ g fd ps (spM C (n+1) f)/\Binds C.K fd ps []
def Nk{k:Nat}{m:Str}:BZ C X k m n (λ_=>b_):=λ_ _ _ _ h=>nomatch h
def Kg{k:Nat}{m:Str}{g:s_}{f:Fn}{tb:Str->y_ Fn}(hc:C.cl c=a_ a)(hC:Cls C.K a)(me:Eo C.K a m g)(hj:j<=k)(G:E_ g fd ps (spM C (n+1) f))(B:Binds C.K fd ps [])(r:BZ C X k m n tb):
  BZ C X k m n (λz=>if z=c then a_ f else tb z):=λc' a' f' h1 h2=>by
 let fe:(if c'=c then a_ f else tb c')=a_ f':=h2;by_cases e:c'=c
 ·subst e;rw[hc]at h1;cases h1
  rw[X2 0]at fe;cases fe
  show⟨g,fd,ps,j,hC,me,hj,G,B⟩
 ·rw[if_neg e]at fe;show r c' a' f' h1 fe
abbrev dS(m:Str)(n:Nat)(tb:Str->y_ Fn)(mo:Me)(ms:Ma):Me:=λδ h=>(mo δ h).bind λx h1=>match mH x h1 with
 |some (_,c,fs)=>match tb c,fs.lookup m with
  |some f,b_=>(ms δ h1).bind λps h2=>if ps.length=n then f (x::ps) h2 else .bad
  |_,_=>.bad
 |none=>.bad
section
variable{o:v_}{m:Str}{tb:Str->y_ Fn}{pl:Sem Bool}
def Nl{k:Nat}(hM:BZ C X k m n tb)(ho:D_ o mo)(ha:SA C k X (e::es) ms)(dg:UL (e::es) X.env=(false,S_ 0)::U_ 0:=by rfl)(bh:(Yc (U_ 0)).any (·.1)=false:=by rfl)(ht:eval (.Call (.Attribute o m apos) (e::es) [] pos) X.env=(do
   let ov <-eval o X.env
   standAt apos.atName
   let (f,first) <-holding [ov] (getMethod ov m pl)
   callWith pos f first (Yc (UL (e::es) X.env)) (backToKw pos (keywordEach [] X.env))):=by rfl):
  D_ (.Call (.Attribute o m apos) (e::es) [] pos) (dS m n tb mo ms):=λc td s σ H Q I h=>by
 let⟨φ,δ,h,rh,re,p⟩:=h
 refine PySem.W.methodCall_KW (pl:=pl) (thn (ho c td s σ H _ I ⟨φ,δ,h,rh,re,post.bind p⟩) λu s1 hh=>?_) ht
 let⟨v,H1,I1,ru,φ1,x,h1,p1,t1,aa,ae,q1⟩:=hh
 cases ei:mH x h1 with
 |none=>rw[ei]at q1;exact q1.elim
 |some z=>
  let⟨n',cn,fs⟩:=z
  rw[ei]at q1
  dsimp only at q1
  let⟨a,ca,dx,ks,rfl,rfl,hφ,hh,hc,hH,rk⟩:=wD aa ae ei
  cases et:tb cn with
  |none=>rw[et]at q1;exact q1.elim
  |some f=>
   rw[et]at q1
   rcases wC rk m with⟨l1,l2⟩|⟨y,u',l1,_⟩
   ·rw[l1]at q1
    dsimp only at q1
    let⟨g,fd,ps,j,cl,me,hj,F,bd⟩:=hM cn ca f hc et
    have To:Cls X.K ca:=by rw[c.K];exact cl
    have Sg:Eo X.K ca m g:=by rw[c.K];exact me
    have F':G_ CX0 j g fd ps (spM C (n+1) f):=by rw[c.K];exact F
    have ql:Binds X.K fd ps []:=by rw[c.K];exact bd
    cases ru
    refine Cp I1 hH To Sg l2 ?_
    refine PySem.W.callWith_K (first:=[.ref a]) (h₀:=X.base) I.ok.mod.kin Sg.kp (thn (ha c pos td s1 σ H1 _ I1 ⟨φ1,δ,h1,aa,O_ 0,postA.bind q1⟩) λus s2 h2=>?_) dg bh
    let⟨vs,H2,I2,r2,φ2,zs,h3,p2,t2,ah,bq,q2⟩:=h2
    let⟨hl,q2⟩:=q2.ite
    refine⟨I2.kIn,?_⟩
    exact Ct (us:=.ref a::us) (vs:=.ref a::vs) F' (c.room.mono hj) ql .nil Bb I2 (.cons rfl r2) ⟨φ2,h3,.ref n'::zs,ah,⟨⟨a,rfl,fO p2 hφ⟩,(by show RVs C φ2 H2 zs<|vs++[];rw[Ws];exact bq)⟩,by simp[hl],q2⟩
   ·rw[l1]at q1;exact q1.elim
end
abbrev iQ(cn:Str)(n:Nat)(f:Fn)(ms:Ma):Me:=λδ h=>(ms δ h).bind λps h1=>if ps.length=n then(f (.ref h1.length::ps) (h1++[.ins cn []])).bind λv h2=>(match v with
 |.non=>.ok (.ref h1.length) h2
 |_=>.bad) else .bad
variable{ca:s_}{cn:Str}{fn:Fn}{zs:X9 0}
def DX{Q:VK}(hc:C.cl cn=a_ ca)(rh:FR h)(rv:C_ zs vs)(q:I_ (if zs.length=n then(fn (.ref h.length::zs)<|h++[.ins cn []]).bind λv h2=>(match v with|.non=>Rs.ok (.ref h.length) h2|_=>.bad) else .bad) Q):
  ∀y dx,H y=b_->H dx=b_->dx≠y->spM C (n+1) fn (.ref y::(vs++[])) (upd (R_ dx<|.own y) y<|.ins ca dx []) (λv H2=>v=.non/\Q (.ref y) H2) E0:=λy dx hy hd ne=>by
 let⟨hl,q⟩:=q.ite;let iz:(R_ dx<|.own y) y=b_:=by rw[aH<|Va ne];show hy
 let k1:Kp H (R_ dx<|.own y):=Kp.new hd;let k2:Kp (R_ dx<|.own y) (upd (R_ dx<|.own y) y<|.ins ca dx []):=Kp.new iz;let ah:RH C (φ++[y]) (upd (R_ dx<|.own y) y<|.ins ca dx []) (h++[.ins cn []]):=(rh.aside hd).new iz ⟨ca,dx,[],hc,aI,.nil⟩;let yx:RV C (φ++[y]) (upd (R_ dx<|.own y) y<|.ins ca dx []) (.ref h.length) (.ref y):=⟨y,rfl,by rw[<-rh.len];simp⟩;refine⟨φ++[y],h++[.ins cn []],.ref h.length::zs,ah,⟨yx,by rw[Ws];show rv.mono (Vo _ _)<|k1.trans k2⟩,by simp[hl],?_⟩;refine(post.bind<|post.weak (Vo _ [y]) (k1.trans k2) q).imp ?_;rintro v H2 ⟨φ2,pv,h2,p2,t2,c8,rv3,q3⟩;cases pv with
 |non=>cases rv3;show⟨rfl,q3.val c8<|yx.mono p2 t2⟩
 |_=>exact q3.elim
def Np{k:Nat}{f:s_}{p:Pos}(hc:C.cl cn=a_ ca)(M:Mk C.K ca f)(F:E_ f fd ps (spM C (n+1) fn))(hm:X.mg x=c_ ca)(bd:Binds C.K fd ps [])(ha:SA C k X (e::es) ms)(hj:j+1<=k:=by decide)(hg:Gl X x:=by rfl)(b5:(x == ("__debug__" : Str))=false:=by decide)(he:UL (e::es) X.env=(false,S_ 0)::U_ 0:=by rfl)(bh:(Yc<|U_ 0).any (·.1)=false:=by rfl):
  D_ (.Call (.Name x p) (e::es) [] pos) (iQ cn n fn ms):=λc=>by
 let M':Mk X.K ca f:=by rw[c.K];show M
 let F':G_ CX0 j f fd ps (spM C (n+1) fn):=by rw[c.K];show F
 let ql:Binds X.K fd ps []:=by rw[c.K];show bd
 refine(Jw M' F' (c.room.mono hj) hg hm ql .nil Bb (ha c) b5 he bh).imp λσ H Q h=>?_;let⟨φ,δ,h,rh,re,po⟩:=h;refine⟨φ,δ,h,rh,re,(postA.bind po).imp ?_⟩;rintro vs H1 ⟨φ1,zs,h1,p1,t1,aa,ae,q1⟩;show DX hc aa ae q1
def Kh{k:Nat}{f:s_}{p:Pos}(hc:C.cl cn=a_ ca)(M:Mk C.K ca f)(F:E_ f fd ps (spM C (0+1) fn))(hm:X.mg x=c_ ca)(bd:Binds C.K fd ps [])(hj:j+1<=k:=by decide)(hg:Gl X x:=by rfl)(b5:(x == ("__debug__" : Str))=false:=by decide):D_ (.Call (.Name x p) [] [] pos) (iQ cn 0 fn aC):=λc=>by
 let M':Mk X.K ca f:=by rw[c.K];show M
 let F':G_ CX0 j f fd ps (spM C (0+1) fn):=by rw[c.K];show F
 let ql:Binds X.K fd ps []:=by rw[c.K];show bd
 refine(FW M' F' (c.room.mono hj) hg hm ql .nil Bb b5).imp λσ H Q h=>?_;let⟨φ,δ,h,rh,re,po⟩:=h;show DX (zs:=[]) hc rh trivial po
abbrev eQ(x y v:PV)(h:PH):y_ PH:=match x,y with
 |.ref n,.int i=>match dM h n with
  |some xs=>match ixN xs.length i with
   |some j=>a_ (Yr<|.lst<|xs.set j v)
   |none=>b_
  |none=>lR x y v h
 |_,_=>lR x y v h
abbrev dQ(mv mo mi:Me):Ms:=λδ h=>(mv δ h).fl λv h1=>(mo δ h1).fl λx h2=>(mi δ h2).fl λy h3=>match eQ x y v h3 with
 |some h4=>.nx δ h4
 |none=>.bad
abbrev mI:X9 0->PH->Rs PV:=λxs h=>match xs with
 |[.bl b]=>.ok (.int<|if b then 1 else 0) h
 |[.int i]=>.ok (.int i) h
 |_=>.bad
set_option tactic.hygienic true in
def D3{k:Nat}{h':PH}{pv:PV}{x:V}(c:X7 X)(rh:FR h)(rx:j_ px x)(ry:j_ py y)(rv:j_ pv v)(e:eQ px py pv h=a_ h'){Q:jn Unit}(I:H_ s)(jd:RelV x xu)(cj:RelV y yu)(jg:RelV v vu)(q:∀s' H',h_ H' s'->Kp H H'->RH C φ H' h'->Q () s'):wpAny (g_ X) X.A (setItem xu yu vu) Q X.xe s:=by
 unfold eQ at e;split at e
 ·rename_i n i;split at e
  ·rename_i xs el;split at e
   ·rename_i j ej;cases e
    let⟨a,rfl,ha⟩:=rx;cases ry
    let⟨ws,hH,dh⟩:=Yb<|gX el;refine thn (set_list td s σ H (.ref a) (.int i) v xu yu vu (λH'=>H'=R_ a (.lst<|ws.set j v)) I jd cj jg ⟨a,ws,i,j,rfl,rfl,hH,by rw[<-dh.length];show ej,rfl⟩) ?_;rintro _ s' ⟨H',I',rfl⟩;refine q s' _ I' (Kp.lst hH) (rh.write ha (by rw[hH];trivial) ⟨_,aI,(RVs.set rv j dh).mono Ux<|Kp.lst hH⟩)
   ·cases e
  ·show rJ c rh rx ry rv e I jd cj jg q
 ·show rJ c rh rx ry rv e I jd cj jg q
def Nq{k:Nat}{o i:v_}{mi:Me}(hv:D_ value mv)(ho:D_ o mo)(hi:D_ i mi)(hs:XX value (a_<|.Subscript o i pos') pos.line X.env=pure false:=by rfl):
  SSt C k X (.Assign [.Subscript o i pos'] value pos) (dQ mv mo mi):=λc td s σ H D I ⟨φ,δ,h,rh,re,p⟩=>by
 refine wpAny_Assign_Subscript (thn (hv c td s σ H _ I ⟨φ,δ,h,rh,re,post.fl p⟩) ?_) hs;rintro vu s1 ⟨v,H1,I1,jg,φ1,pv,h1,p1,t1,aa,ae,q1⟩;refine thn (ho c td s1 σ H1 _ I1 ⟨φ1,δ,h1,aa,O_ 0,post.fl q1⟩) ?_;rintro xu s2 ⟨x,H2,I2,jd,φ2,px,h2,p2,t2,ah,bq,q2⟩;refine thn (hi c td s2 σ H2 _ I2 ⟨φ2,δ,h2,ah,(O_ 0).mono p2 t2,post.fl q2⟩) ?_;rintro yu s3 ⟨y,H3,I3,cj,φ3,py,h3,p3,t3,c8,rv3,q3⟩;cases e:eQ px py pv h3 with
 |none=>rw[e]at q3;show q3.elim
 |some h4=>rw[e]at q3;show D3 c c8 (bq.mono p3 t3) rv3 ((ae.mono p2 t2).mono p3 t3) e I3 jd cj jg λs' H' I' kp bf=>⟨σ,H',I',q3 φ3 σ H' Ux kp bf<|(((O_ 0).mono p2 t2).mono p3 t3).mono Ux kp⟩
set_option tactic.hygienic true in
def Q1{k:Nat}:lX C k X (.type "int") mI:=λc td s σ H xs us Q I r h=>by
 let⟨φ,h,ps,rh,rv,po⟩:=h;unfold mI at po;split at po
 ·let⟨v,rfl,rx⟩:=rv.one;cases rx
  let⟨u,rfl,ru⟩:=vals1 r;cases ru
  rename_i b;show call_int_bool ⟨.int<|if b then 1 else 0,H,I.tok _,⟨_,rfl⟩,K_ rfl⟩
 ·let⟨v,rfl,rx⟩:=rv.one;cases rx
  let⟨u,rfl,ru⟩:=vals1 r;let⟨t,rfl⟩:=ru;rename_i i;show call_int_int ⟨.int i,H,I,⟨_,rfl⟩,K_ rfl⟩
 ·show po.elim
def wF{fs:x_ (Str×PV)}(e:h[n]?=a_ (.ins c fs)):mH (.ref n) h=a_ (n,c,fs):=by simp[mH,e]
def bE{f:Str}{fs:x_ (Str×PV)}(e:h[n]?=a_ (.ins c fs))(l:fs.lookup f=a_ p):aU f (.ref n) h=.ok p h:=by simp[aU,wF e,l]
def fV{f:Str}{fs:x_ (Str×PV)}(e:h[n]?=a_ (.ins c fs))(l:fs.length<1000):tU f (.ref n) p h=a_ (Yr<|.ins c<|gI f p fs):=by simp[tU,wF e,l]
@[simp]theorem Aw{E:FE}{f:Str}:(dO f mo mv δ h).W E=(mv δ h).W λy h1=>(mo δ h1).W λx h2=>∃h3,tU f x y h2=a_ h3/\E.nx δ h3:=by
 unfold dO;rw[EX];congr 1;funext y h1;rw[EX];congr 1;funext x h2;cases e:tU f x y h2 <;> simp
@[simp]theorem C0{f:Fn}:iQ cn n f ms δ h=(ms δ h).bind λps h1=>if ps.length=n then(f (.ref h1.length::ps)<|h1++[.ins cn []]).bind λv h2=>(match v with|.non=>.ok (.ref h1.length) h2|_=>.bad) else .bad:=(rfl)
def bB(mm:Str)(n:Nat)(tb:Str->y_ Fn)(ms:Ma)(δ:Ev)(h:PH)(mo:Me)(f:Fn){k:Nat}{fs:x_ (Str×PV)}(e:mo δ h=.ok (.ref k) h1)(g:h1[k]?=a_ (.ins c fs))(t:tb c=a_ f)(l:fs.lookup mm=b_):
  dS mm n tb mo ms δ h=(ms δ h1).bind λps h2=>if ps.length=n then f (.ref k::ps) h2 else .bad:=by
 unfold dS;rw[e,Rs.bind_ok,wF g];simp only[t,l]
@[simp]theorem Nr{E:FE}{mi:Me}:(dQ mv mo mi δ h).W E=(mv δ h).W λv h1=>(mo δ h1).W λx h2=>(mi δ h2).W λy h3=>∃h4,eQ x y v h3=a_ h4/\E.nx δ h4:=by
 unfold dQ;rw[EX];congr 1;funext v h1;rw[EX];congr 1;funext x h2;rw[EX];congr 1;funext y h3;cases e:eQ x y v h3 <;> simp
def F7{es:Array VQ}(hT:s.TypeIs (.ref dc) "dict")(hd:(dc == VM)=false)(h1:Ys 0=a_ oc)(h2:oc.data=.dict es ep)(q:Q (.ref<|e_ s) {s with heap:=s.heap.push {cls:=.type "dict_keyiterator",data:=.fields #[.ref dc,.int 0 0,.int es.size 0,.int ep 0]} }):p_ (pyIter<|.ref dc) Q E s:=by
 refine wpAny_pyIter_slot hT F.slot_dict_iter<|Vd F.slot_dict_iter hT F.entry_dict_iter ?_<|F.args_dict_iter_1 _;unfold Builtin.«dict.__iter__»;refine SB ?_;unfold Builtin.Dict.dictSlotNone;refine SB<|WY hT ?_
 change B_ (pure<|US dc) _ _ s
 refine SL ?_
 change B_ (Wv dc >>= _) _ _ s
 unfold Wv;rw[if_neg (by rw[hd];show UH)];refine SB<|SL ?_;refine SB<|Vi h1 h2 ?_;refine SB<|VX h1 h2 ?_;refine SB<|U0<|SL ⟨_,rfl,"dict_keyiterator",_,⟨_,Yo 0,rfl⟩,V8.lookup,?_⟩;simpa[rawInt] using q
def Hm{es:Array VQ}{Q:y_ q_->r_->Prop}(hI:s.heap.IsKeyIter it dc i es.size ep)(h1:Ys 0=a_ oc)(h2:oc.data=.dict es ep)(ao:i<es.size)(q:∀h',h'.IsKeyIter it dc (i+1) es.size ep->V1 it s.heap h'->Q (a_ es[i].key) {s with heap:=h'}):p_ (pyNext<|.ref it) Q E s:=by
 let⟨oi,g1,g2,g3⟩:=id hI;unfold pyNext;refine SB<|Wp<|U6 (name:=UB "__next__") hI.typeIs V8<|Vd V8 hI.typeIs F.entry_dict_keyiterator_next ?_<|F.args_dict_keyiterator_next_1 _;refine SB<|SL<|SB<|SB ?_
 first|refine SB (WC hI.typeIs<|SL ?_)|refine SB (Xc hI.typeIs<|SL ?_)
 refine SB<|W3 g1 g3 ?_;rw[show U4 "dict_keyiterator" = false by decide];simp only[UV,if_false]
 change B_ (if(US dc == UT)=true then _ else _) _ _ s
 rw[if_neg<|show ¬ ((US dc == UT)=true) from UH]
 refine SB<|SL<|SB<|Vi h1 h2 ?_;rw[if_neg<|show ¬ _ by simp];refine SB<|SL<|SB<|VX h1 h2 ?_;rw[if_neg<|show ¬ _ by simp];refine SL ?_;simp only[show ¬ ((i:Int)<0) by omega,if_false,VO,VF ao];refine SB ?_
 first|refine SB (WC hI.typeIs<|SL ?_)|refine SB (Xc hI.typeIs<|SL ?_)
 refine SB (wpAny_isOneOf_keyiter hI.typeIs<|show B_ (setField (.ref it) 1 (rawInt<|(i:Int)+1) >>= _) _ _ s from SB (Wq g1 g3 (by simp) ?_))
 let gv:(Yk (Vz (·.setIfInBounds 1 (rawInt<|(i:Int)+1)))).IsKeyIter it dc (i+1) es.size ep:=⟨_,Vf _ g1<|Wu<|Wb g3 _,(Obj.cls_mapFields ..).trans g2,by rw[Wb g3];simp[rawInt]⟩;let jf:({s with heap:=Yk (Vz (·.setIfInBounds 1 (rawInt<|(i:Int)+1)))}:r_).TypeIs (.ref it) "dict_keyiterator" := gv.typeIs;refine SB<|VY<|SB<|wpAny_isOneOf_keyiter jf ?_
 change B_ (pure es[i].key) _ _ _
 show SL<|SL ⟨_,rfl,SL<|q _ gv<|UY ..⟩
def Hn{es:Array VQ}{Q:y_ q_->r_->Prop}(hh:A.handled=b_)(hI:s.heap.IsKeyIter it dc i es.size ep)(h1:Ys 0=a_ oc)(h2:oc.data=.dict es ep)(ja:es.size<=i)(q:∀h',Heap.ExtBut it s.heap h'->Q b_ {s with heap:=h'}):p_ (pyNext<|.ref it) Q E s:=by
 let⟨oi,g1,g2,g3⟩:=id hI;unfold pyNext;refine SB<|Wp<|U6 (name:=UB "__next__") hI.typeIs V8<|Vd V8 hI.typeIs F.entry_dict_keyiterator_next ?_<|F.args_dict_keyiterator_next_1 _;refine SB<|SL<|SB<|SB ?_
 first|refine SB (WC hI.typeIs<|SL ?_)|refine SB (Xc hI.typeIs<|SL ?_)
 refine SB<|W3 g1 g3 ?_;rw[show U4 "dict_keyiterator" = false by decide];simp only[UV,if_false]
 change B_ (if(US dc == UT)=true then _ else _) _ _ s
 rw[if_neg<|show ¬ ((US dc == UT)=true) from UH]
 refine SB<|SL<|SB<|Vi h1 h2 ?_;rw[if_neg<|show ¬ _ by simp];refine SB<|SL<|SB<|VX h1 h2 ?_;rw[if_neg<|show ¬ _ by simp];refine SL ?_;simp only[show ¬ ((i:Int)<0) by omega,if_false,VO,VJ ja];refine SB ?_
 first|refine SB (WC hI.typeIs<|SL ?_)|refine SB (Xc hI.typeIs<|SL ?_)
 refine(show B_ (setField (.ref it) 0 .none >>= _) _ _ s from SB (Wq g1 g3 (by simp) ?_))
 refine(show B_ (newExc (.type "StopIteration") [] >>= _) _ _ _ from SB ?_);simp only[newExc,newTuple]
 refine SB (U0 (SB (m:=W4 _ _)<|wpAny_of_eq (a:=UT) (by first|rfl|(simp only[W4];rfl))<|U0 ?_<|by size_fits)<|by size_fits)
 simp only[raiseNew];refine SB<|wpAny_handled ?_;rw[show A.in1.handled=b_ from hh]
 refine SB<|SL<|wpAny_throw ?_;refine SB<|Xk (T:="StopIteration") (b:=true) ⟨_,Yo 0,rfl⟩ isSubtype_stop ?_;show SL<|q _<|((UY ..).extBut.push _).push _
section
variable{k:Nat}{o:Obj}{its:Ya 0}{ps:X9 0}
abbrev Lz:PV->y_ V
 |.non=>a_ .non
 |.bl b=>a_ (.bl b)
 |.int i=>d_ i
 |.str z=>a_ (.str z)
 |_=>b_
abbrev Ax:X9 0->y_ (x_ V)
 |[]=>a_ []
 |p::r=>match Lz p,Ax r with
  |some v,a_ vs=>a_ (v::vs)
  |_,_=>b_
def Ki(e:Lz p=a_ v):j_ p v:=by cases p <;> first|(cases e;rfl)|cases e
set_option tactic.hygienic true in
def C1{φ:x_ s_}{H:Hp}:∀{ps:X9 0}{vs:x_ V},Ax ps=a_ vs->C_ ps vs
 |[],vs,e=>by cases e;trivial
 |p::ps,vs,e=>by
  unfold Ax at e;split at e
  ·rename_i v ws e1 e2;cases e
   show⟨Ki e1,C1 e2⟩
  ·cases e
abbrev Q2(K:Us)(a:s_)(ps:X9 0):Prop:=∃(o:Obj)(its:Ya 0)(n:Nat)(vs:x_ V),K.lookup a=a_ o/\o.cls=.type "tuple" /\ o.data=.seq its n/\its.size<=UG/\aJ vs its.toList/\o.dict=b_/\Ax ps=a_ vs
def Nt(hm:X.mg x=c_ a)(g:Q2 C.K a ps)(hg:Gl X x:=by rfl)(hd:(x == ("__debug__" : Str))=false:=by decide):D_ (.Name x pos) (mC<|.tup ps):=λc=>(Du (v:=.ref a) hg hm rfl hd).imp λσ H Q h=>by let⟨φ,δ,h,rh,re,p⟩:=h;let⟨o,its,n,vs,g1,g2,g3,g4,g5,g6,g7⟩:=g;show p φ (.ref a) H Ux (Kp.refl _) rh ⟨a,vs,rfl,.inr ⟨o,its,n,g1,g2,g3,g4,g5,g6⟩,C1 g7⟩
end
def Kj(e:bJ h n=a_ kvs)(hk:(PV.tup xs).ky 6=true)(hl:kvs.length<16777216):eQ (.ref n) (.tup xs) z h=a_ (Yr<|.dD<|iY kvs (.tup xs) z):=by
 change lR (.ref n) (.tup xs) z h=_
 show D0 e hk hl
def DY{kvs:x_ (Key×PV)}(e:h[n]?=a_ (.dK kvs))(hl:kvs.length<16777216):eQ (.ref n) (.str x) z h=a_ (Yr<|.dK<|iY kvs (.inr x) z):=by
 change lR (.ref n) (.str x) z h=_
 show K9 e hl
abbrev Ho:HO->Prop
 |.tup _=>False
 |.own _=>False
 |.tbl _=>False
 |_=>True
def Inv.swap{d:s_}{u u':HO}(I:H_ s)(hd:H d=a_ u)(hu:Ho u)(hz:∀o z,X.H₀ d≠a_ (.frz o z))(new:Yj (R_ d u') s.heap d u'):h_ (R_ d u') s:=by
 let nn:∀b,H b=b_->b≠d:=λb n z=>by rw[z,hd]at n;cases n
 let nt:∀b xs,H b=a_ (.tup xs)->b≠d:=λb xs n z=>by rw[z,hd]at n;cases n;show hu
 let no:∀b y,H b=a_ (.own y)->b≠d:=λb xs n z=>by rw[z,hd]at n;cases n;show hu
 let nb:∀b y,H b=a_ (.tbl y)->b≠d:=λb xs n z=>by rw[z,hd]at n;cases n;show hu
 refine⟨I.ok,I.os,I.bare,⟨I.base.keep,I.base.slot,λb o e n hx=>?_,I.base.there,λb xs e=>?_,λb o xs e=>?_,λb ps e=>?_⟩,I.loc,I.cell,?_,λx c e=>?_,λp hp=>?_,λb o e=>?_,I.len⟩
 ·have:=I.base.free b o e n hx;rw[aH<|nn b this];show this
 ·have:=I.base.tups b xs e;rw[aH<|nt b xs this];show this
 ·have:=I.base.frzs b o xs e;let ne:b≠d:=λz=>hz o xs<|z▸e;rw[aH ne];show this
 ·let⟨m,e1⟩:=I.base.tbls b ps e;show⟨m,by rw[aH<|nb b _ e1];show e1⟩
 ·rw[aH<|nn _ I.free];show I.free
 ·have:=I.freeC x c e;rw[aH<|nn _ this];show this
 ·let⟨e,n,r⟩:=I.pin p hp;show⟨e,by rw[aH<|nn _ n];show n,r⟩
 ·by_cases hb:b=d
  ·subst hb;rw[aI]at e;cases e;show new
  ·rw[aH hb]at e;show(I.hok b o e).stay (λc v _ q=>q) (λc q=>by rw[aH<|no c b q];show q) λc xs q=>by rw[aH<|nt c xs q];show q
def Inv.nofrz{d:s_}(I:H_ s)(hd:∀o z,H d≠a_ (.frz o z)):∀o z,X.H₀ d≠a_ (.frz o z):=λo z e=>hd o z<|I.base.frzs d o z e
def Inv.freeze{d:s_}{u:HO}(I:H_ s)(hd:H d=a_ u)(hu:Ho u)(hf:∀o z,u≠.frz o z)(ho:s.heap.get? d=a_ oc):h_ (R_ d<|.frz oc u) s:=by
 let nt:∀b xs,H b=a_ (.tup xs)->b≠d:=λb xs n z=>by rw[z,hd]at n;cases n;show hu
 let no:∀b y,H b=a_ (.own y)->b≠d:=λb xs n z=>by rw[z,hd]at n;cases n;show hu
 refine I.swap hd hu (I.nofrz λo z e=>?_) ⟨ho,(I.hok d u hd).stay (λc v _ q=>q) (λc q=>by rw[aH<|no c d q];show q) λc xs q=>by rw[aH<|nt c xs q];show q⟩;rw[hd]at e;show hf o z<|UW e
def Inv.thaw{d:s_}{u:HO}(I:H_ s)(hd:H d=a_ (.frz oc u))(hz:∀o z,X.H₀ d≠a_ (.frz o z)):h_ (R_ d u) s:=by
 let nt:∀b xs,H b=a_ (.tup xs)->b≠d:=λb xs n z=>by rw[z,hd]at n;cases n
 let no:∀b y,H b=a_ (.own y)->b≠d:=λb xs n z=>by rw[z,hd]at n;cases n
 let⟨_,q⟩:=I.hok d _ hd;show I.swap hd trivial hz (q.stay (λc v _ q=>q) (λc q=>by rw[aH<|no c d q];show q) λc xs q=>by rw[aH<|nt c xs q];show q)
abbrev ItI(dc:s_)(oc:Obj)(u:HO)(ks:x_ (V×V)):It:=⟨λi H=>H dc=a_ (.frz oc u)/\i<ks.length,λi H x H'=>∃t kv,H t=b_/\ks[i]?=a_ kv/\x=.ref t/\H'=R_ t (.tup [kv.1,kv.2]),λi H=>H dc=a_ (.frz oc u)/\ks.length<=i⟩
abbrev ItK(dc:s_)(oc:Obj)(u:HO)(ks:x_ V):It:=⟨λi H=>H dc=a_ (.frz oc u)/\i<ks.length,λi H x H'=>H'=H/\ks[i]?=a_ x,λi H=>H dc=a_ (.frz oc u)/\ks.length<=i⟩
variable{elts:x_ v_}{x1:Nat}
def D4(it dc:s_)(oc:Obj)(u:HO)(es:Array VQ)(ep:Nat)(h2:oc.data=.dict es ep)(ks:x_ (V×V))(hl:ks.length=es.size)(hk:∀(i:Nat)(hi:i<es.size),∃kv,ks[i]?=a_ kv/\RelV kv.1 es[i].key/\RelV kv.2 es[i].val):Turn P w K (.Tuple elts x1 pos) (ItI dc oc u ks) [it] it (λi h=>∃ok ov,IsItemIter h it dc i es.size ep ok ov) where
 mem:=by simp
 obj:=λi h ⟨ok,ov,st⟩ b hb=>by
  let e:b=it:=by simpa using hb
  subst e;show⟨_,st,λv z=>by cases z⟩
 keep:=λi h h' ⟨ok,ov,st⟩ k=>⟨ok,ov,k it (by simp) _ st⟩
 item:=by
  intro X hP hw hK hc i td s σ H E I hf ⟨ok,ov,st⟩ ⟨hg,hi⟩;subst hP hw hK;let bc:i<es.size:=⋯;let⟨kv,d7,r1,r2⟩:=hk i bc;let⟨f0,f1,f2,f3,f4,f5⟩:=hf it (by simp);let i9:Ys 0=a_ oc:=(I.hok dc _ hg).1;refine next_item st i9 h2 bc λh' out gt kp=>⟨_,rfl,?_⟩;refine wpAny_letOwnedTupleGo_items (s:={s with heap:=h'}) out λia hI same=>?_;let fr:H (e_ s)=b_:=I.hok.fresh<|Uv _;let ne:(e_ s)≠it:=Vv<|UE st;let yb:ia.get? (e_ s)=a_ {cls:=.type "tuple",data:=.seq #[es[i].key,es[i].val]}:=(same.2 _ ne).trans gt;let di:∀(b:s_)(o:Obj),b≠it->M_ 0=a_ o->ia.get? b=a_ o:=λb o hb e=>(same.2 b hb).trans<|kp b o hb e;let iq:∀b u,H b=a_ u->b≠it:=λb u e z=>by rw[z,f0]at e;cases e
  let ir:∀b u,H b=a_ u->b≠(e_ s):=λb u e z=>by rw[z,fr]at e;cases e
  refine⟨.ref<|e_ s,R_ (e_ s)<|.tup [kv.1,kv.2],?_,rfl,⟨_,kv,fr,d7,rfl,rfl⟩,⟨_,_,hI⟩,λb hb=>?_⟩
  ·refine Inv.step (s:=s) (h':=ia) (H:=H) (g':=s.gens) (d':=s.drawn) (t':=s.toks) (ch:=[it]) I (λb hb=>?_) (λb o _ _ hc e _=>di b o (λz=>hc<|by simp[z]) e) (λb o _ _ hc e _=>⟨o.slots,di b o (λz=>hc<|by simp[z]) e⟩) (λb o hc e n=>?_)
    (λb o hc e=>⟨o,di b o (λz=>hc<|by simp[z]) e⟩) (λb xs e=>by rw[aH<|ir _ _ e];show e) (λb o u e=>by rw[aH<|ir _ _ e];show e) (λb ps e=>⟨#[],by rw[aH<|ir _ _ e,e];simp⟩) (λm hm=>?_) (λb u e=>?_) I.bare
   ·let e:b=it:=by simpa using hb
    subst e;show⟨f3,f1,f4,f5⟩
   ·rw[aH<|UR<|UE e];show n
   ·let⟨o,es,ep,ho,r⟩:=hm;show⟨o,es,ep,di _ o (Va f1) ho,r⟩
   ·by_cases hb:b=(e_ s)
    ·subst hb;rw[aI]at e;cases e
     show⟨by change 2<=UG;rw[kB];decide,[es[i].key,es[i].val],.cons r1<|.cons r2 .nil,_,yb,rfl,⟨_,rfl⟩,rfl⟩
    ·rw[aH hb]at e;refine(I.hok b u e).stay (λc v hc q=>di c v ?_ q) (λc q=>by rw[aH<|ir _ _ q];show q) λc xs q=>by rw[aH<|ir _ _ q];show q
     rcases hc with z|z
     ·rw[z];show iq b u e
     ·show iq c _ z
  ·let e:b=it:=by simpa using hb
   subst e;rw[aH<|Va ne];show f0
 done:=by intro X hP hw hK hc i td s σ H E I hf ⟨ok,ov,st⟩ ⟨hg,hi⟩;subst hP hw hK;let⟨f0,f1,f2,f3,f4,f5⟩:=hf it (by simp);let i9:Ys 0=a_ oc:=(I.hok dc _ hg).1;show EL (I.ok.hd hc) st i9 h2 ⋯ λh' eb=>⟨rfl,I.turned (t':=s.toks) (λb o hb e=>eb b o hb e) f0 f1 f3 f4 f5⟩
 self:=λ_ _ _ _ _ ⟨_,_,st⟩ h=>CG st h
def F8(it dc:s_)(oc:Obj)(u:HO)(es:Array VQ)(ep:Nat)(h2:oc.data=.dict es ep)(ks:x_ V)(hl:ks.length=es.size)(hk:∀(i:Nat)(hi:i<es.size),∃kv,ks[i]?=a_ kv/\RelV kv es[i].key):Turn P w K tg (ItK dc oc u ks) [it] it (λi h=>h.IsKeyIter it dc i es.size ep) where
 mem:=by simp
 obj:=λi h st b hb=>by
  let e:b=it:=by simpa using hb
  subst e;let⟨o,e,c,d⟩:=st;show⟨o,e,λv z=>by rw[d]at z;cases z⟩
 keep:=λi h h' st k=>st.at λo e=>k it (by simp) o e
 item:=by
  intro X hP hw hK hc i td s σ H E I hf st ⟨hg,hi⟩;subst hP hw hK;let bc:i<es.size:=⋯;let⟨kv,d7,r1⟩:=hk i bc;let⟨f0,f1,f2,f3,f4,f5⟩:=hf it (by simp);let i9:Ys 0=a_ oc:=(I.hok dc _ hg).1;refine Hm st i9 h2 bc λh' cy sb=>?_;let I1:H_ {s with heap:=h'}:=I.turned (t':=s.toks) (λb o hb e=>(sb.2 b hb).trans e) f0 f1 f3 f4 f5;let⟨o,e,c,d⟩:=id cy;show⟨_,rfl,B5 (s:={s with heap:=h'}) e c d (by decide) ⟨kv,H,I1,r1,⟨rfl,d7⟩,cy,λb hb=>(hf b hb).1⟩⟩
 done:=by intro X hP hw hK hc i td s σ H E I hf st ⟨hg,hi⟩;subst hP hw hK;let⟨f0,f1,f2,f3,f4,f5⟩:=hf it (by simp);let i9:Ys 0=a_ oc:=(I.hok dc _ hg).1;show Hn (I.ok.hd hc) st i9 h2 ⋯ λh' eb=>⟨rfl,I.turned (t':=s.toks) (λb o hb e=>eb b o hb e) f0 f1 f3 f4 f5⟩
 self:=λ_ _ _ _ _ st h=>wpAny_pyIter_keyiter st h
abbrev jB:MO->y_ (X9 0)
 |.dK kvs=>a_ (kvs.map λkv=>.tup [kP kv.1,kv.2])
 |.dD kvs=>a_ (kvs.map λkv=>.tup [kv.1,kv.2])
 |_=>b_
abbrev C2:MO->y_ (X9 0)
 |.dK kvs=>a_ (kvs.map λkv=>kP kv.1)
 |.dD kvs=>a_ (kvs.map (·.1))
 |_=>b_
abbrev wG:y_ MO->Bool
 |some (.dK _)=>true
 |some (.dD _)=>true
 |_=>false
abbrev wkI(b:Bool)(x:PV)(h:PH):y_ (Nat×MO×X9 0):=match x with
 |.ref n=>match h[n]? with
  |some (.vw 0 d)=>if b then(h[d]?).bind λo=>(jB o).map λxs=>(d,o,xs) else b_
  |some o=>(C2 o).map λxs=>(n,o,xs)
  |none=>b_
 |_=>b_
abbrev wH(b:Bool)(m:Me):Mi:=λδ h=>(m δ h).bind λx h1=>match wkI b x h1 with
 |some (d,o,xs)=>.ok ⟨xs,λ_=>true⟩ (h1.set d<|.fz o)
 |none=>.bad
def Nu{k:Key}{v:q_}(h:uR k v=true):RelV (kV k) v:=by
 rcases bK h with⟨i,t,rfl,rfl⟩|⟨x,t,rfl,rfl⟩
 ·show⟨t,rfl⟩
 ·show⟨t,rfl⟩
def rR{α β:Type}{F:α->β->Prop}:∀{l:x_ α}{m:x_ β},Paired F l m->∀{i:Nat}{a:α},l[i]?=a_ a->∃b,m[i]?=a_ b/\F a b
 |_,_,.nil,i,a,e=>by simp at e
 |_,_,.cons (a:=x) (b:=y) r t,0,a,e=>by
  have:x=a:=by simpa using e
  subst this;show⟨y,rfl,r⟩
 |_,_,.cons r t,i+1,a,e=>by
  let⟨b,h1,h2⟩:=rR t (i:=i) (a:=a)<|ke e;show⟨b,ke h1,h2⟩
def oG{α β:Type}{F:α->β->Prop}:∀{l:x_ α}{m:x_ β},Paired F l m->∀{i:Nat}{b:β},m[i]?=a_ b->∃a,l[i]?=a_ a/\F a b
 |_,_,.nil,i,a,e=>by simp at e
 |_,_,.cons (a:=x) (b:=y) r t,0,b,e=>by
  have:y=b:=by simpa using e
  subst this;show⟨x,rfl,r⟩
 |_,_,.cons r t,i+1,b,e=>by
  let⟨a,h1,h2⟩:=oG t (i:=i) (b:=b)<|ke e;show⟨a,ke h1,h2⟩
def DZ(a:Key):j_ (kP a) (kV a):=by cases a <;> rfl
def Hq{kvs:x_ (Key×PV)}{ks:x_ (Key×V)}(rk:RKv C φ H kvs ks):C_ (kvs.map λkv=>kP kv.1) ((ks.map λq=>(kV q.1,q.2)).map (·.1)):=by
 unfold RKv at rk
 induction rk with
 |nil=>trivial
 | @cons p q ps qs e t ih=>exact⟨by change j_ (kP p.1) (kV q.1);rw[e.1];show DZ q.1,ih⟩
def Hr(rk:RKd C φ H kvs ks):C_ (kvs.map (·.1)) ((ks.map λq=>(V.ref q.2.1,q.2.2)).map (·.1)):=by
 unfold RKd at rk
 induction rk with
 |nil=>trivial
 | @cons p q ps qs e t ih=>exact⟨e.2.2.1,ih⟩
structure Q3(C:MC)(φ:x_ s_)(H:Hp)(s:r_)(b:s_)(o:MO)(ks:x_ (V×V))(u:HO)(oc:Obj)(es:Array VQ)(ep:Nat):Prop where
 at':H b=some u
 nf:Ho u
 nz:∀o z,u≠.frz o z
 nt:tH (some u)
 get:s.heap.get? b=some oc
 cls:oc.cls=.type "dict"
 data:oc.data=.dict es ep
 nsys:(b == VM)=false
 fz:∀φ' H',φ<+:φ'->H' b=some (.frz oc u)->Kp H H'->RO C φ' H' b (.fz o)
 len:ks.length=es.size
 ent:∀(i:Nat)(hi:i<es.size),∃kv,ks[i]?=some kv/\RelV kv.1 es[i].key/\RelV kv.2 es[i].val
 keys:∀xs,C2 o=some xs->RVs C φ H xs (ks.map (·.1))
 items:∀xs,jB o=some xs->xs.length=ks.length/\∀(i:Nat) p,xs[i]?=some p->∃p1 p2 kv,p=.tup [p1,p2]/\ks[i]?=some kv/\RV C φ H p1 kv.1/\RV C φ H p2 kv.2
def E1{k:Nat}{d:Nat}{b:s_}{o:MO}(c:X7 X)(I:H_ s)(rh:FR h)(hb:φ[d]?=a_ b)(ho:h[d]?=a_ o)(hd:wG (a_ o)=true):∃ks u oc es ep,Q3 C φ H s b o ks u oc es ep:=by
 cases o with
 |dK kvs=>
  let⟨ks,hH,rk⟩:=rh.at' d b _ hb ho;let⟨z,hm,vs,rel,dd⟩:=Be I.hok hH;let⟨oc,es,ep,g1,g2,g3,g4,g5,g6⟩:=dd;let l1:ks.length=vs.length:=Ve rel;let l2:es.size=vs.length:=by have:=vV g5;have:=congrArg List.length this;simpa using this
  refine⟨ks.map λq=>(kV q.1,q.2),_,oc,es,ep,hH,trivial,(λ_ _ e=>by cases e),trivial,g1,g2.1,g3,hm,λφ' H' p e t=>⟨oc,ks,e,rk.mono p t⟩,by rw[Uu,l1,l2],λi hi=>?_,λxs hx=>?_,λxs hx=>?_⟩
  ·let hv:vs[i]?=a_ (vs[i]'⋯):=by simp[show i<vs.length by omega]
   let he:es.toList[i]?=a_ es[i]:=by simp[hi]
   let⟨q1,q2⟩:=g5.get? he hv;let⟨kv,d7,si⟩:=oG rel hv;refine⟨(kV kv.1,kv.2),by rw[UD,d7];rfl,?_,?_⟩
   ·change RelV (kV kv.1) es[i].key
    rw[si.1];show Nu q1
   ·change RelV kv.2 es[i].val
    rw[q2];show si.2
  ·cases hx
   show Hq rk
  ·cases hx
   let lk:kvs.length=ks.length:=Ve rk;refine⟨by rw[Uu,Uu,lk],λi p e=>?_⟩;rw[UD]at e;let⟨kv,e1,rfl⟩:=UI.mp e;let⟨q,e2,r2⟩:=rR rk e1;show⟨_,_,(kV q.1,q.2),rfl,by rw[UD,e2];rfl,by change j_ (kP kv.1) (kV q.1);rw[r2.1];show DZ q.1,r2.2⟩
 |dD kvs=>
  let⟨ks,hH,rk⟩:=rh.at' d b _ hb ho;let hO:Yj H s.heap b (dDO C.w b ks):=I.hok b _ hH;let⟨⟨hz,hm,xs,rx,oc,es,ep,g1,g2,g3,g4,g5⟩,_⟩:=hO;let l1:ks.length=xs.length:=Ve rx;let l2:es.size=xs.length:=by have:=congrArg List.length g4;simpa using this
  refine⟨ks.map λq=>(V.ref q.2.1,q.2.2),_,oc,es,ep,hH,trivial,(λ_ _ e=>by cases e),trivial,g1,g2.1,g3,hm,λφ' H' p e t=>⟨oc,ks,e,rk.mono p t⟩,by rw[Uu,l1,l2],λi hi=>?_,λxs hx=>?_,λxs hx=>?_⟩
  ·let hv:xs[i]?=a_ (xs[i]'⋯):=by simp[show i<xs.length by omega]
   let he:es.toList[i]?=a_ es[i]:=by simp[hi]
   rw[g4,UD,hv]at he;let ip:=UW he;let⟨kv,d7,si⟩:=oG rx hv;refine⟨(V.ref kv.2.1,kv.2.2),by rw[UD,d7];rfl,?_,?_⟩
   ·change RelV (V.ref kv.2.1) es[i].key
    rw[<-ip,si.2.1];rfl
   ·change RelV kv.2.2 es[i].val
    rw[<-ip];show si.2.2
  ·cases hx
   show Hr rk
  ·cases hx
   let lk:kvs.length=ks.length:=Ve rk;refine⟨by rw[Uu,Uu,lk],λi p e=>?_⟩;rw[UD]at e;let⟨kv,e1,rfl⟩:=UI.mp e;let⟨q,e2,r2⟩:=rR rk e1;show⟨_,_,(V.ref q.2.1,q.2.2),rfl,by rw[UD,e2];rfl,r2.2.2.1,r2.2.2.2⟩
 |_=>cases hd
def Hs{o:MO}(h:C2 o=a_ xs):wG (a_ o)=true:=by cases o <;> first|rfl|cases h
def zJ{o:MO}(h:jB o=a_ xs):wG (a_ o)=true:=by cases o <;> first|rfl|cases h
set_option tactic.hygienic true in
def Kk{x:PV}{d:Nat}{o:MO}(e:wkI b x h=a_ (d,o,xs)):∃n,x=.ref n/\((h[n]?=a_ (.vw 0 d)/\b=true/\h[d]?=a_ o/\jB o=a_ xs)\/(h[n]?=a_ o/\n=d/\C2 o=a_ xs)):=by
 unfold wkI at e;split at e
 ·rename_i n;refine⟨n,rfl,?_⟩;split at e
  ·rename_i d' hv;split at e
   ·rename_i hb;cases e1:h[d']? with
    |none=>rw[e1]at e;cases e
    |some o'=>
     rw[e1]at e;cases e2:jB o' with
     |none=>simp[e2]at e
     |some ys=>simp[e2]at e;let⟨rfl,rfl,rfl⟩:=e;show .inl ⟨hv,hb,e1,e2⟩
   ·cases e
  ·rename_i o' _ hv;cases e2:C2 o' with
   |none=>rw[e2]at e;cases e
   |some ys=>rw[e2]at e;simp at e;let⟨rfl,rfl,rfl⟩:=e;show .inr ⟨hv,rfl,e2⟩
  ·cases e
 ·cases e
abbrev walk2(b:Bool)(x:PV)(h1:PH):Rs Wk:=match wkI b x h1 with
 |some (d,o,xs)=>.ok ⟨xs,λ_=>true⟩ (h1.set d<|.fz o)
 |none=>.bad
def Nv{k:Nat}(b:Bool)(hb:b=true->∃elts x1 pos,tg=.Tuple elts x1 pos)(h:D_ iter m):SI C k X tg iter (wH b m):=λc=>by
 intro td s σ H R I q;let⟨φ,δ,hh,rh,re,p⟩:=q;let key:rd C m σ H λv H1=>∃φ1 x h1,φ<+:φ1/\Kp H H1/\Yl 0/\RV C φ1 H1 x v/\dN C φ1 H1 (walk2 b x h1) R:=by
  refine⟨φ,δ,hh,rh,re,?_⟩;unfold wH at p;cases e:m δ hh with
  |ok x h1=>
   rw[e]at p;intro φ' v H' p' t' bf bg;refine⟨φ',x,h1,p',t',bf,bg,?_⟩
   change dN C φ' H' (walk2 b x h1) R
   let p0:dN C φ H (walk2 b x h1) R:=p;cases e2:walk2 b x h1 with
   |ok w h2=>rw[e2]at p0;show λφ2 H2 J p2 t2=>p0 φ2 H2 J (p'.trans p2) (t'.trans t2)
   |exc z h2=>rw[e2]at p0;show λφ2 H2 p2 t2=>p0 φ2 H2 (p'.trans p2) (t'.trans t2)
   |bad=>rw[e2]at p0;show p0
  |exc x h1=>rw[e]at p;show p
  |bad=>rw[e]at p;show p
 refine thn (h c td s σ H _ I key) λv s1 z9=>?_;let⟨x,H1,I1,r1,φ1,x',h1,p1,t1,aa,ae,q1⟩:=z9;unfold walk2 at q1;cases e:wkI b x' h1 with
 |none=>rw[e]at q1;show q1.elim
 |some t=>
  let⟨d,o,xs⟩:=t;rw[e]at q1;dsimp only at q1;let⟨n,rfl,qq⟩:=Kk e;let⟨a,rfl,ha⟩:=ae;cases r1
  -- the frozen heap
  let fin:∀{bb:s_}{ks:x_ (V×V)}{u:HO}{oc:Obj}{es:Array VQ}{ep:Nat}(mq:φ1[d]?=a_ bb)(W:Q3 C φ1 H1 s1 bb o ks u oc es ep)(ob:Obj)(J:It)(tn:Nat->u_->Prop),(∀φ2 H2 h2,φ1<+:φ2->Kp (upd H1 bb (.frz oc u)) H2->RH C φ2 H2 h2->∀i:Nat,
    (i<xs.length->J.go i H2/\∀x H',J.yld i H2 x H'->(∃p,xs[i]?=a_ p/\RV C φ2 H' p x)/\Kp H2 H'/\RH C φ2 H' h2)/\(xs.length<=i->J.stop i H2))->
    Turn X.prog X.w X.K tg J [(e_ s1)] (e_ s1) tn->tn 0 (s1.heap.push ob)->PIE X td σ tg R (.ref<|e_ s1) {s1 with heap:=s1.heap.push ob}:=λ{bb ks u oc es ep} mq W ob J tn hJ hT h0=>by
   let I2:=I1.freeze W.at' W.nf W.nz W.get;let nt:tH (H1 bb):=by rw[W.at'];show W.nt
   refine⟨(e_ s1),[(e_ s1)],tn,J,upd H1 bb<|.frz oc u,rfl,I2.kept (t':=s1.toks) λb o e=>SZ _ e,hT,h0,λb hb=>?_,?_⟩
   ·let e:b=(e_ s1):=by simpa using hb
    subst e;show I2.fpOk (Uv _)<|I2.hok.fresh<|Uv _
   ·show q1 φ1 _ J Ux (Kp.upd nt) (aa.write mq nt<|W.fz φ1 _ Ux aI<|Kp.upd nt) λφ2 H2 h2 p2 t2 ah _ i=>hJ φ2 H2 h2 p2 t2 ah i
  rcases qq with⟨hv,hbt,ho,hx⟩|⟨ho,rfl,hx⟩
  ·let⟨bb,mq,hH⟩:=aa.at' n a _ ha hv;let⟨ks,u,oc,es,ep,W⟩:=E1 c I1 aa mq ho<|zJ hx;let⟨elts,x1,pos,rfl⟩:=hb hbt;let qi:s1.heap.IsItemsView a bb:=(I1.hok a _ hH).1;let⟨lx,ex⟩:=W.items xs hx;refine vH qi W.get W.data<|fin mq W _ (ItI bb oc u ks) _ (λφ2 H2 h2 p2 t2 ah i=>⟨λhi=>⟨⟨t2.2 _ _ _ aI,⋯⟩,λx H' y=>?_⟩,λhi=>⟨t2.2 _ _ _ aI,⋯⟩⟩) (D4 _ bb oc u es ep W.data ks W.len W.ent) ⟨.none,.none,Yo 0⟩;let⟨t,kv,ht,d7,rfl,rfl⟩:=y;let⟨p1,p2',Sy,S6,ij,Th,qf⟩:=ex i xs[i] (by simp[hi]);rw[d7]at ij;cases ij
   let nt:tH (H1 bb):=by rw[W.at'];show W.nt
   let T:Kp H1 (upd H2 t<|.tup [kv.1,kv.2]):=(Kp.upd nt).trans<|t2.trans<|Kp.new ht;refine⟨⟨xs[i],by simp[hi],?_⟩,Kp.new ht,ah.aside ht⟩;rw[S6];show⟨t,[kv.1,kv.2],rfl,.inl<|.inl aI,Th.mono p2 T,qf.mono p2 T,trivial⟩
  ·let⟨ks,u,oc,es,ep,W⟩:=E1 c I1 aa ha ho<|Hs hx;let rk:=W.keys xs hx;let lx:=rk.length;rw[Uu]at lx;refine F7 ⟨oc,W.get,W.cls⟩ W.nsys W.get W.data (fin ha W _ (ItK a oc u (ks.map (·.1))) _ (λφ2 H2 h2 p2 t2 ah i=>⟨λhi=>⟨⟨t2.2 _ _ _ aI,by rw[Uu];omega⟩,λx H' y=>?_⟩,λhi=>⟨t2.2 _ _ _ aI,by rw[Uu];omega⟩⟩) (F8 _ a oc u es ep W.data (ks.map (·.1)) (by rw[Uu];show W.len) λi hi=>?_) ⟨_,Yo 0,rfl,rfl⟩)
   ·let⟨rfl,ey⟩:=y;let nt:tH (H1 a):=by rw[W.at'];show W.nt
    let⟨p,ik,rp⟩:=rk.get ey;show⟨⟨p,ik,rp.mono p2<|(Kp.upd nt).trans t2⟩,Kp.refl _,ah⟩
   ·let⟨kv,d7,r1,_⟩:=W.ent i hi;show⟨kv.1,by rw[UD,d7];rfl,r1⟩
def RH.writeQ(r:FR h){u:HO}{o:MO}(e:φ[n]?=a_ a)(t:Kq H (R_ a u))(q:RO C φ (R_ a u) a o):RH C φ (R_ a u) (Yr o):=by
 refine⟨by rw[U2];show r.len,r.nd,λm b ob h1 h2=>?_⟩;by_cases hm:n=m
 ·subst hm;rw[e]at h1;cases h1;let hl:n<h.length:=by rw[<-r.len];show(SC.mp e).1
  rw[VU hl]at h2;cases h2
  show q
 ·rw[VH hm]at h2;let hb:b≠a:=λz=>by subst z;show hm ((List.getElem?_inj (SC.mp e).1 r.nd).mp<|e.trans h1.symm)
  show(r.at' m b ob h1 h2).stayQ Ux t (aH hb)
abbrev mJ(d:Nat)(h:PH):y_ PH:=match h[d]? with
 |some (.fz o)=>a_ (h.set d o)
 |_=>b_
set_option tactic.hygienic true in
def nC{d:Nat}(rh:FR h)(hd:wG h[d]?=true)(p:φ<+:φ')(t:Kp H H')(ah:Yn h2)(e:mJ d h2=a_ h3):
  ∃a oc u,H' a=a_ (.frz oc u)/\(∀o z,H a≠a_ (.frz o z))/\Kp H (upd H' a u)/\RH C φ' (upd H' a u) h3/\Kq H' (upd H' a u):=by
 unfold mJ at e;split at e
 ·rename_i o ho;cases e
  cases e0:h[d]? with
  |none=>rw[e0]at hd;cases hd
  |some o0=>
   rw[e0]at hd;let⟨a,ha,r0⟩:=rh.get e0;let nf:∀o z,H a≠a_ (.frz o z):=λo z q=>by
    cases o0 with
    |dK kvs=>let⟨ks,q2,_⟩:=r0;rw[q]at q2;cases q2
    |dD kvs=>let⟨ks,q2,_⟩:=r0;rw[q]at q2;cases q2
    |_=>cases hd
   let ha':=fO p ha;let r1:=ah.at' d a _ ha' ho;let gen:∀oc u,H' a=a_ (.frz oc u)->(∀xs,u≠.tup xs)->(∀xs,u≠.lst xs)->Kp H (upd H' a u)/\Kq H' (upd H' a u):=λoc u q nt nl=>by
    let kq:Kq H' (upd H' a u):=⟨λb xs z=>by
     let ne:b≠a:=by
      rintro rfl;rcases z with z|⟨ob,z⟩
      ·rw[q]at z;cases z
      ·rw[q]at z;cases z;show nt _ rfl
     unfold Rd;rw[aH ne];show z,λb ob xs z=>by
     let ne:b≠a:=by rintro rfl;rw[q]at z;cases z;show nl _ rfl
     rw[aH ne];show z⟩
    refine⟨⟨λb xs z=>kq.1 b xs<|t.1 b xs z,λb ob z q2=>?_⟩,kq⟩;let ne:b≠a:=λz2=>nf ob z<|z2▸q2;rw[aH ne];show t.2 b ob z q2
   cases o with
   |dK kvs=>let⟨oc,ks,q,r⟩:=r1;let⟨k1,k2⟩:=gen oc _ q (λ_ z=>by cases z) (λ_ z=>by cases z);show⟨a,oc,_,q,nf,k1,ah.writeQ ha' k2 ⟨ks,aI,r.monoQ Ux k2⟩,k2⟩
   |dD kvs=>let⟨oc,ks,q,r⟩:=r1;let⟨k1,k2⟩:=gen oc _ q (λ_ z=>by cases z) (λ_ z=>by cases z);show⟨a,oc,_,q,nf,k1,ah.writeQ ha' k2 ⟨ks,aI,r.monoQ Ux k2⟩,k2⟩
   |_=>exact r1.elim
 ·cases e
abbrev wkD(b:Bool)(m:Me)(δ:Ev)(h:PH):y_ Nat:=match m δ h with
 |.ok x h1=>match wkI b x h1 with
  |some (d,_,_)=>if wG h[d]?=true then a_ d else b_
  |none=>b_
 |_=>b_
def Nw{d:Nat}(e:wkD b m δ h=a_ d):wG h[d]?=true:=by
 unfold wkD at e;split at e
 ·split at e
  ·split at e
   ·rename_i hd;cases e
    show hd
   ·cases e
  ·cases e
 ·cases e
def RE.monoQ(t:Kq H H')(h:Yi 0):RE C φ H' δ σ:=⟨h.1,λi x e=>let ⟨v,q,r⟩:=h.2 i x e;⟨v,q,r.monoQ Ux t⟩⟩
abbrev nQ(d:Nat):Fl->Fl
 |.nx δ h=>match mJ d h with
  |some h3=>.nx δ h3
  |none=>.bad
 |.rt p h=>match mJ d h with
  |some h3=>.rt p h3
  |none=>.bad
 |.bk δ h=>match mJ d h with
  |some h3=>.bk δ h3
  |none=>.bad
 |.ct δ h=>match mJ d h with
  |some h3=>.ct δ h3
  |none=>.bad
 |.exc x h=>.exc x h
 |.bad=>.bad
abbrev rS(b:Bool)(m:Me)(ms:Ms):Ms:=λδ h=>match wkD b m δ h with
 |some d=>nQ d (ms δ h)
 |none=>.bad
abbrev E2(H:Hp)(P:Hp->Prop)(H2:Hp):Prop:=∃a oc u,H2 a=a_ (.frz oc u)/\(∀o z,H a≠a_ (.frz o z))/\P (upd H2 a u)
def Nx{k:Nat}{ms:Ms}(b:Bool)(m:Me)(he:SSt C k X st ms):SSt C k X st (rS b m ms):=λc=>by
 intro td s σ H D I q;let⟨φ,δ,h,rh,re,p⟩:=q;unfold rS at p;cases ed:wkD b m δ h with
 |none=>rw[ed]at p;show p.elim
 |some d=>
  rw[ed]at p;dsimp only at p;let hd:=Nw ed;refine thn (he c td s σ H { nx:=λσ=>E2 H<|D.nx σ,rt:=λv=>E2 H<|D.rt v,bk:=λσ=>E2 H<|D.bk σ,ct:=λσ=>E2 H (D.ct σ)} I ⟨φ,δ,h,rh,re,?_⟩) ?_
  ·cases em:ms δ h with
   |bad=>rw[em]at p;show p.elim
   |exc x h2=>rw[em]at p;show p
   |nx δ2 h2=>
    rw[em]at p;intro φ' v H' pp tt bf bg;cases et:mJ d h2 with
    |none=>simp only[nQ,et]at p;show p.elim
    |some h3=>simp only[nQ,et]at p;let⟨a,oc,u,q,nf,k1,c8,k2⟩:=nC rh hd pp tt bf et;show⟨a,oc,u,q,nf,p φ' v _ pp k1 c8<|RE.monoQ k2 bg⟩
   |rt x h2=>
    rw[em]at p;intro φ' v H' pp tt bf bg;cases et:mJ d h2 with
    |none=>simp only[nQ,et]at p;show p.elim
    |some h3=>simp only[nQ,et]at p;let⟨a,oc,u,q,nf,k1,c8,k2⟩:=nC rh hd pp tt bf et;show⟨a,oc,u,q,nf,p φ' v _ pp k1 c8<|bg.monoQ Ux k2⟩
   |bk δ2 h2=>
    rw[em]at p;intro φ' v H' pp tt bf bg;cases et:mJ d h2 with
    |none=>simp only[nQ,et]at p;show p.elim
    |some h3=>simp only[nQ,et]at p;let⟨a,oc,u,q,nf,k1,c8,k2⟩:=nC rh hd pp tt bf et;show⟨a,oc,u,q,nf,p φ' v _ pp k1 c8<|RE.monoQ k2 bg⟩
   |ct δ2 h2=>
    rw[em]at p;intro φ' v H' pp tt bf bg;cases et:mJ d h2 with
    |none=>simp only[nQ,et]at p;show p.elim
    |some h3=>simp only[nQ,et]at p;let⟨a,oc,u,q,nf,k1,c8,k2⟩:=nC rh hd pp tt bf et;show⟨a,oc,u,q,nf,p φ' v _ pp k1 c8<|RE.monoQ k2 bg⟩
  ·intro f s1 hf;cases f with
   |next=>let⟨σ',H2,I2,a,oc,u,q,nf,hq⟩:=hf;show⟨σ',_,I2.thaw q<|I.nofrz nf,hq⟩
   |brk=>let⟨σ',H2,I2,a,oc,u,q,nf,hq⟩:=hf;show⟨σ',_,I2.thaw q<|I.nofrz nf,hq⟩
   |cont=>let⟨σ',H2,I2,a,oc,u,q,nf,hq⟩:=hf;show⟨σ',_,I2.thaw q<|I.nofrz nf,hq⟩
   |ret w=>let⟨v,σ',H2,I2,r,a,oc,u,q,nf,hq⟩:=hf;show⟨v,σ',_,I2.thaw q<|I.nofrz nf,r,hq⟩
abbrev dW:PV->X9 0->PH->Rs PV:=λx ps h=>match x,ps with
 |.ref n,[]=>if wG h[n]?=true then .ok (.ref h.length) (h++[.vw 0 n]) else .bad
 |_,_=>.bad
set_option tactic.hygienic true in
def Ht{k:Nat}:MtG C k X "dict" bH "dict.items" dW:=λc=>⟨λtd s σ H x xs v us Q I rx rs h=>by
 let⟨φ,h,p,ps,rh,rp,jh,po⟩:=h;unfold dW at po;split at po
 ·rename_i n;split at po
  ·rename_i hd;let⟨a,rfl,ha⟩:=rp;have:xs=[]:=by cases xs <;> first|rfl|exact jh.elim
   subst this;cases rx
   cases rs
   cases ho:h[n]? with
   |none=>rw[ho]at hd;cases hd
   |some o=>
    rw[ho]at hd;let⟨ks,u,oc,es,ep,W⟩:=E1 c I rh ha ho hd;let hT:s.TypeIs (.ref a) "dict" := ⟨oc,W.get,W.cls⟩;refine WG PySem.F.slot_dict_items hT PySem.F.entry_dict_items (PySem.F.args_dict_items_1 _) (Bp a W.nsys) ⟨hT,?_⟩;let fr:H (e_ s)=b_:=I.fresh;refine⟨.ref<|e_ s,_,I.laid (t':=s.toks) (o:=DD 0 (e_ s) a) (λb u e=>SZ _ e) (Uv _) ?_,rfl,?_⟩
    ·show⟨⟨_,Yo 0,rfl,rfl⟩,⟨_,Yo 0⟩,λh1 h2 ⟨o,e,p⟩ k=>⟨o,k o e,p⟩⟩
    ·show po (φ++[(e_ s)]) (.ref _) _ (Vo _ _) (Kp.new fr) (rh.new fr ⟨a,fO (Vo _ _) ha,aI⟩) ⟨_,rfl,by rw[<-rh.len];simp⟩
  ·show po.elim
 ·show po.elim,mD c⟩
def wI{o:MO}(e:h[n]?=a_ o)(hd:wG (a_ o)=true):dW (.ref n) [] h=.ok (.ref h.length) (h++[.vw 0 n]):=by simp only[dW,e,hd,if_true]
def Hu{d:Nat}{o:MO}(e:h[n]?=a_ (.vw 0 d))(e2:h[d]?=a_ o)(hx:jB o=a_ xs):wkI true (.ref n) h=a_ (d,o,xs):=by simp[wkI,e,e2,hx]
def Ny{x:PV}{d:Nat}{o:MO}(e:m δ h=.ok x h1)(ew:wkI b x h1=a_ (d,o,xs))(hd:wG h[d]?=true):wkD b m δ h=a_ d:=by simp[wkD,e,ew,hd]
def Hv{x:PV}{d:Nat}{o:MO}(e:m δ h=.ok x h1)(ew:wkI b x h1=a_ (d,o,xs)):wH b m δ h=.ok ⟨xs,λ_=>true⟩ (h1.set d<|.fz o):=by simp[wH,e,ew]
open PySem.SeqAt PySem.W
abbrev hdk:PV->y_ Nat
 |.tup (.int _::_)=>a_ 0
 |.tup (.str _::_)=>a_ 1
 |.tup (.tup _::_)=>a_ 2
 |_=>b_
abbrev Its(x:Str):It:=⟨λi _=>i<x.cps.size,λi H v H'=>H'=H/\∃c,x.cps[i]?=a_ c/\v=V.str ⟨#[c]⟩,λi _=>x.cps.size<=i⟩
def Hw(x:Str)(t:Tok)(it:s_):Turn P w K tg (Its x) [it] it (λi h=>h.IsStrIter it "str_ascii_iterator" x t i) where
 mem:=by simp
 obj:=λi h st b hb=>by
  let e:b=it:=by simpa using hb
  subst e;let⟨o,e,c,d⟩:=st;show⟨o,e,λv z=>by rw[d]at z;cases z⟩
 keep:=λi h h' ⟨o,e,r⟩ k=>⟨o,k it (by simp) o e,r⟩
 item:=by intro X hP hw hK hc i td s σ H E I hf st hg;subst hP hw hK;let⟨f0,f1,f2,f3,f4,f5⟩:=hf it (by simp);let hi:x.cps[i]?=a_ x.cps[i]:=VF hg;refine wpAny_pyNext_ascii_item st hi λh' cy sb=>?_;let I1:H_ {s with heap:=h',toks:=s.toks+1}:=I.turned (t':=s.toks+1) (λb o hb e=>(sb.2 b hb).trans e) f0 f1 f3 f4 f5;let⟨o,e,c,d⟩:=id cy;show⟨_,rfl,B5 (s:={s with heap:=h',toks:=s.toks+1}) e c d (by decide) ⟨.str ⟨#[x.cps[i]]⟩,H,I1,⟨_,rfl⟩,⟨rfl,_,hi,rfl⟩,cy,λb hb=>(hf b hb).1⟩⟩
 done:=by intro X hP hw hK hc i td s σ H E I hf st hg;subst hP hw hK;let⟨f0,f1,f2,f3,f4,f5⟩:=hf it (by simp);show wpAny_pyNext_ascii_end (I.ok.hd hc) st (VJ hg) λh' eb=>⟨rfl,I.turned (t':=s.toks) (λb o hb e=>eb b o hb e) f0 f1 f3 f4 f5⟩
 self:=λ_ _ _ _ _ st h=>wpAny_pyIter_striter_ascii st h
abbrev ofStr(x:PV)(h:PH):Rs Wk:=match x with
 |.str x=>if(x.cps.all λc=>decide (c<128))=true then .ok ⟨x.cps.toList.map λc=>.str ⟨#[c]⟩,λ_=>true⟩ h else .bad
 |_=>.bad
abbrev zK(m:Me):Mi:=λδ h=>(m δ h).bind ofStr
def Q4{k:Nat}(h:D_ iter m):SI C k X tg iter (zK m):=λc=>by
 intro td s σ H R I q;let⟨φ,δ,hh,rh,re,p⟩:=q;let key:rd C m σ H λv H1=>∃φ1 x h1,φ<+:φ1/\Kp H H1/\Yl 0/\RV C φ1 H1 x v/\dN C φ1 H1 (ofStr x h1) R:=by
  refine⟨φ,δ,hh,rh,re,?_⟩;unfold zK at p;cases e:m δ hh with
  |ok x h1=>
   rw[e]at p;intro φ' v H' p' t' bf bg;refine⟨φ',x,h1,p',t',bf,bg,?_⟩
   change dN C φ' H' (ofStr x h1) R
   let p0:dN C φ H (ofStr x h1) R:=p;cases e2:ofStr x h1 with
   |ok w h2=>rw[e2]at p0;show λφ2 H2 J p2 t2=>p0 φ2 H2 J (p'.trans p2) (t'.trans t2)
   |exc z h2=>rw[e2]at p0;show λφ2 H2 p2 t2=>p0 φ2 H2 (p'.trans p2) (t'.trans t2)
   |bad=>rw[e2]at p0;show p0
  |exc x h1=>rw[e]at p;show p
  |bad=>rw[e]at p;show p
 refine thn (h c td s σ H _ I key) λv s1 z9=>?_;let⟨x,H1,I1,r1,φ1,x',h1,p1,t1,aa,ae,q1⟩:=z9;unfold ofStr at q1;cases x' with
 |str x'=>
  cases ae
  let⟨t,rfl⟩:=r1;dsimp only at q1;split at q1
  ·rename_i ha;refine wpAny_pyIter_ascii ha ?_;refine⟨(e_ s1),[(e_ s1)],_,_,H1,rfl,I1.kept (t':=s1.toks) λb o e=>SZ _ e,Hw x' t _,⟨_,Yo 0,rfl,rfl⟩,λb hb=>?_,?_⟩
   ·let e:b=(e_ s1):=by simpa using hb
    subst e;show I1.fpOk (Uv _)<|I1.hok.fresh<|Uv _
   ·refine q1 φ1 H1 (Its x') Ux (Kp.refl H1) aa λφ2 H2 h2 p2 t2 ah _ i=>⟨λhi=>?_,λhi=>by simpa[Its] using hi⟩
    let bc:i<x'.cps.size:=by simpa using hi
    refine⟨bc,λv H' y=>?_⟩;let⟨e,c',ec,rfl⟩:=y;subst e;have:x'.cps.toList[i]?=a_ c':=by simpa using ec
    show⟨⟨.str ⟨#[c']⟩,by simp[ec],rfl⟩,Kp.refl _,ah⟩
  ·show q1.elim
 |_=>exact q1.elim
def Nz{E:FE}{tg:Mg}(I:Nat->Ev->PH->Prop)(e:m δ h=.ok (.str x) h)(ha:(x.cps.all λc=>decide (c<128))=true)(h0:I 0 δ h)(step:∀(q:Nat) c δ h,x.cps.toList[q]?=a_ c->I q δ h->∃δ1,tg (.str ⟨#[c]⟩) δ=a_ δ1/\(body δ1 h).W { nx:=I<|q+1,ct:=I<|q+1,rt:=E.rt,bk:=E.nx})(fin:∀δ h,I x.cps.size δ h->E.nx δ h):(bR (zK m) tg body δ h).W E:=by
 let go:(eY (λ_=>true) tg body (x.cps.toList.map λc=>PV.str ⟨#[c]⟩) δ h).W E:=lZ I _ 0 δ h h0 (λq y δ h _ hx hi=>⟨rfl,by rw[Nat.sub_zero,UD]at hx;let⟨c,hc,rfl⟩:=UI.mp hx;show step q c δ h hc hi⟩)<|λδ h hi=>⟨rfl,fin δ h<|ke hi⟩;unfold bR zK;rw[e,Rs.bind_ok];unfold ofStr;dsimp only;rw[if_pos ha];show go
def Kl(K:Us)(hK:X.K=K):Yg (V6 .Add) (λx y H Q=>∃l b xs zs,x=.ref l/\y=.ref b/\SqL K H l xs/\H b=a_ (.lst zs)/\xs.length+zs.length<=UG/\∀p,H p=b_->Q (.ref p) (R_ p<|.lst<|xs++zs)):=by
 subst hK;intro td s σ H x y v u Q I rx ry h;let⟨l,b,xs,zs,rfl,rfl,hH,hB,hz,q⟩:=h;cases rx
 cases ry
 let⟨its,r,⟨⟨oc,od,oda,osl⟩,n,e,h1,h2,h3⟩,z⟩:=I.list hH;let⟨z2,da,n2,r2,nv,e2⟩:=I.lstM hB;let hl:=r.length;dsimp only at h1 h2 h3;subst h1 h2 h3;refine concat_meets (T:="list") ⟨_,e,rfl⟩ ⟨_,e2,rfl⟩ noFill_list_add seq_list_add F.slot_list_add F.entry_list_add (F.args_list_add_2 _ _) (list_addW l b its.toArray da.toArray n n2 b_ b_ osl #[] (by rw[UC,UC];omega)) ⟨e,e2,?_⟩;let ea:its.toArray++da.toArray=(its++da).toArray:=by simp
 rw[ea];show⟨.ref _,_,I.lnew (t':=s.toks) (r.append r2) (by rw[Vm];omega),rfl,q _ I.fresh⟩
abbrev oH:PV->PV->PH->Rs PV:=λx y h=>match x,y with
 |.fl xs,.ref m=>match dM h m with
  |some ys=>if xs.length+ys.length<=UG then .ok (.ref h.length) (h++[.lst<|xs++ys]) else .bad
  |none=>.bad
 |_,_=>.bad
set_option tactic.hygienic true in
def Km{k:Nat}:Yq (V6 .Add) oH:=λc=>(Kl C.K c.K).imp λx y H Q h=>by
 let⟨φ,h,p,q,rh,rx,ry,po⟩:=h;unfold oH at po;split at po
 ·rename_i xs m;let⟨a,vs,rfl,sa,ra⟩:=rx;let⟨b,rfl,hb⟩:=ry;cases e:dM h m with
  |none=>rw[e]at po;show po.elim
  |some ys=>rw[e]at po;let⟨us,h2,r2⟩:=rh.at' m b _ hb<|gX e;let⟨hz,po⟩:=po.ite;show⟨a,b,vs,us,rfl,rfl,sa.sq,h2,by rw[<-ra.length,<-r2.length];show hz,λp hp=>po.lnew rh (ra.append r2) hp⟩
 ·show po.elim
def F9{m:Nat}(e:h[m]?=a_ (.lst ys))(hz:xs.length+ys.length<=16777216):oH (.fl xs) (.ref m) h=.ok (.ref h.length) (h++[.lst<|xs++ys]):=by
 have:dM h m=a_ ys:=by simp[dM,e]
 unfold oH;simp only[this];rw[if_pos (by rw[Vs];show hz)]
open PySem.SeqAt PySem.W
open Classical in
abbrev zM(b:Bool)(m:Nat)(ks ys:X9 0):y_ (X9 0):=if ks.length<64/\ks.length=ys.length/\OkN m ks/\(∀a∈ks.zip ys,∀c∈ks.zip ys,a.1=c.1->a.2=c.2) then a_ ((XM b<|jK WN<|ks.zip ys).map (·.2)) else b_
abbrev fW(f:Fn)(b:Bool)(kb:Nat)(ys:X9 0):X9 0->X9 0->PH->Rs PV
 |[],ks,h=>match zM b kb ks ys with
  |some zs=>.ok (.ref h.length) (h++[.lst zs])
  |none=>.bad
 |x::xs,ks,h=>(f [x] h).bind λk h1=>fW f b kb ys xs (ks++[k]) h1
abbrev iR(f:Fn)(b:Bool)(kb:Nat)(x:PV)(h:PH):Rs PV:=match fE x h with
 |some ys=>if ys.length<64 then fW f b kb ys ys [] h else .bad
 |none=>.bad
abbrev qE(f:Fn)(b:Bool)(kb:Nat)(me:Me):Me:=λδ h=>(me δ h).bind λx h1=>iR f b kb x h1
abbrev Hx(C:MC)(X:Cx)(td:gV 0)(σ:St)(φ:x_ s_)(H:Hp)(f:Fn)(b:Bool)(kb:Nat)(ys:X9 0)(Q:VK)(a z:s_)(kS:s_)(e1:Nat)(ks:x_ q_)(e:Nat)(s':r_):Prop:=z<kS/\∃H' φ' h' zs ps,Inv X (td++[(kS,seqObj "list" ks.toArray e),(a,seqObj "list" #[] e1)]) σ H' s'/\φ<+:φ'/\Kp H H'/\Yn h'/\aJ zs ks/\RVs C φ' H' ps zs/\post C φ' H' (fW f b kb ys (ys.drop ks.length) ps h') Q
variable{kb:Nat}
def Fb{k:Nat}{q:s_}{f:Fn}{us:x_ V}{Q:VK}(c:X7 X)(D:Def C.K X.mg x st q fd pn)(G:E_ q fd pn (spM C 1 f))(hj:j+2<=k)(ry:C_ ys us)(rv:aJ us its)(eA:A'=X.A.in1.in1)(fr:∀kS,a<=kS->X.s₀.heap.objs.size<=kS/\kS≠X.env.locals/\(∀x c,L_ 0=a_ c->c≠kS)/\(∀p∈X.pn++td,p.1≠kS)/\kS∉X.fs)(kS:s_)(e1:Nat)(ks:x_ q_)(e:Nat)(s':r_)(y:q_)(hy:its[ks.length]?=a_ y)(hJ:Hx C X td σ φ H f b kb ys Q a a kS e1 ks e s'):
  wpAny (g_ X) A' (call (.ref q) [y]) (λv cu=>cu.heap.get? kS=a_ (seqObj "list" ks.toArray e)/\∀(h':u_) e',V1 kS cu.heap h'->h'.get? kS=a_ (seqObj "list" (ks++[v]).toArray e')->Hx C X td σ φ H f b kb ys Q a a kS e1 (ks++[v]) e' { cu with heap:=h'}) (λ_ _=>False) s':=by
 subst eA;let⟨hz,H',φ',h',zs,ps,I,pp,tt,rh,rz,rp,po⟩:=hJ;let ao:ks.length<its.length:=(SC.mp hy).1;let qh:us.length=its.length:=rv.length;let rq:ys.length=us.length:=ry.length;let gy:ys[ks.length]?=a_ (ys[ks.length]'⋯):=by simp
 let⟨u,hu,ru⟩:=ry.at gy;let⟨y',iz,vx⟩:=rv.get hu;rw[hy]at iz;cases iz
 let hd:ys.drop ks.length=ys[ks.length]'⋯::ys.drop (ks.length+1):=drop_cons gy;rw[hd]at po;let oz:=c.K;let G':G_ CX0 j q fd pn (spM C 1 f):=by rw[oz];show G
 let D':Def X.K X.mg x st q fd pn:=by rw[oz];show D
 let qt:spM C 1 f [u] H' (λv H2=>∃φ2 p h2,φ'<+:φ2/\Kp H' H2/\RH C φ2 H2 h2/\RV C φ2 H2 p v/\post C φ2 H2 (fW f b kb ys (ys.drop (ks.length+1)) (ps++[p]) h2) Q) E0:=⟨φ',h',[ys[ks.length]'⋯],rh,⟨ru.mono pp tt,trivial⟩,rfl,post.bind po⟩;let hl:([y]:x_ q_).length=pn.length:=G'.len _ _ _ _ qt;refine wpAny_call (codeAny_mono (G'.run X.A.in1.in1 X.stack s' H' ⟨[y],[]⟩ [y] [u] _ E0 ((c.room.mono hj).in1.in1) I.env0.in1.in1 (by
  have:=D'.bd s' [y] I.kIn<|ke hl
  simpa using this) (.cons vx .nil) qt) λr s2 hq=>?_)
 cases r with
 |error e=>exact hq.elim
 |ok fl=>
  cases fl with
  |next=>exact VV hq
  |brk=>exact VV hq
  |cont=>exact VV hq
  |ret v=>
   let⟨x2,H2,I2,vk,φ2,p2,h2,qr,qd,ah,qf,xi⟩:=I.after hq;let gk:=I2.pin (kS,seqObj "list" ks.toArray e)<|Ut _<|Ut _ Uy;let ga:=I2.pin (a,seqObj "list" #[] e1)<|Ut _<|Ut _<|Uw _ Uy;refine⟨gk.1,λg e' sb ip=>?_⟩;let fk:=fr kS<|VR hz;let wb:a≠kS:=UR hz;let I3:Inv X (td++[(a,seqObj "list" #[] e1)]) σ H2 s2:=I2.pins_of λp hp=>(UN.mp hp).elim (λz=>I2.pin p<|Ut _<|U8 _ z) λz=>by rw[UX.mp z];show ga
   let I4:=I3.turned (t':=s2.toks) (it:=kS) (h':=g) (λb' o' hb hq=>(sb.2 b' hb).trans hq) gk.2.1 fk.2.1 (.inr fk.1) fk.2.2.1 (λp hp=>by
    rcases UN.mp hp with hp|hp
    ·show fk.2.2.2.1 p (U8 _ hp)
    ·rcases UN.mp hp with hp|hp
     ·show fk.2.2.2.1 p (Ut _ hp)
     ·rw[UX.mp hp];show wb)
   refine⟨hz,H2,φ2,h2,zs++[x2],ps++[p2],I4.pins_of λp hp=>?_,pp.trans qr,tt.trans qd,ah,rz.append<|.cons vk .nil,(rp.mono qr qd).snoc qf,?_⟩
   ·rcases UN.mp hp with hp|hp
    ·show I4.pin p (Ut _<|U8 _ hp)
    ·rcases UF.mp hp with rfl|hp
     ·show⟨ip,gk.2.1,fk.2.1,fk.2.2.2.2,eP⟩
     ·rw[UX.mp hp];show I4.pin _<|Ut _<|Ut _ Uy
   ·rw[Vm];show xi
def C3{ab:X9 0}(hl:ab.length=ys.length)(ok:OkN kb ab)(cs:∀a∈ab.zip ys,∀c∈ab.zip ys,a.1=c.1->a.2=c.2){p:x_ Nat}(hp:p.Perm (U9 ys.length))(ho:p.Pairwise (λi j=>(if b then ltN (ab.getD i .non) (ab.getD j .non) else ltN (ab.getD j .non) (ab.getD i .non))=false)):p.map (λi=>ys.getD i .non)=(XM b<|jK WN<|ab.zip ys).map (·.2):=by
 letI zs:=ab.zip ys;let vq:zs.length=ys.length:=by change(ab.zip ys).length=_;simp[hl]
 let cf:∀i∈p,i<ys.length:=λi hi=>by simpa using hp.mem_iff.mp hi
 let eg:∀i,i<ys.length->zs.getD i (.non,.non)=(ab.getD i .non,ys.getD i .non):=λi hi=>by
  let h1:i<ab.length:=⋯;let h2:i<zs.length:=⋯;let h3:(ab.zip ys)[i]?=a_ (ab[i],ys[i]):=by rw[W2];show⟨by simp[h1],by simp[hi]⟩
  change(ab.zip ys).getD i _=_
  simp[h1,hi,h3]
 let og:(p.map λi=>zs.getD i (.non,.non)).Perm zs:=yT (by rw[vq];show hp);let hm:zs.map (·.1)=ab:=by
  change(ab.zip ys).map WN=ab
  show List.map_fst_zip ⋯
 let hsz:∀y∈zs,y.1∈ab:=λy hy=>by rw[<-hm];show UO.mpr ⟨y,hy,rfl⟩
 let inj:∀a∈zs,∀c∈zs,enc (WN a)=enc (WN c)->a=c:=λa ha c hc e=>by let e1:=ok.inj _ (hsz a ha) _ (hsz c hc) e;show Prod.ext e1<|cs a ha c hc e1
 let e2:p.map (λi=>ys.getD i .non)=(p.map λi=>zs.getD i (.non,.non)).map (·.2):=by rw[Vk];show VZ λi hi=>by change _=(zs.getD i _).2;rw[eg i<|cf i hi]
 rw[e2];let key:∀(R:Nat->Nat->Bool),p.Pairwise (λi j=>R i j=false)->(∀i j,i<ys.length->j<ys.length->R i j=ltN (zs.getD j (.non,.non)).1 (zs.getD i (.non,.non)).1)->(p.map λi=>zs.getD i (.non,.non)).Pairwise (λx y=>ltN y.1 x.1=false):=λR h1 h2=>by rw[VP];show h1.imp_of_mem λ{i j} hi hj h=>by rw[<-h2 i j (cf i hi) (cf j hj)];show h
 cases b with
 |false=>
  congr 1;refine zC WN inj og (key (λi j=>ltN (ab.getD j .non)<|ab.getD i .non) ho λi j hi hj=>by rw[eg i hi,eg j hj])
 |true=>
  congr 1;let hr:(p.map λi=>zs.getD i (.non,.non)).reverse=jK WN zs:=by refine zC WN inj ((XE _).trans og) ?_;rw[Xz,VP];show ho.imp_of_mem λ{i j} hi hj h=>by rw[eg i<|cf i hi,eg j<|cf j hj];show h
  change _=(jK WN zs).reverse
  rw[<-hr,List.reverse_reverse]
def C4{k:Nat}{q:s_}{f:Fn}(c:X7 X)(D:Def C.K X.mg x st q fd pn)(G:E_ q fd pn (spM C 1 f))(hj:j+2<=k)(vg:∀v,argsOk "sorted" ⟨[v],kw⟩)(aq:∀v,argsOk "list.sort" ⟨[.ref v],kw⟩)(ht:∀v,Builtin.«list.sort» ⟨[.ref v],kw⟩=ksk_tree v (.ref q) b){Q:VK}{u:q_}(I:H_ s)(ru:RelV v u)(h:r1 C (iR f b kb) v H Q):
  wpAny (g_ X) X.A (call (.builtin "sorted") [u] kw) (X3 Q) X.xe s:=by
 let⟨φ,h,p,rh,rp,po⟩:=h;unfold iR at po;cases ei:fE p h with
 |none=>rw[ei]at po;show po.elim
 |some ys=>
 rw[ei]at po;let⟨jy,po⟩:=po.ite;refine call_function_entry_kw kind_sorted plain_sorted entry_sorted (vg u) ?_;unfold Builtin.«sorted»;refine SB (m:=checkCount "sorted" 1 1 _)<|SL ?_;let col:wpAny (g_ X) X.A.in1 (collect u) (λits s1=>∃us,H_ s1/\aJ us its/\C_ ys us) X.xe s:=by
  let dk:∀{a:s_}{vs:x_ V},v=.ref a->SqL C.K H a vs->C_ ys vs->wpAny (g_ X) X.A.in1 (collect u) (λits s1=>∃us,H_ s1/\aJ us its/\C_ ys us) X.xe s:=λ{a vs} ev sa ra=>by
   subst ev;cases ru
   let qp:SqL X.K H a vs:=by rw[c.K];show sa
   let⟨its,rv,pl,hz⟩:=I.list qp;refine collect_list pl.isList ?_ (by have:=rv.length;have:=ra.length;rw[Vs];omega);show⟨vs,I.kept (t':=s.toks) λb o e=>by
    let ao:b<(e_ s):=UE e
    first
     |(rw[Heap.get?_update_ne _ _ _ _<|UR ao,Heap.get?_push_ne _ _ _<|UR ao];show e)
     |exact SZ _ e,rv,ra⟩
  unfold fE at ei;split at ei
  ·rename_i n;split at ei
   ·rename_i Tn e;cases ei
    let⟨a,ev,ha⟩:=rp;let⟨a2,vs,aq,sa,ra⟩:=bO rh e;rw[ha]at aq;cases aq;show dk ev sa ra
   ·unfold qB at ei;split at ei
    ·rename_i d hv;let⟨a,ev,ha⟩:=rp;subst ev;cases ru
     let⟨bb,hb,hH⟩:=Yb hv;let⟨hT,hm,hz,oc,es,ep,g1,g2,ws,r1,r2⟩:=vW c I rh hb ei;let oj:s.heap.IsValuesView a bb:=(I.hok a _ hH).1;let hn:es.size<=UG:=by
      let e1:=r1.length;let e2:ws.length=es.size:=by have:=r2.length;simpa using this
      rw[<-e2,<-e1];show hz
     refine PySem.W.kdu_collect (Bo (r:=a) g2) (I.ok.hd c.calm) ⟨oj,g1⟩ hn λh' tk acc hk ak=>?_;show⟨ws,I.kept (t':=tk) hk,by rw[BM ak];show r2,r1⟩
    ·cases ei
  ·cases ei
   let⟨a,vs,ev,sa,ra⟩:=rp;show dk ev sa.sq ra
  ·cases ei
 refine SB<|WH col (λits s1 hh=>?_) λ_ _ z=>z;let⟨us,I1,rv,ry⟩:=hh;let qh:us.length=its.length:=rv.length;let rq:ys.length=us.length:=ry.length;refine SB (wpAny_newList ?_ (by rw[Vs];omega));let k8:(s1.heap.push<|seqObj "list" its.toArray 0).get? (e_ s1)=a_ (seqObj "list" its.toArray 0):=Yo 0;let keep:∀b o,s1.heap.get? b=a_ o->b≠(e_ s1)/\(s1.heap.push<|seqObj "list" its.toArray 0).get? b=a_ o:=λb o q=>⟨UR<|UE q,SZ _ q⟩;let fr:∀kS,(e_ s1)<=kS->X.s₀.heap.objs.size<=kS/\kS≠X.env.locals/\(∀x c,L_ 0=a_ c->c≠kS)/\(∀p∈X.pn++td,p.1≠kS)/\kS∉X.fs:=λkS hk=>BS I1 hk
 change B_ _ _ _ {s1 with heap:=s1.heap.push (seqObj "list" its.toArray 0)}
 refine SB<|VY<|wpAny_call_entry_kw slot_list_sort ⟨_,k8,rfl⟩ entry_list_sort ?body<|aq _
 case body=>
  change wpAny (g_ X) X.A.in1.in1 (Builtin.«list.sort» ⟨[.ref<|e_ s1],kw⟩) _ _ _
  rw[ht<|e_ s1];refine vJ (s:={s1 with heap:=s1.heap.push (seqObj "list" its.toArray 0)}) (a:=(e_ s1)) (κ:=tuples'<|decide (kb≠2)) (vs:=its) k8 ⋯ (Hx C X td σ φ H f b kb ys Q (e_ s1)<|e_ s1) ?h0 ?dj ?turn ?fin
  case h0=>
   intro kS e1 h' kp hk g1 g2;let fv:(e_ s1)<kS:=by have:(s1.heap.push<|seqObj "list" its.toArray 0).objs.size<=kS:=hk;rw[VL]at this;show this
   let I2:H_ {s1 with heap:=h'}:=I1.kept (t':=s1.toks) λb o q=>kp b o (keep b o q).1 (keep b o q).2;let fk:=fr kS<|VR fv;let fa:=fr (e_ s1)<|Uv _;refine⟨fv,H,φ,h,[],[],I2.pins_of λp hp=>?_,Ux,Kp.refl H,rh,.nil,trivial,po⟩;rcases UN.mp hp with hp|hp
   ·show I2.pin p (Ut _ hp)
   ·rcases UF.mp hp with rfl|hp
    ·show⟨g2,I1.hok.fresh<|VR fv,fk.2.1,fk.2.2.2.2,eP⟩
    ·rw[UX.mp hp];show⟨g1,I1.hok.fresh<|Uv _,fa.2.1,fa.2.2.2.2,eP⟩
  case dj=>rintro kS e1 ks e s' ⟨hz,H',φ',h',zs,ps,I',_⟩;show⟨Vv hz,(I'.pin (s1.heap.objs.size,seqObj "list" #[] e1)<|Ut _<|Ut _<|Uw _ Uy).1,(I'.pin (kS,seqObj "list" ks.toArray e)<|Ut _<|Ut _ Uy).1⟩
  case turn=>intro kS e1 ks e s' y hy hJ;show Fb c D G hj ry rv rfl fr kS e1 ks e s' y hy hJ
  case fin=>
   rintro kS e1 ks e s' hl ⟨hz,H',φ',h',zs,ps,I',pp,tt,bf,rz,rp',po'⟩;let hd:ys.drop ks.length=[]:=List.drop_eq_nil_of_le ⋯;rw[hd]at po';unfold fW at po';cases es:zM b kb ps ys with
   |none=>rw[es]at po';show po'.elim
   |some out=>
   rw[es]at po';unfold zM at es;split at es
   ·rename_i hc;let⟨Sm,dr,ok,yf⟩:=hc;cases es
    let og:ps.length=zs.length:=rp'.length;let hzk:zs.length=ks.length:=rz.length;let hu:=c.hu64;let hr:HRs s'.heap ps ks:=Ao I' c.K 20 ok.ky rp' rz;let memD:∀i,i<its.length->ps.getD i .non∈ps:=λi hi=>by
     let h1:i<ps.length:=⋯;have:ps.getD i .non=ps[i]:=by simp[h1]
     rw[this];show List.getElem_mem h1
    refine⟨λi j=>ltN (ps.getD i .non)<|ps.getD j .non,λi j k hi hj hk h1 h2=>GZ h1 h2,λi j hi hj h=>Ha h,λh2 Q' E' hq=>?_,λi j hi hj Q' hq=>?_,λp g e2 a1 a2 kp he gk=>?_⟩
    ·show Kb ok.m3 hr ok.fk ⋯ hq
    ·let mi:=memD i hi;let mj:=memD j hj;let⟨bb,hb⟩:=Wz.mp<|ok.lt _ mi _ mj;let hq:Q' (ltN (ps.getD i .non)<|ps.getD j .non) s':=hq;rw[Nc hb]at hq;let⟨qs,eq,_⟩:=He ok.m3<|ok.fk _ mj;show Hd (n:=19) (by change X.A.units+1+1+19<cLine;omega) (ok.ky _ mi) (ok.ky _ mj) (He ok.m3<|ok.fk _ mi) ⟨qs,eq⟩ (hr.getD ⋯) (hr.getD ⋯) hb hq
    ·let cf:∀i∈p,i<its.length:=λi hi=>by simpa using a1.mem_iff.mp hi
     let fa:=fr (e_ s1)<|Uv _;let fk:=fr kS<|VR hz;let wt:=I'.pin (kS,seqObj "list" ks.toArray e)<|Ut _<|Ut _ Uy;let r9:=I'.pin (s1.heap.objs.size,seqObj "list" #[] e1)<|Ut _<|Ut _<|Uw _ Uy;let I5:h_ H' s':=I'.unpinned;let I6:=I5.adopt (a:=(e_ s1)) (d:=kS) (o:=.lst<|p.map λi=>us.getD i .non) (h':=g) r9.2.1 wt.2.1 fa fk (λx o h1 h2 q=>kp x o h1 h2 q) (by refine⟨?_,p.map<|λi=>its.getD i UT,e2,rE rv (λi hi=>by have:=cf i hi;omega),he⟩;rw[Uu,a1.length_eq,List.length_range,Vs];omega)
     refine⟨_,rfl,SL ⟨_,rfl,.ref<|e_ s1,_,I6,rfl,?_⟩⟩;refine po'.lnew bf ?_ r9.2.1;rw[<-C3 (b:=b) dr ok yf (p:=p) (by rw[rq,qh];show a1) a2];show(ry.mono pp tt).pick (λi hi=>by have:=cf i hi;omega)
   ·cases es
section
variable{q:s_}{jb:Nat}{f:Fn}{p rp iu:Pos}
def Fc{Q:VK}(h:rd C (qE f b kb me) σ H Q):FT (rd C me) FQ σ H λvs H1=>∃x,vs=[x]/\r1 C (iR f b kb) x H1 Q:=by let⟨φ,δ,h,rh,re,po⟩:=h;refine⟨φ,δ,h,rh,re,(post.bind po).imp ?_⟩;rintro v H1 ⟨φ1,x,h1,p1,t1,aa,ae,q1⟩;show⟨v,rfl,φ1,h1,x,aa,ae,q1⟩
def Hy{k:Nat}(D:Def C.K X.mg kf st q fd pn)(G:E_ q fd pn (spM C 1 f))(he:D_ e me)(hb:("sorted" : Str)∈C.bs)(hj:j+2<=k:=by decide)(hg:Gl X "sorted" := by rfl)(pb:Gl X kf:=by rfl)(hdk:(kf == ("__debug__" : Str))=false:=by decide)(dg:UL [e] X.env=(false,S_ 0)::UL [] X.env:=by rfl)(qu:Yc (UL [e] X.env)=(false,S_ 0)::Yc (UL [] X.env):=by rfl)(bh:(Yc<|UL [e] X.env).any (·.1)=false:=by rfl):
  D_ (.Call (.Name "sorted" p) [e] [⟨a_ "key",.Name kf kp,dq⟩] pos) (qE f false kb me):=λc td s σ H Q I h=>by
 refine VS (jS I hg (c.bn _ hb) PyProof.Rows.Boot.«sorted» ?_ (by decide) (by decide));refine callWith_kw (thn (uK (he c) A0 dg pos td s σ H _ I<|Fc h) λus s1 hh=>?_) qu bh;let⟨vs,H1,I1,rv,x,rfl,r⟩:=hh;let⟨u,rfl,ru⟩:=vals1 rv;refine kws_cons<|iL I1 pb D.mg (kws_nil ?_) hdk
 change B_ (call (.builtin "sorted") [u] [(UB "key",.ref q)]) _ _ _
 show C4 c D G hj (λv=>ksk_s1 _ _) (λv=>ksk_l1 _ _) (λv=>ksk_t1 _ _) I1 ru r
end
section
variable{α:Type}
def Kn{key emb:α->PV}{xs:x_ α}{m:Nat}(h1:xs.length<64)(ok:OkN m (xs.map key))(hc:∀a∈xs,∀c∈xs,key a=key c->emb a=emb c):∃os:x_ α,os.Perm xs/\os.Pairwise (λa c=>ltN (key c) (key a)=false)/\zM false m (xs.map key) (xs.map emb)=a_ (os.map emb):=by
 let ez:(xs.map key).zip (xs.map emb)=xs.map λx=>(key x,emb x):=by
  induction xs with
  |nil=>rfl
  |cons x xs ih=>simp only[UJ,Xs];rw[ih (by simp at h1;omega) ⟨ok.m3,λy hy=>ok.ky y (Uw _ hy),λy hy=>ok.fk y (Uw _ hy),λy hy z hz=>ok.lt y (Uw _ hy) z (Uw _ hz)⟩ (λa ha c cq=>hc a (Uw _ ha) c (Uw _ cq))]
 let xh:∀(x:α)(ys:x_ α),vY WN (key x,emb x) (ys.map λy=>(key y,emb y))=(vY key x ys).map λy=>(key y,emb y):=λx ys=>by
  induction ys with
  |nil=>rfl
  |cons y ys ih=>
   change(if ltN (key y) (key x)=true then(key y,emb y)::vY WN (key x,emb x) (ys.map λy=>(key y,emb y)) else(key x,emb x)::(key y,emb y)::ys.map λy=>(key y,emb y))=(if ltN (key y) (key x)=true then y::vY key x ys else x::y::ys).map λy=>(key y,emb y)
   split
   ·rw[ih];rfl
   ·rfl
 let Tf:∀ys:x_ α,jK WN (ys.map λy=>(key y,emb y))=(jK key ys).map λy=>(key y,emb y):=λys=>by
  induction ys with
  |nil=>rfl
  |cons y ys ih=>
   change vY WN (key y,emb y) (jK WN<|ys.map λy=>(key y,emb y))=_
   rw[ih,xh];rfl
 refine⟨jK key xs,kH key xs,kI key xs,?_⟩;unfold zM;rw[if_pos ⟨ke h1,by simp,ok,λa ha c cq e=>by rw[ez]at ha cq;let⟨x,hx,rfl⟩:=UO.mp ha;let⟨y,hy,rfl⟩:=UO.mp cq;show hc x hx y hy e⟩,ez,Tf]
 change a_ (((jK key xs).map λy=>(key y,emb y)).map Prod.snd)=_
 rw[Vk];rfl
def E3{key emb:α->PV}{f:Fn}{m:Nat}{ys zs:X9 0}{Q:PV->PH->Prop}:∀(r done:x_ α)(h:PH),(∀d∈r,∀h(Q:PV->PH->Prop),(∀h',X5 h'->Q (key d) h')->(f [emb d] h).W Q)->
  zM false m ((done++r).map key) ys=a_ zs->(∀h',X5 h'->Q (.ref h'.length) (h'++[.lst zs]))->(fW f false m ys (r.map emb) (done.map key) h).W Q
 |[],done,h,_,hs,k=>by rw[Ws]at hs;simp only[XW,fW,hs,rH];show k h<|Ext.refl h
 |x::r,done,h,hf,hs,k=>by
  rw[UJ];unfold fW;rw[Ah];refine hf x Uy h _ λh1 x1=>?_;let e:done.map key++[key x]=(done++[x]).map key:=by simp
  rw[e];show E3 r (done++[x]) h1 (λd hd=>hf d<|Uw _ hd) (by rw[XD];show hs) λh' x2=>k h'<|x1.trans x2
def Hz{key emb:α->PV}{f:Fn}{m:Nat}{xs:x_ α}{x:PV}{Q:PV->PH->Prop}(e:fE x h=a_ (xs.map emb))(h1:xs.length<64)(ok:OkN m (xs.map key))(hc:∀a∈xs,∀c∈xs,key a=key c->emb a=emb c)(hf:∀d∈xs,∀h(Q:PV->PH->Prop),(∀h',X5 h'->Q (key d) h')->(f [emb d] h).W Q)(k:∀(os:x_ α) h',X5 h'->os.Perm xs->os.Pairwise (λa c=>ltN (key c) (key a)=false)->Q (.ref h'.length) (h'++[.lst<|os.map emb])):(iR f false m x h).W Q:=by
 let⟨os,p,pw,es⟩:=Kn h1 ok hc;unfold iR;rw[e];dsimp only;rw[if_pos<|ke h1];show E3 xs [] h hf es λh' hx=>k os h' hx p pw
end
@[simp]theorem D5{f:Fn}:qE f b n m δ h=(m δ h).bind λx h1=>iR f b n x h1:=(rfl)
def wJ{κ β:Type}[Yv 0]{k:κ}{p:β}:∀{xs:x_ (κ×β)}{j:Nat},(xs.map (·.1)).Nodup->xs[j]?=a_ (k,p)->xs.eraseIdx j=xs.filter λx=>decide (x.1≠k)
 |[],j,_,h=>by simp at h
 |x::r,0,hn,h=>by
  simp only[List.getElem?_cons_zero,Option.some.injEq]at h;subst h;rw[UJ,VC]at hn;rw[List.eraseIdx_cons_zero,Xm];simp only[ne_eq,not_true_eq_false,decide_false,UV,if_false]
  symm
  rw[XS];intro y hy;show decide_eq_true λe=>hn.1<|UO.mpr ⟨y,hy,e⟩
 |x::r,j+1,hn,h=>by rw[VN]at h;rw[UJ,VC]at hn;let hx:¬ x.1=k:=λe=>hn.1 (e▸UO.mpr ⟨(k,p),UP h,rfl⟩);rw[List.eraseIdx_cons_succ,Xm,wJ hn.2 h];simp[hx]
def wK{α β:Type}(f:α->β):∀(l:x_ α)(i:Nat),(l.map f).eraseIdx i=(l.eraseIdx i).map f
 |[],i=>by simp
 |x::r,0=>rfl
 |x::r,i+1=>by rw[UJ,List.eraseIdx_cons_succ,List.eraseIdx_cons_succ,UJ,wK f r i]
section
variable{K:Type}[DecidableEq K]{knd:HeapKind prog w K}
def qF{d:s_}{xs:x_ (K×s_×q_)}{k:K}{p:s_×q_}{Q:y_ VQ->r_->Prop}(hu:knd.room A)(ba:knd.is s.heap k a)(hm:s.heap.DictOfH knd d xs)(hp:atKey xs k=a_ p)(hz:xs.length<=UG)(h:∀h',h'.DictOfH knd d (xs.filter λx=>decide (x.1≠k))->V1 d s.heap h'->Q (a_<|entryOfKey knd (k,p)) {s with heap:=h',toks:=s.toks+knd.draws k}):
  p_ (XH d<|.ref a) Q E s:=by
 let⟨o,es,ep,ho,hc,hd,he,oa,hn⟩:=hm;unfold XH
 try with_reducible refine VY ?_
 refine SB<|knd.pyHash hu ba ?_;refine SB<|wpAny_dictFind_heap (s:={ s with toks:=s.toks+knd.draws k}) hu ba ho hd he oa hn ?_ ?_
 ·intro ou;rw[atKey_none_of_get ou]at hp;cases hp
 ·intro j q hj;let e1:=atKey_of_get hn hj;rw[hp]at e1;cases e1
  refine SB (Vi (s:={ s with toks:=s.toks+knd.draws k}) ho hd ?_);rw[entry_at he j,hj];refine SB (wpAny_updateDictKeys (hz:=by let e:=size_of_entries he;omega) (hf:=by
   have:(es.eraseIdxIfInBounds j).size<=es.size:=by let⟨l⟩:=es;simp only[List.eraseIdxIfInBounds_toArray,UC];show List.length_eraseIdx_le _ _
   show Nat.le_succ_of_le this) (s:={ s with toks:=s.toks+knd.draws k}) ho hd (SL (h _ ⟨_,_,ep+1,Vf _ ho (Obj.isFreed_of_dict (Obj.data_mapDictKeys hd _)),
   hc.mapDictKeys _,Obj.data_mapDictKeys hd _,?_,?_,?_⟩ (UY ..))))
  ·rw[Array.toList_eraseIdxIfInBounds,he,<-wJ hn hj,wK]
  ·intro x hx;show knd.keeps (oa x (WJ.mp hx).1) ho hd<|UY ..
  ·show(List.Sublist.map _ XT).nodup hn
def wL(knd:HeapKind prog w K)(d a:s_):MeetsIn prog w (Builtin.«dict.pop» ⟨[.ref d,.ref a],[]⟩) (λA R s=>knd.room A.in1/\∃k xs p,knd.is s.heap k a/\s.heap.DictOfH knd d xs/\xs.length<=UG/\atKey xs k=a_ p/\
   ∀h',h'.DictOfH knd d (xs.filter λx=>decide (x.1≠k))->V1 d s.heap h'->R (.ok (.ret p.2)) {s with heap:=h',toks:=s.toks+knd.draws k}):=
 .of_wp λA R s ⟨hu,k,xs,p,ba,hm,hz,hp,r⟩=>by
  unfold Builtin.«dict.pop»;refine SB ?_;unfold Builtin.Dict.keyAndDefault;refine SB (WY hm.typeIs<|show B_ (pure (d,US a,b_)) _ _ s from SL ?_)
  let kp:(keyPart<|US a).isSome=false:=rfl;simp only[kp,UV,if_false];let⟨o,es,ep,ho,hc,hd,he,oa,hn⟩:=id hm;let ne:es.isEmpty=false:=by
   let e1:=size_of_entries he;cases xs with
   |nil=>cases hp
   |cons x t=>
    rw[VA]at e1;have:es≠#[]:=λe=>by rw[e]at e1;cases e1
    simpa using this
  refine SB<|Vi ho hd ?_;rw[ne];refine SB<|SL ?_;simp only[UV,if_false];refine SB<|qF hu ba hm hp hz λh' q1 q2=>?_;simp only[Option.isNone_some,UV,if_false];show SB<|Xy<|SL ⟨_,rfl,r h' q1 q2⟩
end
abbrev mK:PV->X9 0->PH->Rs PV:=λx ps h=>match x,ps with
 | .ref n,[y]=>if y.isKt=true then match bJ h n with
   |some kvs=>match aP kvs y with
    |some p=>.ok p (Yr<|.dD<|lJ kvs y)
    |none=>.bad
   |none=>.bad
  else .bad
 |_,_=>.bad
def HD.drop{xs:x_ (PV×s_×q_)}(r:RKd C φ H kvs ks)(rx:xV ks xs)(y:PV):∃bx,RKd C φ H (lJ kvs y) bx/\xV bx (xs.filter λx=>decide (x.1≠y)):=by
 unfold RKd at r;unfold RKd
 induction r generalizing xs with
 |nil=>cases rx;show⟨[],.nil,.nil⟩
 | @cons p q ps qs h t ih=>
  cases rx with
  | @cons _ z _ zs hz tz=>
   let⟨bx,i1,i2⟩:=ih tz;let eq1:p.1=q.1:=h.1;let eq2:q.1=z.1:=hz.1;unfold lJ;rw[Xm,Xm];by_cases e:p.1=y
   ·let e':z.1=y:=by rw[<-eq2,<-eq1];show e
    simp only[e,e',ne_eq,not_true_eq_false,decide_false,UV,if_false];show⟨bx,i1,i2⟩
   ·let e':¬ z.1=y:=λw=>e (by rw[eq1,eq2];show w);simp only[e,e',ne_eq,not_false_eq_true,decide_true,if_true];show⟨q::bx,.cons h i1,.cons hz i2⟩
set_option tactic.hygienic true in
def Ko{k:Nat}(c:X7 X):MtR X "dict.pop" (rM C mK):=λtd s σ H x xs v us Q I rx rs h=>by
 let⟨φ,h,p,ps,rh,rp,jh,po⟩:=h;unfold mK at po;split at po
 ·rename_i n y;let⟨a,rfl,ha⟩:=rp;cases rx
  let⟨yv,rfl,ry⟩:=jh.one;let⟨yu,rfl,cj⟩:=vals1 rs;let⟨hk,po⟩:=po.ite;split at po
  ·rename_i kvs ht;let⟨b,rfl⟩:=iN hk ry;cases cj
   let⟨⟨ks,xs,r,cg,hz,hm,dd⟩,mu,nt⟩:=Yu 0;let hv:=HD.val (a:=a) r cg y;cases e2:aP kvs y with
   |none=>rw[e2]at po;show po.elim
   |some p2=>
    rw[e2]at hv po;cases e3:atKey xs y with
    |none=>rw[e3]at hv;show hv.elim
    |some z=>
     rw[e3]at hv;let⟨v',ae,bq⟩:=hv;refine WG XB dd.typeIs PySem.F.entry_dict_pop (PySem.F.args_dict_pop_2 _ _) (wL (pS X.prog X.w) a b) ⟨c.room6,y,xs,z,pZ I c.K hk ry,dd,hz,e3,λh' je hs=>?_⟩;let⟨bx,r1,r2⟩:=HD.drop r cg y;let⟨o,es,ep,hq,h2,h3,h4,_,h5⟩:=je;let nv:bx.length<=UG:=by
      let e1:=Ve r1;let e4:=Ve r;let e5:=Ve cg;let e6:(lJ kvs y).length<=kvs.length:=by unfold lJ;show WZ _ _
      omega
     refine⟨v',R_ a<|dDO C.w a bx,pG I mu hs ⟨o,hq⟩ ⟨⟨nv,hm,_,r2,o,es,ep,hq,h2,h3,?_,h5⟩,⟨o,hq⟩,?_⟩,ae,?_⟩
     ·rw[h4,<-c.w];rfl
     ·rintro g1 g2 ⟨z1,z2,ws,z3,o',jw,ik,z4,z5⟩ keep;show⟨z1,z2,ws,z3,o',jw,ik,keep _ z4,z5⟩
     ·show po φ v' _ Ux (Kp.upd nt) (rh.write ha nt ⟨bx,aI,RKd.mono Ux (Kp.upd nt) r1⟩) (bq.mono Ux<|Kp.upd nt)
  ·show po.elim
 ·show po.elim
def NA{k:Nat}:MtG C k X "dict" bH "dict.pop" mK:=λc=>⟨Ko c,mD c⟩
def HA{y:PV}(ht:bJ h n=a_ kvs)(hk:y.isKt=true)(e:aP kvs y=a_ p):mK (.ref n) [y] h=.ok p (Yr<|.dD<|lJ kvs y):=by unfold mK;simp only[hk,if_true,ht,e]
structure ZA(z TI TO i1 i2:s_)(f1 f2:x_ s_):Prop where
 TIz:TI≠z
 TOz:TO≠z
 i1z:i1≠z
 i2z:i2≠z
 TITO:TI≠TO
 TIi1:TI≠i1
 TIi2:TI≠i2
 TOi1:TO≠i1
 TOi2:TO≠i2
 i12:i1≠i2
 a1:∀b∈f1,b≠z/\b≠TO/\b≠i2
 a2:∀b∈f2,b≠z/\b≠TO/\b≠i1
variable{P1 P2:Nat->q_->Prop}{S1 S2:Nat->u_->Prop}{f1 f2:x_ s_}{i1 i2:s_}{n1 n2:Nat}
def Kr{z:s_}{TI:s_}{TO:s_}(D1:Draws prog w A i1 f1 n1 P1 S1)(D2:Draws prog w A i2 f2 n2 P2 S2)(Z:ZA z TI TO i1 i2 f1 f2){k:Nat}{a b:q_}(hz:IsZip s.heap z TI TO .none)(b7:IsPair s.heap TI (.ref i1) (.ref i2))(b9:IsPair s.heap TO a b)(s1:S1 k s.heap)(s2:S2 k s.heap)(k1:k<n1)(k2:k<n2)(hQ:∀x y h' tk,P1 k x->P2 k y->IsZip h' z TI TO (rawInt (e_ s))->IsPair h' TO x y->S1 (k+1) h'->S2 (k+1) h'->IsPair h' (e_ s) x y->h'.objs.size=(e_ s)+1->
   (∀c o,c≠z->c≠TO->c≠i1->c≠i2->s.heap.get? c=a_ o->h'.get? c=a_ o)->Q (.ref (e_ s)) {s with heap:=h',toks:=tk}):
  p_ (Builtin.«zip.__next__» ⟨[.ref z],[]⟩) (λfin s'=>∃v,fin=.done (.ret v)/\Q v s') E s:=by
 change B_ (field (.ref z) 2 >>= _) _ _ _
 refine SB<|Vy hz rfl (x:=.bool false) rfl ?_
 change B_ (field (.ref z) 3 >>= _) _ _ _
 refine SB<|Vy hz rfl (x:=.ref TI) rfl ?_;refine SB<|W5 b7 rfl ?_
 change B_ (V0 (.ref z) >>= _) _ _ _
 refine SB ?_;unfold V0;refine SB<|Vy hz rfl (x:=.none) rfl<|SL ?_;simp only[if_true];refine SB<|Xo ?_;refine SB<|Vy hz rfl (x:=.ref TO) rfl ?_;refine SB (W0 hz (by simp) λh₁ j3 uw=>?_)
 replace j3:IsZip h₁ z TI TO .ellipsis:=j3
 let e1:=uw.extBut;let uv:S1 k h₁:=D1.frame _ _ _ s1 λb hb o e=>e1 b o (Z.a1 b hb).1 e;let ya:S2 k h₁:=D2.frame _ _ _ s2 λb hb o e=>e1 b o (Z.a2 b hb).1 e;refine SB ?_;simp only[List.zipIdx_cons,List.zipIdx_nil,List.forIn_cons,List.forIn_nil];refine SB<|SB<|wpAny_onRaise ?_
 change B_ (W6 (.ref i1) >>= _) _ _ _
 refine SB<|D1.item k _ _ _ k1 uv λx h₂ t2 px zd ng=>SL ?_;let e2:=ng.extBut;let v7:S2 k h₂:=D2.frame _ _ _ ya λb hb o e=>e2 b o (Z.a2 b hb).2.2 e;let il:IsPair h₂ TO a b:=e2 _ _ Z.TOi1<|e1 _ _ Z.TOz b9;refine SB<|W5 il rfl ?_;refine SB<|wpAny_updateSeq_pair il λh₃ ju n5=>?_
 replace ju:IsPair h₃ TO x b:=ju
 let e3:=n5.extBut;let T3:S1 (k+1) h₃:=D1.frame _ _ _ zd λb hb o e=>e3 b o (Z.a1 b hb).2.1 e;let yi:S2 k h₃:=D2.frame _ _ _ v7 λb hb o e=>e3 b o (Z.a2 b hb).2.1 e;refine SB<|Xy<|SL ?_;refine SB<|SB<|wpAny_onRaise ?_
 change B_ (W6 (.ref i2) >>= _) _ _ _
 refine SB<|D2.item k _ _ _ k2 yi λy h₄ t4 py TZ rm=>SL ?_;let e4:=rm.extBut;let Uh:S1 (k+1) h₄:=D1.frame _ _ _ T3 λb hb o e=>e4 b o (Z.a1 b hb).2.2 e;let sy:IsPair h₄ TO x b:=e4 _ _ Z.TOi2 ju;refine SB<|W5 sy rfl ?_;refine SB<|wpAny_updateSeq_pair sy λh₅ jr qm=>?_
 replace jr:IsPair h₅ TO x y:=jr
 let e5:=qm.extBut;refine SB<|Xy<|SL<|SL ?_;refine SB<|W5 jr rfl ?_;refine SB<|wpAny_newTuple ?_;let hsz:h₅.objs.size=(e_ s):=by let q4:=rm.1;let q3:=n5.1;let q2:=ng.1;let q1:=uw.1;rw[qm.1];show q4.trans<|q3.trans<|q2.trans q1
 let Ss:IsZip h₅ z TI TO .ellipsis:=e5 _ _ Z.TOz.symm<|e4 _ _ Z.i2z.symm<|e3 _ _ Z.TOz.symm<|e2 _ _ Z.i1z.symm j3;let SS:∀c o,c≠z->c≠TO->c≠i1->c≠i2->s.heap.get? c=a_ o->h₅.get? c=a_ o:=λc o c1 c2 c3 c4 e=>e5 _ _ c2<|e4 _ _ c4<|e3 _ _ c2<|e2 _ _ c3<|e1 _ _ c1 e;let Tz:S1 (k+1) h₅:=D1.frame _ _ _ Uh λb hb o e=>e5 b o (Z.a1 b hb).2.1 e;let TN:S2 (k+1) h₅:=D2.frame _ _ _ TZ λb hb o e=>e5 b o (Z.a2 b hb).2.1 e;let ph:z<h₅.objs.size:=UE Ss
 change B_ (XN (.ref z) (.ref h₅.objs.size) >>= _) _ _ _
 refine SB ?_;unfold XN;let Tc:IsZip (h₅.push {cls:=.type "tuple",data:=.seq #[x,y]}) z TI TO .ellipsis:=SZ _ Ss;refine SB (W0 Tc (by simp) λh₇ wo w8=>?_)
 replace wo:IsZip h₇ z TI TO (rawInt h₅.objs.size):=wo
 refine W0 wo (by simp) λh₈ t8 xn=>?_
 replace t8:IsZip h₈ z TI TO (rawInt h₅.objs.size):=t8
 let up:∀c o,c≠z->h₅.get? c=a_ o->h₈.get? c=a_ o:=λc o c1 e=>xn.extBut _ _ c1<|w8.extBut _ _ c1<|SZ _ e;let y4:IsPair h₈ h₅.objs.size x y:=xn.extBut _ _ (Vv ph)<|w8.extBut _ _ (Vv ph)<|Yo 0;let Sr:h₈.objs.size=h₅.objs.size+1:=by rw[xn.1,w8.1,VL]
 rw[hsz]at t8 y4 Sr;refine SL ⟨_,rfl,?_⟩
 change Q (.ref h₅.objs.size) _
 rw[hsz];show hQ x y h₈ _ px py t8 (up _ _ Z.TOz jr) (D1.frame _ _ _ Tz λb hb o e=>up b o (Z.a1 b hb).1 e) (D2.frame _ _ _ TN λb hb o e=>up b o (Z.a2 b hb).1 e) y4 Sr λc o c1 c2 c3 c4 e=>up c o c1<|SS c o c1 c2 c3 c4 e
def NB{z:s_}{TI:s_}{TO:s_}(D1:Draws prog w A i1 f1 n1 P1 S1)(D2:Draws prog w A i2 f2 n2 P2 S2)(Z:ZA z TI TO i1 i2 f1 f2){k:Nat}{a b:q_}{Q:PySem.Fin->r_->Prop}(hz:IsZip s.heap z TI TO .none)(b7:IsPair s.heap TI (.ref i1) (.ref i2))(b9:IsPair s.heap TO a b)(s1:S1 k s.heap)(s2:S2 k s.heap)(hk:k=n1\/k<n1/\k=n2)(hE:∀h' e tk,(∀c o,c≠z->c≠TO->c≠i1->c≠i2->s.heap.get? c=a_ o->h'.get? c=a_ o)->(∃o,h'.get? e=a_ o/\o.cls=.type "StopIteration")->E (.ref e) {s with heap:=h',toks:=tk}):
  p_ (Builtin.«zip.__next__» ⟨[.ref z],[]⟩) Q E s:=by
 change B_ (field (.ref z) 2 >>= _) _ _ _
 refine SB<|Vy hz rfl (x:=.bool false) rfl ?_
 change B_ (field (.ref z) 3 >>= _) _ _ _
 refine SB<|Vy hz rfl (x:=.ref TI) rfl ?_;refine SB<|W5 b7 rfl ?_
 change B_ (V0 (.ref z) >>= _) _ _ _
 refine SB ?_;unfold V0;refine SB<|Vy hz rfl (x:=.none) rfl<|SL ?_;simp only[if_true];refine SB<|Xo ?_;refine SB<|Vy hz rfl (x:=.ref TO) rfl ?_;refine SB (W0 hz (by simp) λh₁ j3 uw=>?_)
 replace j3:IsZip h₁ z TI TO .ellipsis:=j3
 let e1:=uw.extBut;let uv:S1 k h₁:=D1.frame _ _ _ s1 λb hb o e=>e1 b o (Z.a1 b hb).1 e;let ya:S2 k h₁:=D2.frame _ _ _ s2 λb hb o e=>e1 b o (Z.a2 b hb).1 e;refine SB ?_;simp only[List.zipIdx_cons,List.zipIdx_nil,List.forIn_cons,List.forIn_nil];refine SB<|SB<|wpAny_onRaise ?_
 change B_ (W6 (.ref i1) >>= _) _ _ _
 rcases hk with rfl|⟨k1,rfl⟩
 ·refine SB (D1.done _ _ _ uv λh₂ e ng he=>?_);let⟨oe,k7,o9⟩:=he;let za:IsZip h₂ z TI TO .ellipsis:=ng _ _ Z.i1z.symm j3;let yk:e≠z:=λx=>by subst x;rw[za]at k7;cases k7;simp at o9
  show W0 za (by simp) λh₃ _ n5=>hE h₃ e _ (λc o c1 _ c3 _ x=>n5.extBut _ _ c1<|ng _ _ c3<|e1 _ _ c1 x) ⟨oe,n5.extBut _ _ yk k7,o9⟩
 ·refine SB (D1.item k _ _ _ k1 uv λx h₂ t2 px zd ng=>SL ?_);let e2:=ng.extBut;let v7:S2 k h₂:=D2.frame _ _ _ ya λb hb o e=>e2 b o (Z.a2 b hb).2.2 e;let il:IsPair h₂ TO a b:=e2 _ _ Z.TOi1<|e1 _ _ Z.TOz b9;refine SB<|W5 il rfl ?_;refine SB<|wpAny_updateSeq_pair il λh₃ ju n5=>?_;let e3:=n5.extBut;let yi:S2 k h₃:=D2.frame _ _ _ v7 λb hb o e=>e3 b o (Z.a2 b hb).2.1 e;refine SB<|Xy<|SL ?_;refine SB (SB<|wpAny_onRaise ?_)
  change B_ (W6 (.ref i2) >>= _) _ _ _
  refine SB<|D2.done _ _ _ yi λh₄ e rm he=>?_;let⟨oe,k7,o9⟩:=he;let yr:IsZip h₄ z TI TO .ellipsis:=rm _ _ Z.i2z.symm<|e3 _ _ Z.TOz.symm<|e2 _ _ Z.i1z.symm j3;let yk:e≠z:=λx=>by subst x;rw[yr]at k7;cases k7;simp at o9
  show W0 yr (by simp) λh₅ _ qm=>hE h₅ e _ (λc o c1 c2 c3 c4 x=>qm.extBut _ _ c1<|rm _ _ c4<|e3 _ _ c2<|e2 _ _ c3<|e1 _ _ c1 x) ⟨oe,qm.extBut _ _ yk k7,o9⟩
def HB{z:s_}{TI:s_}{TO:s_}(hh:A.handled=b_)(D1:∀A:t_,A.handled=b_->Draws prog w A i1 f1 n1 P1 S1)(D2:∀A:t_,A.handled=b_->Draws prog w A i2 f2 n2 P2 S2)(Z:ZA z TI TO i1 i2 f1 f2){k:Nat}{a b:q_}{Q:y_ q_->r_->Prop}(hz:IsZip s.heap z TI TO .none)(b7:IsPair s.heap TI (.ref i1) (.ref i2))(b9:IsPair s.heap TO a b)(s1:S1 k s.heap)(s2:S2 k s.heap)(k1:k<n1)(k2:k<n2)(hQ:∀x y h' tk,P1 k x->P2 k y->IsZip h' z TI TO (rawInt (e_ s))->IsPair h' TO x y->S1 (k+1) h'->S2 (k+1) h'->IsPair h' (e_ s) x y->h'.objs.size=(e_ s)+1->
   (∀c o,c≠z->c≠TO->c≠i1->c≠i2->s.heap.get? c=a_ o->h'.get? c=a_ o)->Q (c_ (e_ s)) {s with heap:=h',toks:=tk}):
  p_ (pyNext<|.ref z) Q E s:=by
 let hT:s.TypeIs (.ref z) "zip" := ⟨_,hz,rfl⟩;unfold pyNext;show SB (Wp (U6 (name:=UB "__next__") hT XC
  (Vd XC hT PySem.F.entry_zip_next
   (Kr (D1 A.in1 hh) (D2 A.in1 hh) Z hz b7 b9 s1 s2 k1 k2 λx y h' tk a1 a2 a3 a4 a5 a6 a7 a8 a9=>SL (hQ x y h' tk a1 a2 a3 a4 a5 a6 a7 a8 a9)) (PySem.F.args_zip_next_1 _))))
def C5{z:s_}{TI:s_}{TO:s_}(hh:A.handled=b_)(D1:∀A:t_,A.handled=b_->Draws prog w A i1 f1 n1 P1 S1)(D2:∀A:t_,A.handled=b_->Draws prog w A i2 f2 n2 P2 S2)(Z:ZA z TI TO i1 i2 f1 f2){k:Nat}{a b:q_}{Q:y_ q_->r_->Prop}(hz:IsZip s.heap z TI TO .none)(b7:IsPair s.heap TI (.ref i1) (.ref i2))(b9:IsPair s.heap TO a b)(s1:S1 k s.heap)(s2:S2 k s.heap)(hk:k=n1\/k<n1/\k=n2)(hQ:∀h' tk,(∀c o,c≠z->c≠TO->c≠i1->c≠i2->s.heap.get? c=a_ o->h'.get? c=a_ o)->Q b_ {s with heap:=h',toks:=tk}):p_ (pyNext<|.ref z) Q E s:=by
 let hT:s.TypeIs (.ref z) "zip" := ⟨_,hz,rfl⟩;unfold pyNext;refine SB (Wp (U6 (name:=UB "__next__") hT XC
  (Vd XC hT PySem.F.entry_zip_next (NB (D1 A.in1 hh) (D2 A.in1 hh) Z hz b7 b9 s1 s2 hk λh' e tk hk he=>?_) (PySem.F.args_zip_next_1 _))))
 let⟨o,ho,hc⟩:=he;refine SB<|Xk (T:="StopIteration") (b:=true) ⟨o,ho,hc⟩ isSubtype_stop ?_;show SL<|hQ _ _ hk
def HC(hh:A.handled=b_)(it l:s_)(items:Ya 0)(i:Nat)(h:items[i]?=b_):Draws prog w A it [it,l] i (λ_ _=>False) (λj g=>j=i/\g.IsListIter it l i/\g.IsList l items) where
 live:=λ_ _ st=>let ⟨o,ho,_⟩:=st.2.1;⟨o,ho⟩
 frame:=λ_ _ _ st hk=>⟨st.1,st.2.1.at λo e=>hk it (by simp) o e,st.2.2.at λo e=>hk l (by simp) o e⟩
 item:=λj s Q E hj st hQ=>absurd hj (by rw[st.1];show Vx _)
 done:=λs Q E st hE=>wpAny_nextOf_list_end hh st.2.1 st.2.2 h hE
def Ks(hh:A.handled=b_)(it:s_)(x:Str)(t:Tok)(i:Nat)(h:x.cps[i]?=b_):Draws prog w A it [it] i (λ_ _=>False) (λj g=>j=i/\g.IsStrIter it "str_ascii_iterator" x t i) where
 live:=λ_ _ st=>let ⟨o,ho,_⟩:=st.2;⟨o,ho⟩
 frame:=λ_ _ _ st hk=>⟨st.1,let ⟨o,e,r⟩:=st.2;⟨o,hk it (by simp) o e,r⟩⟩
 item:=λj s Q E hj st hQ=>absurd hj (by rw[st.1];show Vx _)
 done:=λs Q E st hE=>wpAny_nextOf_ascii_end hh st.2 h hE
@[reducible]def Kt(h:u_)(l1:s_):u_:=h.push {cls:=.type "list_iterator",data:=.fields #[.ref l1,.int 0 0]}
@[reducible]def Ku(h:u_)(l1:s_)(x:Str)(t:Tok):u_:=(Kt h l1).push {cls:=.type "str_ascii_iterator",data:=.fields #[.str x t,.int 0 0]}
@[reducible]def Kv(h:u_)(l1:s_)(x:Str)(t:Tok):u_:=(Ku h l1 x t).push {cls:=.type "tuple",data:=.seq #[.ref h.objs.size,.ref (Kt h l1).objs.size]}
@[reducible]def Kw(h:u_)(l1:s_)(x:Str)(t:Tok):u_:=(Kv h l1 x t).push {cls:=.type "tuple",data:=.seq #[.none,.none]}
@[reducible]def D6(h:u_)(l1:s_)(x:Str)(t:Tok):u_:=(Kw h l1 x t).push {cls:=.type "zip",data:=.fields #[.none,.bool false,.bool false,.ref (Ku h l1 x t).objs.size,.ref (Kv h l1 x t).objs.size]}
set_option maxHeartbeats 4000000 in
def C6(l1:s_)(xs:Ya 0)(x:Str)(t:Tok)(ha:x.cps.all (· < 128)=true):
  Meets (Builtin.«zip.__new__» ⟨[.type "zip",.ref l1,.str x t],[]⟩) (λ_ R s=>s.heap.IsList l1 xs/\R (.ok<|.ret<|.ref (Kw s.heap l1 x t).objs.size) {s with heap:=D6 s.heap l1 x t}):=
 .of_wp λprog w A R s h=>by
  let⟨hp,g,d,tk,os⟩:=s;let⟨xa,h⟩:=h;let Uk:=sub_zip;let TQ:Heap.IsList (Shared.heap ⟨hp,g,d,tk,os⟩) l1 xs:=xa
  wp_walk using wpAny_pyIter_list TQ,wpAny_pyIter_ascii ha
  show⟨_,rfl,h⟩
variable{l1:s_}
def Kx{xs:Ya 0}{t:Tok}(xa:s.heap.IsList l1 xs)(ha:x.cps.all (· < 128)=true)(h:∀h',IsZip h' (s.heap.objs.size+4) (s.heap.objs.size+2) (s.heap.objs.size+3) .none->IsPair h' (s.heap.objs.size+2) (.ref (e_ s)) (.ref (s.heap.objs.size+1))->
   IsPair h' (s.heap.objs.size+3) .none .none->h'.IsListIter (e_ s) l1 0->h'.IsStrIter (s.heap.objs.size+1) "str_ascii_iterator" x t 0->h'.objs.size=(e_ s)+5->
   (∀c o,s.heap.get? c=a_ o->h'.get? c=a_ o)->Q (.ref (s.heap.objs.size+4)) {s with heap:=h'}):
  p_ (call (.type "zip") [.ref l1,.str x t]) Q E s:=by
 refine callType_new PySem.F.called_zip (by decide) (PySem.F.typeCall_zip_2 _ _) (PySem.F.newCall_zip_2 _ _) (λobj=>PySem.F.args_object_init_3 obj _ _) PySem.F.entry_zip_new
  (C6 l1 xs x t ha) ⟨xa,?_⟩
 let z1:(Kt s.heap l1).objs.size=(e_ s)+1:=VL ..;let z2:(Ku s.heap l1 x t).objs.size=(e_ s)+2:=by rw[VL,z1]
 let z3:(Kv s.heap l1 x t).objs.size=(e_ s)+3:=by rw[VL,z2]
 let z4:(Kw s.heap l1 x t).objs.size=(e_ s)+4:=by rw[VL,z3]
 let z5:(D6 s.heap l1 x t).objs.size=(e_ s)+5:=by rw[VL,z4]
 let g5:(D6 s.heap l1 x t).get? (Kw s.heap l1 x t).objs.size=a_ _:=Yo 0;let g4:(D6 s.heap l1 x t).get? (Kv s.heap l1 x t).objs.size=a_ _:=SZ _<|Yo 0;let g3:(D6 s.heap l1 x t).get? (Ku s.heap l1 x t).objs.size=a_ _:=SZ _<|SZ _<|Yo 0;let g2:(D6 s.heap l1 x t).get? (Kt s.heap l1).objs.size=a_ _:=SZ _<|SZ _<|SZ _<|Yo 0;let g1:(D6 s.heap l1 x t).get? (e_ s)=a_ _:=SZ _<|SZ _<|SZ _<|SZ _<|Yo 0
 change _/\_
 rw[z2,z3,z4]at g5;rw[z1,z2]at g3;rw[z3]at g4;rw[z1]at g2;rw[z4];show⟨⟨_,g5,rfl⟩,h _ g5 g3 g4 ⟨_,g1,rfl,rfl⟩ ⟨_,g2,rfl,rfl⟩ z5 λc o e=>SZ _<|SZ _<|SZ _<|SZ _<|SZ _ e⟩
abbrev ItZ(K:Us)(l:s_)(x:Str):It:=
 ⟨λi H=>(∃vs v,SqL K H l vs/\vs[i]?=a_ v)/\i<x.cps.size,
  λi H y H'=>∃t v c,H t=b_/\(∀vs,SqL K H l vs->vs[i]?=a_ v)/\x.cps[i]?=a_ c/\y=.ref t/\H'=R_ t (.tup [v,.str ⟨#[c]⟩]),
  λi H=>∃vs,SqL K H l vs/\(vs.length<=i\/x.cps.size<=i)⟩
def dH{h:u_}{b:s_}{o p:Obj}{m n:String}(ha:h.get? a=a_ o)(hb:h.get? b=a_ p)(ca:o.cls=.type m)(cb:p.cls=.type n)(hn:m≠n):a≠b:=λe=>by
 subst e;rw[ha]at hb;cases hb
 rw[ca]at cb;cases cb
 show hn rfl
def zN{h:u_}{z TI TO l:s_}{a b:q_}{t:Tok}{xs:Ya 0}(rg:TI≠TO)(hz:IsZip h z TI TO .none)(b7:IsPair h TI (.ref i1) (.ref i2))(b9:IsPair h TO a b)(h1:h.IsListIter i1 l i)(h2:h.IsStrIter i2 "str_ascii_iterator" x t i)(hl:h.IsList l xs):
  ZA z TI TO i1 i2 [i1,l] [i2]/\l≠i1:=by
 let⟨ol,el,cl,_⟩:=hl;let⟨o1,e1,c1,d1⟩:=h1;let⟨o2,e2,c2,d2⟩:=h2;let y0:i1≠z:=dH e1 hz c1 rfl (by decide);let Sw:i2≠z:=dH e2 hz c2 rfl (by decide);let zf:TO≠i1:=dH b9 e1 rfl c1 (by decide);let Sf:TO≠i2:=dH b9 e2 rfl c2 (by decide);let ye:i1≠i2:=dH e1 e2 c1 c2 (by decide);let lz:l≠z:=dH el hz cl rfl (by decide);let lO:l≠TO:=dH el b9 cl rfl (by decide);let l2:l≠i2:=dH el e2 cl c2 (by decide);refine⟨⟨dH b7 hz rfl rfl<|by decide,dH b9 hz rfl rfl<|by decide,y0,Sw,rg,dH b7 e1 rfl c1<|by decide,dH b7 e2 rfl c2<|by decide,zf,Sf,ye,λb hb=>?_,λb hb=>?_⟩,dH el e1 cl c1<|by decide⟩
 ·simp only[UF,WB,or_false]at hb;rcases hb with rfl|rfl
  ·show⟨y0,zf.symm,ye⟩
  ·show⟨lz,lO,l2⟩
 ·simp only[UF,WB,or_false]at hb;subst hb;show⟨Sw,Sf.symm,ye.symm⟩
def HE(l:s_)(x:Str)(t:Tok)(z TI TO i1 i2:s_)(rg:TI≠TO):
  Turn P w K (.Tuple elts x1 pos) (ItZ K l x) [z,TI,TO,i1,i2] z (λi h=>IsZip h z TI TO .none/\IsPair h TI (.ref i1) (.ref i2)/\(∃a b,IsPair h TO a b)/\h.IsListIter i1 l i/\h.IsStrIter i2 "str_ascii_iterator" x t i) where
 mem:=by simp
 obj:=λi h ⟨hz,b7,⟨a,b,b9⟩,⟨o1,e1,_,d1⟩,⟨o2,e2,_,d2⟩⟩ b hb=>by
  simp only[UF,WB,or_false]at hb;rcases hb with rfl|rfl|rfl|rfl|rfl
  ·show⟨_,hz,λv q=>by cases q⟩
  ·show⟨_,b7,λv q=>by cases q⟩
  ·show⟨_,b9,λv q=>by cases q⟩
  ·show⟨_,e1,λv q=>by rw[d1]at q;cases q⟩
  ·show⟨_,e2,λv q=>by rw[d2]at q;cases q⟩
 keep:=λi h h' ⟨hz,b7,⟨a,b,b9⟩,h1,⟨o2,e2,r2⟩⟩ k=>⟨k z (by simp) _ hz,k TI (by simp) _ b7,⟨a,b,k TO (by simp) _ b9⟩,h1.at λo e=>k i1 (by simp) o e,⟨o2,k i2 (by simp) _ e2,r2⟩⟩
 item:=by
  intro X hP hw hK hc i td s σ H E I hf ⟨hz,b7,⟨a,b,b9⟩,h1,h2⟩ ⟨⟨vs,v,hq,hv⟩,hx⟩;subst hP hw hK;let⟨its,rv,p,hsz⟩:=I.list hq;let⟨u,hu,ru⟩:=rv.get hv;let hl:=p.isList;let⟨ol,el,cl,_⟩:=id hl;let⟨o1,e1,c1,d1⟩:=id h1;let⟨o2,e2,c2,d2⟩:=id h2;let hi:i<its.length:=(SC.mp hu).1;let⟨Z,l1⟩:=zN rg hz b7 b9 h1 h2 hl;refine HB (I.ok.hd hc) (λA hA=>Draws.list hA i1 l l1 its.toArray) (λA hA=>Draws.strAscii hA i2 x t) Z hz b7 b9 ⟨h1,hl⟩ h2 (ke hi) hx λxx yy h' tk px py a1 a2 a3 a4 a5 a6 kp=>⟨_,rfl,?_⟩;let⟨cc,tu,Tr,rfl⟩:=py;let TB:xx=u:=by
   have:its[i]?=a_ xx:=by simpa using px
   rw[hu]at this;cases this;rfl
  subst TB;refine wpAny_letOwnedTupleGo_zip (s:={s with heap:=h',toks:=tk}) a1 λia hI same=>?_;let fr:H (e_ s)=b_:=I.hok.fresh<|Uv _;let nt:∀{b:s_}{o:Obj},M_ 0=a_ o->(e_ s)≠b:=λe=>Vv<|UE e;let sb:∀(b:s_)(o:Obj),b≠z->h'.get? b=a_ o->ia.get? b=a_ o:=λb o hb e=>(same.2 b hb).trans e;let yb:=sb _ _ (nt hz) a5;let di:∀(b:s_)(o:Obj),b∉[z,TO,i1,i2]->M_ 0=a_ o->ia.get? b=a_ o:=λb o hb e=>sb b o (λq=>hb<|by simp[q]) (kp b o (λq=>hb<|by simp[q]) (λq=>hb<|by simp[q]) (λq=>hb<|by simp[q]) (λq=>hb<|by simp[q]) e);let sub:∀b,b∈[z,TO,i1,i2]->b∈[z,TI,TO,i1,i2]:=λb hb=>by simp only[UF,WB,or_false]at hb⊢;rcases hb with q|q|q|q <;> simp[q]
  let iq:∀b u,H b=a_ u->b∉[z,TO,i1,i2]:=λb u e q=>by have:=(hf b<|sub b q).1;rw[this]at e;cases e
  let ir:∀b u,H b=a_ u->b≠(e_ s):=λb u e q=>by rw[q,fr]at e;cases e
  refine⟨.ref<|e_ s,R_ (e_ s)<|.tup [v,.str ⟨#[cc]⟩],?_,rfl,⟨_,v,cc,fr,λys hy=>by rw[I.list_inj hy hq];show hv,Tr,rfl,rfl⟩,⟨hI,sb _ _ Z.TIz<|kp _ _ Z.TIz rg Z.TIi1 Z.TIi2 b7,⟨_,_,sb _ _ Z.TOz a2⟩,a3.1.at λo e=>sb _ _ Z.i1z e,?_⟩,λb hb=>?_⟩
  ·refine Inv.step (s:=s) (h':=ia) (H:=H) (g':=s.gens) (d':=s.drawn) (t':=tk) (ch:=[z,TO,i1,i2]) I (λb hb=>?_) (λb o _ _ hc e _=>di b o hc e) (λb o _ _ hc e _=>⟨o.slots,di b o hc e⟩) (λb o hc e n=>?_)
    (λb o hc e=>⟨o,di b o hc e⟩) (λb xs e=>by rw[aH<|ir _ _ e];show e) (λb o u e=>by rw[aH<|ir _ _ e];show e) (λb ps e=>⟨#[],by rw[aH<|ir _ _ e,e];simp⟩) (λm hm=>?_) (λb u e=>?_) I.bare
   ·let⟨f0,f1,f2,f3,f4,f5⟩:=hf b<|sub b hb;show⟨f3,f1,f4,f5⟩
   ·rw[aH<|UR<|UE e];show n
   ·let⟨o,es,ep,ho,r⟩:=hm;show⟨o,es,ep,di _ o (λq=>(hf _<|sub _ q).2.1 rfl) ho,r⟩
   ·by_cases hb:b=(e_ s)
    ·subst hb;rw[aI]at e;cases e
     show⟨by change 2<=UG;rw[kB];decide,[xx,.str ⟨#[cc]⟩ tu],.cons ru<|.cons ⟨_,rfl⟩ .nil,_,yb,rfl,⟨_,rfl⟩,rfl⟩
    ·rw[aH hb]at e;refine(I.hok b u e).stay (λc v hc q=>di c v ?_ q) (λc q=>by rw[aH<|ir _ _ q];show q) λc xs q=>by rw[aH<|ir _ _ q];show q
     rcases hc with q|q
     ·rw[q];show iq b u e
     ·show iq c _ q
  ·let⟨o,e,r⟩:=a4;show⟨o,sb _ _ Z.i2z e,r⟩
  ·let hb':=(hf b hb).1;have:b≠(e_ s):=by
    simp only[UF,WB,or_false]at hb;rcases hb with rfl|rfl|rfl|rfl|rfl
    ·show(nt hz).symm
    ·show(nt b7).symm
    ·show(nt b9).symm
    ·show(nt e1).symm
    ·show(nt e2).symm
   rw[aH this];show hb'
 done:=by
  intro X hP hw hK hc i td s σ H E I hf ⟨hz,b7,⟨a,b,b9⟩,h1,h2⟩ ⟨vs,hq,hd⟩;subst hP hw hK;let⟨its,rv,p,hsz⟩:=I.list hq;let hlen:=rv.length;let hl:=p.isList;let⟨ol,el,cl,_⟩:=id hl;let⟨o1,e1,c1,d1⟩:=id h1;let⟨o2,e2,c2,d2⟩:=id h2;let⟨Z,l1⟩:=zN rg hz b7 b9 h1 h2 hl;let sub:∀b,b∈[z,TO,i1,i2]->b∈[z,TI,TO,i1,i2]:=λb hb=>by simp only[UF,WB,or_false]at hb⊢;rcases hb with q|q|q|q <;> simp[q]
  let iq:∀b u,H b=a_ u->b∉[z,TO,i1,i2]:=λb u e q=>by have:=(hf b<|sub b q).1;rw[this]at e;cases e
  let fin:∀(h':u_)(tk:Nat),(∀c o,c≠z->c≠TO->c≠i1->c≠i2->s.heap.get? c=a_ o->h'.get? c=a_ o)->H_ {s with heap:=h',toks:=tk}:=λh' tk kp=>by
   let di:∀(b:s_)(o:Obj),b∉[z,TO,i1,i2]->M_ 0=a_ o->h'.get? b=a_ o:=λb o hb e=>kp b o (λq=>hb<|by simp[q]) (λq=>hb<|by simp[q]) (λq=>hb<|by simp[q]) (λq=>hb<|by simp[q]) e;refine Inv.step (s:=s) (h':=h') (H:=H) (g':=s.gens) (d':=s.drawn) (t':=tk) (ch:=[z,TO,i1,i2]) I (λb hb=>?_) (λb o _ _ hc e _=>di b o hc e) (λb o _ _ hc e _=>⟨o.slots,di b o hc e⟩) (λb o hc e n=>n)
    (λb o hc e=>⟨o,di b o hc e⟩) (λb xs e=>e) (λb o u e=>e) (λb ps e=>⟨#[],by rw[e];simp⟩) (λm hm=>?_) (λb u e=>?_) I.bare
   ·let⟨f0,f1,f2,f3,f4,f5⟩:=hf b<|sub b hb;show⟨f3,f1,f4,f5⟩
   ·let⟨o,es,ep,ho,r⟩:=hm;show⟨o,es,ep,di _ o (λq=>(hf _<|sub _ q).2.1 rfl) ho,r⟩
   ·refine(I.hok b u e).stay (λc v hc q=>di c v ?_ q) (λ_ q=>q) λ_ _ q=>q;rcases hc with q|q
    ·rw[q];show iq b u e
    ·show iq c _ q
  by_cases hi:i<its.length
  ·let hx:x.cps.size<=i:=by rcases hd with q|q;omega;show q
   show C5 (I.ok.hd hc) (λA hA=>Draws.list hA i1 l l1 its.toArray) (λA hA=>Ks hA i2 x t i<|VJ hx) Z hz b7 b9 ⟨h1,hl⟩ ⟨rfl,h2⟩ (.inr ⟨ke hi,rfl⟩) λh' tk kp=>⟨rfl,fin h' tk kp⟩
  ·show C5 (I.ok.hd hc) (λA hA=>HC hA i1 l its.toArray i (by simp;omega)) (λA hA=>Draws.strAscii hA i2 x t) Z hz b7 b9 ⟨rfl,h1,hl⟩ h2 (.inl rfl) λh' tk kp=>⟨rfl,fin h' tk kp⟩
 self:=λ_ _ _ _ _ ⟨hz,_⟩ h=>wpAny_pyIter_zip hz h
def boot_zip:WV "zip" = a_ (.type "zip"):=by first|rfl|decide +kernel|kernel_rfl
abbrev Rz(X:Cx)(ta:TA):TI:=λσ H R=>ta σ H λvs H1=>∃l xs x,vs=[.ref l,.str x]/\SqL X.K H1 l xs/\(x.cps.all λc=>decide (c<128))=true/\R (ItZ X.K l x) H1
def NC{a b:v_}{ta:TA}{p:Pos}{tp:Pos}(hg:Gl X "zip")(hm:X.mg "zip" = b_)(ha:PA X [a,b] ta)(hs:UL [a,b] X.env=[(false,eval a X.env),(false,eval b X.env)]:=by rfl)(g8:UL [b] X.env=[(false,eval b X.env)]:=by rfl):
  PI X (.Tuple elts x1 tp) (.Call (.Name "zip" p) [a,b] [] pos) (Rz X ta):=by
 intro td s σ H R I h;refine Call_ (jS I hg hm boot_zip<|WK (thn (ha pos td s σ H _ I h) λus s1 hz=>?_) (by rw[hs,g8]) (by rw[g8];rfl));let⟨vs,H1,I1,r1,q1⟩:=hz;let⟨l,xs,x,e,hq,asc,q⟩:=q1;subst e;cases r1 with
 |cons r rr=>
  cases rr with
  |cons r' rr=>
   cases rr
   cases r
   let⟨t,rfl⟩:=r';let⟨its,rv,pl,hz⟩:=I1.list hq;refine Kx pl.isList asc λh' a1 a2 a3 a4 a5 a6 kp=>?_;refine wpAny_pyIter_zip a1 ?_;refine⟨(e_ s1)+4,[(e_ s1)+4,(e_ s1)+2,(e_ s1)+3,(e_ s1),(e_ s1)+1],_,_,H1,rfl,I1.kept (t':=s1.toks) kp,HE l x t _ _ _ _ _<|UR<|Nat.lt_succ_self<|s1.heap.objs.size+2,⟨a1,a2,⟨_,_,a3⟩,a4,a5⟩,λb hb=>?_,q⟩;let hle:(e_ s1)<=b:=by
    simp only[UF,WB,or_false]at hb;rcases hb with e|e|e|e|e
    all_goals rw[e]
    all_goals first|exact Uv _|exact Nat.le_add_right _ _
   show I1.fpOk hle<|I1.hok.fresh hle
abbrev qG(xs:X9 0)(x:Str):X9 0:=List.zipWith (λp c=>PV.tup [p,.str ⟨#[c]⟩]) xs x.cps.toList
abbrev ND:X9 0->PH->Rs Wk:=λps h=>match ps with
 | [.ref n,.str x]=>if (x.cps.all fun c=>decide (c < 128))=true then (match aL h n with
   |some xs=>.ok ⟨qG xs x,vR n xs⟩ h
   |none=>.bad) else .bad
 |_=>.bad
abbrev HF(ms:Ma):Mi:=λδ h=>(ms δ h).bind ND
def HG(xs:X9 0)(x:Str):(qG xs x).length=min xs.length x.cps.size:=by simp[qG]
set_option tactic.hygienic true in
def Q5{k:Nat}{x y:v_}{tp p:Pos}(ha:SA C k X [x,y] ms)(hb:("zip" : Str)∈C.bs:=by decide)(hg:Gl X "zip" := by rfl)(hs:UL [x,y] X.env=[(false,eval x X.env),(false,eval y X.env)]:=by rfl)(g8:UL [y] X.env=[(false,eval y X.env)]:=by rfl):
  SI C k X (.Tuple elts x1 tp) (.Call (.Name "zip" p) [x,y] [] pos) (HF ms):=λc=>
 (NC hg (c.bn _ hb) (ha c) hs g8).imp λσ H R h=>by
  let⟨φ,δ,h,rh,re,p⟩:=h;refine⟨φ,δ,h,rh,re,(postA.bindI p).imp ?_⟩;rintro vs H1 ⟨φ1,xs,h1,p1,t1,aa,ae,q1⟩;unfold ND at q1;split at q1
  ·rename_i n x;let⟨v,w,rfl,rx,ry⟩:=ae.two;let⟨a,rfl,ha'⟩:=rx;cases ry
   split at q1
   ·rename_i asc;cases e:aL h1 n with
    |none=>rw[e]at q1;show q1.elim
    |some xs=>
     rw[e]at q1;let⟨a2,us,aq,sa,ra⟩:=bO aa e;rw[ha']at aq;cases aq;rw[<-c.K]at sa;refine⟨a,us,x,rfl,sa,asc,q1 φ1 H1 (ItZ X.K a x) Ux (Kp.refl H1) aa λφ2 H2 h2 p2 t2 ah hg i=>?_⟩;let hg:(match aL h2 n with|some ys=>PV.beqs ys xs|none=>false)=true:=hg
     cases e2:aL h2 n with
     |none=>rw[e2]at hg;cases hg
     |some ys=>
      rw[e2]at hg;let xf:=PV.beqs_eq hg;subst xf;let⟨a3,tf,qc,su,ru⟩:=bO ah e2;rw[fO p2 ha']at qc;cases qc;rw[<-c.K]at su;let hl:=ru.length
      change(i<(qG ys x).length->_)/\((qG ys x).length<=i->_)
      rw[HG];refine⟨λhi=>?_,λhi=>⟨tf,su,⋯⟩⟩;let m7:i<tf.length:=⋯;let t7:i<x.cps.size:=⋯;refine⟨⟨⟨tf,tf[i],su,by simp[m7]⟩,t7⟩,λy H' yl=>?_⟩;let⟨t,v,cc,ht,hv,ec,rfl,rfl⟩:=yl;let⟨pp,ep,rp⟩:=ru.get<|hv tf su;refine⟨⟨.tup [pp,.str ⟨#[cc]⟩],?_,?_⟩,Kp.new ht,ah.aside ht⟩
      ·let Ub:x.cps.toList[i]?=a_ cc:=by simpa using ec
       change(qG ys x)[i]?=_
       unfold qG;rw[List.getElem?_zipWith,ep,Ub]
      ·show⟨t,[v,.str ⟨#[cc]⟩],rfl,.inl<|.inl aI,rp.mono Ux<|Kp.new ht,rfl,trivial⟩
   ·show q1.elim
  ·show q1.elim
abbrev HH(f:q_):Prop:=f=.none\/∃T:Nat,f=rawInt T
@[reducible]def tV(h:u_)(it d:s_)(i n ep:Nat)(f0:q_)(f1:Bool)(ok ov:q_):Prop:=h.get? it=a_ {cls:=.type "dict_itemiterator",data:=.fields #[f0,.bool f1,.ref d,.int i 0,.int n 0,.int ep 0,ok,ov]}
variable{f0:q_}
section
variable{v:s_}{es:Array VQ}{ok:q_}{f1:Bool}
def HJ{Q:y_ Obj->r_->Prop}(h:Q (s.heap.get? a) s):p_ (loadIfAlive a) Q E s:=λΓ p _=>by unfold loadIfAlive;rw[Sem.wp_loadIfAlive];show h
def wM(hI:tV s.heap it dc i n ep f0 f1 ok ov):s.TypeIs (.ref it) "dict_itemiterator" := ⟨_,hI,rfl⟩
def D7{Q:y_ q_->r_->Prop}(hI:tV s.heap it dc i es.size ep f0 f1 ok ov)(h1:Ys 0=a_ oc)(h2:oc.data=.dict es ep)(ao:i<es.size)(hf:HH f0)(q:∀h' f0' f1' vc xr,HH f0'->tV h' it dc (i+1) es.size ep f0' f1' vc xr->h'.get? (e_ s)=a_ {cls:=.type "tuple",data:=.seq #[es[i].key,es[i].val]}->
   (∀(b:s_)(o:Obj),b≠it->M_ 0=a_ o->h'.get? b=a_ o)->Q (c_ (e_ s)) {s with heap:=h'}):p_ (pyNext (.ref it)) Q E s:=by
 let hT:=wM hI;unfold pyNext;refine SB<|Wp<|U6 (name:=UB "__next__") hT U3<|Vd U3 hT Ww ?_<|Wn _;refine SB<|SL<|SB<|SB ?_
 first|refine SB (Vg hT<|SL ?_)|refine SB (Vr hT<|SL ?_)
 refine SB<|W3 hI rfl ?_;rw[show U4 "dict_itemiterator" = true by decide];simp only[if_true]
 change B_ (if(US dc == UT)=true then _ else _) _ _ s
 rw[if_neg<|show ¬ ((US dc == UT)=true) from UH]
 refine SB<|SL<|SB<|Vi h1 h2 ?_;rw[if_neg<|show ¬ _ by simp];refine SB<|SL<|SB<|VX h1 h2 ?_;rw[if_neg<|show ¬ _ by simp];refine SL ?_;simp only[show ¬ ((i:Int)<0) by omega,if_false,VO,VF ao];refine SB ?_
 first|refine SB (Vg hT<|SL ?_)|refine SB (Vr hT<|SL ?_)
 refine SB (Wj hT<|show B_ (setField (.ref it) 3 (rawInt<|(i:Int)+1) >>= _) _ _ s from SB (Wq hI rfl (by simp) ?_))
 let gv:tV (Yk (Vz (·.setIfInBounds 3 (rawInt<|(i:Int)+1)))) it dc (i+1) es.size ep f0 f1 ok ov:=by
  change(Yk _).get? it=_
  rw[Vf _ hI<|Wu<|Wb rfl _];simp[Vz,rawInt]
 let kp:∀(b:s_)(o:Obj),b≠it->M_ 0=a_ o->(Yk (Vz (·.setIfInBounds 3 (rawInt<|(i:Int)+1)))).get? b=a_ o:=λb o hb e=>by rw[(UY ..).2 b hb];show e
 let sz:(Yk (Vz (·.setIfInBounds 3 (rawInt<|(i:Int)+1)))).objs.size=(e_ s):=(UY ..).1;generalize s.heap.update it (Vz (·.setIfInBounds 3 (rawInt<|(i:Int)+1)))=hA at gv kp sz;let jf:({s with heap:=hA}:r_).TypeIs (.ref it) "dict_itemiterator" := wM gv;refine SB<|VY<|SB<|Wj jf<|SB<|Wj jf ?_
 change B_ (Wg (.ref it) 6 es[i].key es[i].val) _ _ _
 unfold Wg;simp only[newTuple];refine SB (U0 ?_<|by size_fits);let gq:tV (hA.push {cls:=.type "tuple",data:=.seq #[es[i].key,es[i].val]}) it dc (i+1) es.size ep f0 f1 ok ov:=SZ _ gv;let gt:(hA.push {cls:=.type "tuple",data:=.seq #[es[i].key,es[i].val]}).get? hA.objs.size=a_ {cls:=.type "tuple",data:=.seq #[es[i].key,es[i].val]}:=Yo 0;let km:∀(b:s_)(o:Obj),b≠it->M_ 0=a_ o->(hA.push {cls:=.type "tuple",data:=.seq #[es[i].key,es[i].val]}).get? b=a_ o:=λb o hb e=>SZ _<|kp b o hb e;rw[sz]at gt;let ne:(e_ s)≠it:=Vv<|UE hI
 change B_ _ _ _ {s with heap:=hA.push {cls:=.type "tuple",data:=.seq #[es[i].key,es[i].val]} }
 generalize hA.push {cls:=.type "tuple",data:=.seq #[es[i].key,es[i].val]}=hB at gq gt km;let eA:(US ({s with heap:=hA}:r_).heap.objs.size)=.ref (e_ s):=by rw[<-sz]
 simp only[eA];let stp:∀{h1:u_}{fs:Ya 0}{j:Nat}{x:q_}{α:Type}{f:Unit->Sem α}{R:α->r_->Prop}{E':f_ 0},h1.get? it=a_ {cls:=.type "dict_itemiterator",data:=.fields fs}->j<fs.size->
   (∀h2:u_,h2.get? it=a_ {cls:=.type "dict_itemiterator",data:=.fields (fs.setIfInBounds j x)}->(∀(b:s_),b≠it->h2.get? b=h1.get? b)->k_ prog w A.in1 (f ()) R E' {s with heap:=h2})->
   k_ prog w A.in1 (setField (.ref it) j x >>= f) R E' {s with heap:=h1}:=λ{h1 fs j x α f R E'} g hj k=>by
  refine SB<|Wq (s:={s with heap:=h1}) g rfl hj ?_;refine k _ ?_ λb hb=>(UY ..).2 b hb;rw[Vf _ g<|Wu<|Wb rfl _];simp[Vz]
 let free:∀E':f_ 0,k_ prog w A.in1 (WL<|.ref it) (λ_ s'=>∃h9 g1,s'={s with heap:=h9}/\tV h9 it dc (i+1) es.size ep f0 g1 ok ov/\∀b,b≠it->h9.get? b=hB.get? b) E' {s with heap:=hB}:=λE'=>by
  unfold WL;refine SB<|Vy (s:={s with heap:=hB}) gq rfl (x:=f0) rfl ?_;rcases hf with rfl|⟨T,rfl⟩
  ·show SL ⟨hB,f1,rfl,gq,λ_ _=>rfl⟩
  ·change B_ (loadIfAlive ((T:Int).toNat) >>= _) _ _ _
   refine SB<|HJ ?_;cases hB.get? ((T:Int).toNat) with
   |none=>exact SL ⟨hB,f1,rfl,gq,λ_ _=>rfl⟩
   |some o=>
    simp only[Option.isNone_some,UV,if_false];refine SB<|Vy (s:={s with heap:=hB}) gq rfl (x:=.bool f1) rfl ?_;cases f1 with
    |false=>rw[if_pos<|by decide];refine stp gq (by simp) λh3 g3 s3=>?_;show SL ⟨h3,true,rfl,by change h3.get? it=_;rw[g3];simp,s3⟩
    |true=>rw[if_neg<|by decide];show SL ⟨hB,true,rfl,gq,λ_ _=>rfl⟩
 refine SB<|WH (free _) (λb s' hb=>?_) λ_ _ e=>e;let⟨h9,g1,rfl,uu,s9⟩:=hb;cases b with
 |true=>
  simp only[if_true];refine SB<|Vy (s:={s with heap:=h9}) uu rfl (x:=ok) rfl (SB<|Vy (s:={s with heap:=h9}) uu rfl (x:=ov) rfl ?_);refine stp uu (by simp) λh3 g3 s3=>?_;refine stp g3 (by simp) λh4 g4 s4=>?_;refine stp g4 (by simp) λh5 g5 s5=>?_;refine stp g5 (by simp) λh6 g6 s6=>?_;refine SB (Xy<|SL<|SL ⟨_,rfl,SL<|q h6 (rawInt<|e_ s) false es[i].key es[i].val (.inr ⟨_,rfl⟩) (by rw[<-sz];change h6.get? it=_;rw[g6];simp) ?_ λb o hb e=>?_⟩)
  ·rw[s6 _ ne,s5 _ ne,s4 _ ne,s3 _ ne,s9 _ ne];show gt
  ·rw[s6 _ hb,s5 _ hb,s4 _ hb,s3 _ hb,s9 _ hb];show km b o hb e
 |false=>
  simp only[UV,if_false];refine SL<|SL ⟨_,rfl,SL<|q h9 f0 g1 ok ov hf uu ?_ λb o hb e=>?_⟩
  ·rw[s9 _ ne];show gt
  ·rw[s9 _ hb];show km b o hb e
def D8{Q:y_ q_->r_->Prop}(hh:A.handled=b_)(hI:tV s.heap it dc i es.size ep f0 f1 ok ov)(h1:Ys 0=a_ oc)(h2:oc.data=.dict es ep)(ja:es.size<=i)(q:∀h',Heap.ExtBut it s.heap h'->Q b_ {s with heap:=h'}):p_ (pyNext<|.ref it) Q E s:=by
 let hT:=wM hI;unfold pyNext;refine SB<|Wp<|U6 (name:=UB "__next__") hT U3<|Vd U3 hT Ww ?_<|Wn _;refine SB<|SL<|SB<|SB ?_
 first|refine SB (Vg hT<|SL ?_)|refine SB (Vr hT<|SL ?_)
 refine SB<|W3 hI rfl ?_;rw[show U4 "dict_itemiterator" = true by decide];simp only[if_true]
 change B_ (if(US dc == UT)=true then _ else _) _ _ s
 rw[if_neg<|show ¬ ((US dc == UT)=true) from UH]
 refine SB<|SL<|SB<|Vi h1 h2 ?_;rw[if_neg<|show ¬ _ by simp];refine SB<|SL<|SB<|VX h1 h2 ?_;rw[if_neg<|show ¬ _ by simp];refine SL ?_;simp only[show ¬ ((i:Int)<0) by omega,if_false,VO,VJ ja];refine SB ?_
 first|refine SB (Vg hT<|SL ?_)|refine SB (Vr hT<|SL ?_)
 refine(show B_ (setField (.ref it) 2 .none >>= _) _ _ s from SB (Wq hI rfl (by simp) ?_))
 refine(show B_ (newExc (.type "StopIteration") [] >>= _) _ _ _ from SB ?_);simp only[newExc,newTuple]
 refine SB (U0 (SB (m:=W4 _ _)<|wpAny_of_eq (a:=UT) (by first|rfl|(simp only[W4];rfl))<|U0 ?_<|by size_fits)<|by size_fits)
 simp only[raiseNew];refine SB<|wpAny_handled ?_;rw[show A.in1.handled=b_ from hh]
 refine SB<|SL<|wpAny_throw ?_;refine SB<|Xk (T:="StopIteration") (b:=true) ⟨_,Yo 0,rfl⟩ isSubtype_stop ?_;show SL<|q _<|((UY ..).extBut.push _).push _
end
structure Prs(es:Array VQ)(lo:s_)(h:u_)(as:x_ s_):Prop where
 above:∀a∈as,lo<a
 rise:as.Pairwise (· < ·)
 pairs:∀(j:Nat) a,as[j]?=some a->∃e,es[j]?=some e/\h.get? a=some {cls:=.type "tuple",data:=.seq #[e.key,e.val]}
variable{h₁:u_}
def HK{es:Array VQ}{S I d:s_}(hh:A.handled=b_)(pe:S<I)(uh:d≠S)(T2:d≠I)(h2:oc.data=.dict es ep)(hn:es.size<=UG)(res:q_)(hR:∀h' tk acc c as,(∀b o,b≠S->b≠I->h₁.get? b=a_ o->h'.get? b=a_ o)->h'.get? S=a_ {cls:=.type "list",dict:=b_,data:=.seq acc c,slots:=#[]}->as.length=es.size->Prs es I h' as->
   acc.toList=as.map US->R (.ok (.ret res)) {s with heap:=h',toks:=tk}):
  ∀(k i:Nat)(h:u_)(tk c:Nat)(acc:Ya 0)(as:x_ s_)(f0:q_)(f1:Bool)(ok ov:q_),es.size-i=k->i<=es.size->HH f0->tV h I d i es.size ep f0 f1 ok ov->h.get? d=a_ oc->(∀b o,b≠S->b≠I->h₁.get? b=a_ o->h.get? b=a_ o)->
   h.get? S=a_ {cls:=.type "list",dict:=b_,data:=.seq acc c,slots:=#[]}->acc.toList=as.map US->as.length=i->Prs es I h as->
   codeAny (model prog w) A (.builtin "list.extend.loop" ⟨[.ref S,.ref I,res],[]⟩) R {s with heap:=h,toks:=tk}:=by
 let gj:S≠I:=UR pe;intro k
 induction k with
 |zero=>
  intro i h tk c acc as f0 f1 ok ov hk hi ff dg hD hkeep hS ak hal hG;refine codeAny_builtin PySem.F.entry_extend_loop ?_;rw[Around.under_plainId Wr _]
  change wpAny _ A.in1 (pyNext (.ref I) >>= _) _ _ _
  refine SB<|D8 (s:={s with heap:=h,toks:=tk}) (A:=A.in1) hh dg hD h2 ⋯ λh' he=>?_;refine SL<|hR h' tk acc c as (λb o h1 h2 e=>he b o h2<|hkeep b o h1 h2 e) (he S _ gj hS) ⋯ ⟨hG.above,hG.rise,λj a hj=>?_⟩ ak;let⟨e,e1,e2⟩:=hG.pairs j a hj;show⟨e,e1,he a _ (Vv<|hG.above a<|UP hj) e2⟩
 |succ k ih=>
  intro i h tk c acc as f0 f1 ok ov hk hi ff dg hD hkeep hS ak hal hG;let ao:i<es.size:=⋯;let hsz:acc.size=i:=by rw[<-XQ,ak,Uu,hal]
  let Tp:I<h.objs.size:=UE dg;let Tt:S<h.objs.size:=UE hS;refine codeAny_builtin PySem.F.entry_extend_loop ?_;rw[Around.under_plainId Wr _]
  change wpAny _ A.in1 (pyNext (.ref I) >>= _) _ _ _
  refine SB<|D7 (s:={s with heap:=h,toks:=tk}) (A:=A.in1) dg hD h2 ao ff λh' g0 g1 vc xr SH vv ht pf=>?_;dsimp only at ht pf⊢;let ow:=pf S _ gj hS;let up:∀b o,b≠S->h'.get? b=a_ o->(h'.update S (Vj (·.push (US h.objs.size)))).get? b=a_ o:=λb o hb e=>(Wi _ _<|Va hb).trans e
  change wpAny _ A.in1 (updateSeq S (·.push (US h.objs.size)) >>= _) _ _ _
  refine SB ?_;refine wpAny_updateSeq ow rfl (SL ⟨plainId_quiet Wr _,ih (i+1) _ tk _ (acc.push (US h.objs.size)) (as++[h.objs.size]) g0 g1 vc xr ⋯ ao SH (up I _ (Va gj) vv) (up d _ uh (pf d _ T2 hD))
   (λb o h1 h2 e=>up b o h1 (pf b o h2 (hkeep b o h1 h2 e))) (Vf _ ow rfl) (by rw[Array.toList_push,ak,UZ];rfl) (by rw[Vm,hal];rfl) ⟨?_,?_,?_⟩⟩) (by rw[hsz];omega) (by change(acc.push (US h.objs.size)).size<=UG+1;rw[Array.size_push];omega)
  ·intro a ha;rcases UN.mp ha with ha|ha
   ·show hG.above a ha
   ·rw[UX.mp ha];show Tp
  ·refine List.pairwise_append.mpr ⟨hG.rise,WE _ _,λa ha b hb=>?_⟩;rw[UX.mp hb];let⟨j,hj⟩:=Xx.mp ha;let⟨e,_,e2⟩:=hG.pairs j a hj;show UE e2
  ·intro j b hj;rcases Nat.lt_trichotomy j as.length with h1|h1|h1
   ·rw[Vq h1]at hj;let⟨e,e1,e2⟩:=hG.pairs j b hj;let hb:=hG.above b<|UP hj;show⟨e,e1,up b _ (Vv<|Nat.lt_trans pe hb)<|pf b _ (Vv hb) e2⟩
   ·subst h1;let hb:h.objs.size=b:=by simpa using hj
    subst hb;show⟨es[i],by rw[hal];simp[ao],up _ _ (Vv Tt) ht⟩
   ·let qo:(as++[h.objs.size])[j]?=b_:=Wx (by rw[Vm,List.length_singleton];omega);rw[qo]at hj;cases hj
open PySem.W
variable{as:x_ s_}
def Prs.low{es:Array VQ}{lo ze:s_}{h:u_}(g:Prs es lo h as)(hl:ze<=lo):Prs es ze h as:=⟨λa ha=>Nat.lt_of_le_of_lt hl<|g.above a ha,g.rise,g.pairs⟩
def D9{es:Array VQ}{r:s_}{d:s_}(hh:A.handled=b_)(hv:s.heap.IsItemsView r d)(hD:s.heap.get? d=a_ oc)(h2:oc.data=.dict es ep)(S:s_)(T8:S≠r)(uh:d≠S)(res:q_)(c₀:Nat)(hS:s.heap.get? S=a_ {cls:=.type "list",data:=.seq #[] c₀})(hR:∀h' tk acc c as,(∀b o,b≠S->M_ 0=a_ o->h'.get? b=a_ o)->h'.get? S=a_ {cls:=.type "list",dict:=b_,data:=.seq acc c,slots:=#[]}->as.length=es.size->Prs es (e_ s) h' as->
   acc.toList=as.map US->R (.ok (.ret res)) {s with heap:=h',toks:=tk})(hn:es.size<=UG):
  k_ prog w A.in1 (WM (.ref S) (.ref r) res)
   (λfin s'=>match fin with|.done f=>R (.ok f) s'|.again c'=>c'.quiet=true/\codeAny (model prog w) A c' R s') (λe s'=>R (.error e) s') s:=by
 let pe:S<(e_ s):=UE hS;let TK:d<(e_ s):=UE hD;let key:∀(h:u_)(c₁ tk:Nat),(∀b o,b≠S->(s.heap.push {cls:=.type "dict_itemiterator",data:=.fields #[.none,.bool false,.ref d,.int 0 0,.int es.size 0,.int ep 0,.none,.none]}).get? b=a_ o->h.get? b=a_ o)->
   h.get? S=a_ {cls:=.type "list",data:=.seq #[] c₁}->codeAny (model prog w) A (.builtin "list.extend.loop" ⟨[.ref S,.ref<|e_ s,res],[]⟩) R {s with heap:=h,toks:=tk}:=by
  intro h c₁ tk hk qj;let hI:=hk (e_ s) _ (Vv pe)<|Yo 0;show HK (es:=es) (ep:=ep) (oc:=oc) (s:=s) (h₁:=s.heap) hh pe uh (UR TK) h2 hn res (λh' Ur acc c as fv ow hl hG ak=>hR h' Ur acc c as (λb o hb e=>fv b o hb (UR<|UE e) e) ow hl hG ak)
   es.size 0 h tk c₁ #[] [] .none false .none .none (Nat.sub_zero _) (U5 _) (.inl rfl) hI (hk d _ uh<|SZ _ hD) (λb o hb _ e=>hk b o hb<|SZ _ e) qj rfl rfl
   ⟨(λ_ ha=>nomatch ha),List.Pairwise.nil,(λj a hj=>by simp at hj)⟩
 unfold WM;refine SB<|wpAny_typeOf (T:="dict_items") hv.typeIs ?_;let h1:Builtin.List.listSameRef (.ref S) (.ref r)=false:=by simp[Builtin.List.listSameRef,T8]
 let h3:(XU "dict_items" == XU "list")=false:=by decide
 let h4:(XU "dict_items" == XU "tuple")=false:=by decide
 simp only[h1,h3,h4,Bool.or_false,UV,if_false];refine SB<|vH hv hD h2 ?_;let qj:=SZ {cls:=.type "dict_itemiterator",data:=.fields #[.none,.bool false,.ref d,.int 0 0,.int es.size 0,.int ep 0,.none,.none]} hS;refine SB (VY<|kdx_hint (let ⟨o,ho,hc,_⟩:=hv;⟨o,SZ _ ho,hc⟩) ?_);refine wpAny_ite_split (λ_=>?_)<|λ_=>SL ⟨plainId_quiet Wr _,key _ c₀ _ (λb o _ e=>e) qj⟩;refine SB<|Xo ?_;refine SB ?_
 change B_ (updateSeq S (·.push .none) >>= λ_=>updateSeq S (·.pop)) _ _ _
 refine SB<|wpAny_updateSeq qj rfl ?_;let qx:=Vf (Vj (·.push UT)) qj rfl;refine wpAny_updateSeq (hz:=by seq_fits) qx rfl ?_;let Ts:=Vf (Vj (·.pop)) qx rfl;refine SL ⟨plainId_quiet Wr _,key _ _ _ (λb o hb e=>?_) Ts⟩;show(Wi _ _<|Va hb).trans ((Wi _ _<|Va hb).trans e)
def HL{es:Array VQ}{r:s_}{d:s_}(hh:A.handled=b_)(hv:s.heap.IsItemsView r d)(hD:s.heap.get? d=a_ oc)(h2:oc.data=.dict es ep)(hn:es.size<=UG)(hQ:∀h' tk acc c as,(∀b o,M_ 0=a_ o->h'.get? b=a_ o)->h'.get? (e_ s)=a_ {cls:=.type "list",dict:=b_,data:=.seq acc c,slots:=#[]}->as.length=es.size->Prs es (e_ s) h' as->
   acc.toList=as.map US->Q (.ref (e_ s)) {s with heap:=h',toks:=tk}):
  p_ (call (.type "list") [.ref r]) Q E s:=by
 refine callType_codes (Q₁:=λobj s₁=>obj=.ref (e_ s)/\s₁={s with heap:=s.heap.push {cls:=.type "list",data:=.seq #[]} }) PySem.F.called_list (PySem.F.typeCall_list_1 _) PySem.F.entry_list_init
  (code_list_new _ ⟨rfl,rfl⟩) λobj s₁ h₁=>?_
 let⟨rfl,rfl⟩:=h₁
 have hS:(s.heap.push {cls:=.type "list",data:=.seq #[]}).get? (e_ s)=a_ {cls:=.type "list",data:=.seq #[]}:=Yo 0
 have hr:r<(e_ s):=let ⟨_,ho,_⟩:=hv;UE ho
 have hd:d<(e_ s):=UE hD
 refine⟨⟨_,hS,rfl⟩,PySem.F.args_list_init_2 _ _,?_⟩
 show wpAny _ A.in1.in1 (do let old <-Builtin.List.listItems (.ref<|e_ s);Builtin.List.listUpdate (.ref<|e_ s) (λ_=>#[]);letGo old.toList.reverse;WM (.ref<|e_ s) (.ref r) .none) _ _ _
 refine SB ?_
 unfold Builtin.List.listItems
 refine SB<|W5 hS rfl<|SL ?_
 show B_ (updateSeq (e_ s) (λ_=>#[]) >>= λ_=>letGo (#[]:Ya 0).toList.reverse >>= λ_=>WM (.ref<|e_ s) (.ref r) .none) _ _ _
 refine SB<|wpAny_updateSeq hS rfl ?_
 have qx:=Vf (Vj<|λ_=>(#[]:Ya 0)) hS rfl
 have u9:∀b o,b≠(e_ s)->M_ 0=a_ o->((s.heap.push {cls:=.type "list",data:=.seq #[]}).update (e_ s)<|Vj<|λ_=>(#[]:Ya 0)).get? b=a_ o:=
  λb o hb e=>(Wi _ _<|Va hb).trans<|SZ _ e
 refine SB<|Xy ?_
 refine D9 (A:=A.in1) hh (let ⟨o,ho,x⟩:=hv;⟨o,u9 r o (UR hr) ho,x⟩) (u9 d _ (UR hd) hD) h2 (e_ s) (Vv hr) (UR hd) .none _ qx (λh' tk acc c as hk ow hl hG ak=>?_) hn
 exact⟨rfl,hQ h' tk acc c as (λb o e=>hk b o (UR<|UE e)<|u9 b o (UR<|UE e) e) ow hl (hG.low<|VR<|UE qx) ak⟩
def Inv.laidTL{ps:x_ (s_×x_ V)}{S:s_}(I:H_ s)(k:∀b u,M_ 0=a_ u->h'.get? b=a_ u)(hp:∀p∈ps,(e_ s)<=p.1)(new:∀p∈ps,p.2.length<=UG/\∃its:x_ q_,aJ p.2 its/\tX h' p.1 its.toArray)(hS:(e_ s)<=S)(hl:Yj (upd (xT H ps) S<|.lst ws) h' S (.lst ws)):
  h_ (upd (xT H ps) S<|.lst ws) {s with heap:=h',toks:=t'}:=by
 let nb:∀b,b<(e_ s)->∀p∈ps,p.1≠b:=λb hb p jq e=>Vx _<|UM hb<|e▸hp p jq;let old:∀b,b<(e_ s)->upd (xT H ps) S (.lst ws) b=H b:=λb hb=>by rw[aH<|UR<|UM hb hS];show vG<|nb b hb
 refine I.un ⟨λb u q _ _ _=>k b u q,λb u q _ _ _=>⟨u.slots,k b u q⟩,λb u q n _=>(old b<|UE q).trans n,λb u q _=>⟨u,k b u q⟩,λb xs q=>(old b<|I.hok.lt q).trans q,λb u xs q=>(old b<|I.hok.lt q).trans q,λb ps' q=>⟨#[],by rw[old b<|I.hok.lt q,q];simp⟩⟩ ?_;intro b u e;by_cases hb:b=S
 ·subst hb;rw[aI]at e;cases e
  show hl
 rw[aH hb]at e;unfold xT at e;cases q:ps.lookup b with
 |some xs=>
  rw[q]at e;cases e
  let⟨z,its,r,p⟩:=new _<|tK q;show⟨z,its,r,p⟩
 |none=>rw[q]at e;show(I.hok b u e).stay (λc v _ q=>k c v q) (λc q=>(old c<|I.hok.lt q).trans q) λc xs q=>(old c<|I.hok.lt q).trans q
section
variable{k:Nat}
def HM:∀{ps:X9 0}{vs:x_ V},ps.length=vs.length->(∀(i:Nat) p v,ps[i]?=a_ p->vs[i]?=a_ v->j_ p v)->C_ ps vs
 |[],[],_,_=>trivial
 |p::ps,v::vs,hl,h=>⟨h 0 p v rfl rfl,HM (ke hl) λi a b ha hb=>h (i+1) a b (ke ha) (ke hb)⟩
 |[],_::_,hl,_=>by cases hl
 |_::_,[],hl,_=>by cases hl
def Da(c:X7 X):dJ X (.type "list") (λxs H Q=>∃(φ:x_ s_)(h:PH)(a:s_)(d:Nat)(b:s_)(o:MO)(ys:X9 0),xs=[.ref a]/\FR h/\φ[d]?=a_ b/\H a=a_ (DD 0 a b)/\h[d]?=a_ o/\jB o=a_ ys/\ys.length<1000000/\∀H1 l ws,Bc H H1->H1 l=b_->RVs C φ H1 ys ws->Q (.ref l) (upd H1 l<|.lst ws)):=by
 intro td s σ H xs us Q I r h;let⟨φ,h,a,d,b,o,ys,rfl,rh,hb,hH,ho,ey,hz,q⟩:=h;let⟨u,rfl,ru⟩:=vals1 r;cases ru
 let⟨ks,u,oc,es,ep,W⟩:=E1 c I rh hb ho<|zJ ey;let hv:s.heap.IsItemsView a b:=(I.hok a _ hH).1;let⟨ly,ent⟩:=W.items ys ey;let lk:=W.len;let hn:es.size<=UG:=by rw[Vs];omega
 refine HL (I.ok.hd c.calm) hv W.get W.data hn λh' tk acc c' as kp hS hl hG ak=>?_;let uq:(as.zip<|ks.map λkv=>[kv.1,kv.2]).map (·.1)=as:=by
  change(as.zip _).map WN=as
  rw[List.map_fst_zip];rw[Uu];omega
 let bh:∀q∈as.zip (ks.map λkv=>[kv.1,kv.2]),(e_ s)<=q.1:=λq hq=>by
  have:q.1∈as:=by rw[<-uq];show UO.mpr ⟨q,hq,rfl⟩
  show VR<|hG.above _ this
 let nd:((as.zip<|ks.map λkv=>[kv.1,kv.2]).map (·.1)).Nodup:=by rw[uq];show hG.rise.imp λh=>UR h
 let each:∀(j:Nat)(t:s_),as[j]?=a_ t->∃(kv:V×V)(e:VQ),ks[j]?=a_ kv/\(as.zip<|ks.map λkv=>[kv.1,kv.2])[j]?=a_ (t,[kv.1,kv.2])/\RelV kv.1 e.key/\RelV kv.2 e.val/\h'.get? t=a_ {cls:=.type "tuple",data:=.seq #[e.key,e.val]}:=λj t ht=>by
  let⟨e,e1,e2⟩:=hG.pairs j t ht;let hj:=(SC.mp ht).1;let⟨kv,d7,r1,r2⟩:=W.ent j ⋯;let ee:es[j]'⋯=e:=by have:=VF (xs:=es) (i:=j) ⋯;rw[this]at e1;cases e1;rfl
  refine⟨kv,e,d7,?_,by rw[<-ee];show r1,by rw[<-ee];show r2,e2⟩;rw[W2];show⟨ht,by simp[d7]⟩
 let TM:∀p∈as.zip (ks.map λkv=>[kv.1,kv.2]),p.1≠(e_ s):=λp hp e=>by
  have:p.1∈as:=by rw[<-uq];show UO.mpr ⟨p,hp,rfl⟩
  show Vx _<|e▸hG.above _ this
 let vr:∀l:x_ s_,aJ (l.map V.ref) (l.map US):=λl=>by
  induction l with
  |nil=>exact .nil
  |cons a l ih=>exact .cons rfl ih
 refine⟨.ref<|e_ s,_,I.laidTL (t':=tk) (S:=(e_ s)) (ws:=as.map V.ref) (ps:=as.zip<|ks.map λkv=>[kv.1,kv.2]) kp bh (λp hp=>?_) (Uv _) ⟨by rw[Uu];omega,as.map US,c',vr as,by rw[<-ak,Array.toArray_toList];show hS⟩,rfl,q _ _ _ (yS I bh) ?_ ?_⟩
 ·let⟨j,hj⟩:=Xx.mp hp;let ha:as[j]?=a_ p.1:=by have:=congrArg (λl=>l[j]?) uq;simp[hj]at this;show this.symm
  let⟨kv,e,_,e2,r1,r2,e3⟩:=each j p.1 ha;rw[hj]at e2;let eq2:p.2=[kv.1,kv.2]:=by have:=UW e2;rw[this]
  refine⟨by rw[eq2,Vs];change 2<=16777216;decide,[e.key,e.val],by rw[eq2];show .cons r1<|.cons r2 .nil,⟨_,e3,rfl,⟨0,rfl⟩,rfl⟩⟩
 ·rw[vG TM];show I.fresh
 ·refine HM (by rw[Uu];omega) λi p v hp oj=>?_;rw[UD]at oj;let⟨t,ht,rfl⟩:=UI.mp oj;let⟨kv,e,d7,e2,_⟩:=each i t ht;let⟨p1,p2,Sy,rfl,ij,q1,q2⟩:=ent i p hp;rw[d7]at ij;cases ij
  let T:=Kp.same<|yS I bh;show⟨t,[kv.1,kv.2],rfl,.inl<|.inl<|Bn nd e2,q1.mono Ux T,q2.mono Ux T,trivial⟩
end
abbrev Ay(h:PH)(n:Nat):y_ (X9 0):=match h[n]? with
 |some (.vw 0 d)=>match h[d]? with
  |some o=>jB o
  |none=>b_
 |_=>b_
open PySem.SeqAt PySem.W
section
variable{K:Type}[DecidableEq K]{knd:HeapKind prog w K}
def Az{d:s_}{xs:x_ (K×s_×q_)}{k:K}{Q:y_ VQ->r_->Prop}(hu:knd.room A)(ba:knd.is s.heap k a)(hm:s.heap.DictOfH knd d xs)(hp:atKey xs k=b_)(h:Q b_ { s with toks:=s.toks+knd.draws k}):
  p_ (XH d<|.ref a) Q E s:=by
 let⟨o,es,ep,ho,hc,hd,he,oa,hn⟩:=hm;unfold XH
 try with_reducible refine VY ?_
 refine SB<|knd.pyHash hu ba ?_;refine SB<|wpAny_dictFind_heap (s:={ s with toks:=s.toks+knd.draws k}) hu ba ho hd he oa hn ?_ ?_
 ·intro ou;show SL h
 ·intro j q hj;rw[atKey_of_get hn hj]at hp;cases hp
def uE(knd:HeapKind prog w K)(d a:s_)(x:q_):MeetsIn prog w (Builtin.«dict.pop» ⟨[.ref d,.ref a,x],[]⟩) (λA R s=>knd.room A.in1/\(d == VM)=false/\∃k xs,knd.is s.heap k a/\s.heap.DictOfH knd d xs/\xs.length<=UG/\
   (∀p,atKey xs k=a_ p->∀h',h'.DictOfH knd d (xs.filter λx=>decide (x.1≠k))->V1 d s.heap h'->R (.ok (.ret p.2)) {s with heap:=h',toks:=s.toks+knd.draws k})/\(atKey xs k=b_->∀n,R (.ok (.ret x)) { s with toks:=n})):=
 .of_wp λA R s ⟨hu,hsy,k,xs,ba,hm,hz,r1,r2⟩=>by
  unfold Builtin.«dict.pop»;refine SB ?_;unfold Builtin.Dict.keyAndDefault;refine SB (WY hm.typeIs<|show B_ (pure (d,US a,a_ x)) _ _ s from SL ?_)
  let kp:(keyPart<|US a).isSome=false:=rfl;simp only[kp,UV,if_false];let⟨o,es,ep,ho,hc,hd,he,oa,hn⟩:=id hm;refine SB<|Vi ho hd ?_;refine SB<|SL ?_;cases ee:es.isEmpty with
  |true=>
   let e0:xs=[]:=by
    let e1:=size_of_entries he;have:es=#[]:=by simpa using ee
    rw[this]at e1;show Xl e1.symm
   simp only[if_true];refine SB<|Xo<|SB<|SL ?_;simp only[Option.isNone_none,if_true];refine SB<|wpAny_missedRemoval_other hsy ?_;show SB (Xo<|SL ⟨_,rfl,r2 (by rw[e0];rfl) _⟩)
  |false=>
   simp only[UV,if_false];cases hp:atKey xs k with
   |some p=>refine SB<|qF hu ba hm hp hz λh' q1 q2=>?_;simp only[Option.isNone_some,UV,if_false];show SB<|Xy<|SL ⟨_,rfl,r1 p hp h' q1 q2⟩
   |none=>refine SB<|Az hu ba hm hp ?_;simp only[Option.isNone_none,if_true];refine SB<|wpAny_missedRemoval_other hsy ?_;show SB<|Xo<|SL ⟨_,rfl,r2 hp _⟩
end
abbrev mL:PV->X9 0->PH->Rs PV:=λx ps h=>match x,ps with
 | .ref n,[y,z]=>if y.isKt=true then match bJ h n with
   |some kvs=>match aP kvs y with
    |some p=>.ok p (Yr<|.dD<|lJ kvs y)
    |none=>.ok z h
   |none=>.bad
  else .bad
 |_,_=>.bad
set_option tactic.hygienic true in
def Ky{k:Nat}(c:X7 X):MtR X "dict.pop" (rM C mL):=λtd s σ H x xs v us Q I rx rs h=>by
 let⟨φ,h,p,ps,rh,rp,jh,po⟩:=h;unfold mL at po;split at po
 ·rename_i n y z;let⟨a,rfl,ha⟩:=rp;cases rx
  let⟨yv,zv,rfl,ry,rz⟩:=jh.two;let⟨yu,zu,rfl,cj,vf⟩:=vals2 rs;let⟨hk,po⟩:=po.ite;split at po
  ·rename_i kvs ht;let⟨b,rfl⟩:=iN hk ry;cases cj
   let⟨⟨ks,xs,r,cg,hz,hm,dd⟩,mu,nt⟩:=Yu 0;let hv:=HD.val (a:=a) r cg y;refine WG XB dd.typeIs PySem.F.entry_dict_pop (PySem.F.args_dict_pop_3 _ _ _) (uE (pS X.prog X.w) a b zu) ⟨c.room6,hm,y,xs,pZ I c.K hk ry,dd,hz,λp3 e3 h' je hs=>?_,λe3 m=>?_⟩
   ·cases e2:aP kvs y with
    |none=>rw[e2,e3]at hv;show hv.elim
    |some p2=>
     rw[e2,e3]at hv;rw[e2]at po;let⟨v',ae,bq⟩:=hv;let⟨bx,r1,r2⟩:=HD.drop r cg y;let⟨o,es,ep,hq,h2,h3,h4,_,h5⟩:=je;let nv:bx.length<=UG:=by
      let e1:=Ve r1;let e4:=Ve r;let e5:=Ve cg;let e6:(lJ kvs y).length<=kvs.length:=by unfold lJ;show WZ _ _
      omega
     refine⟨v',R_ a<|dDO C.w a bx,pG I mu hs ⟨o,hq⟩ ⟨⟨nv,hm,_,r2,o,es,ep,hq,h2,h3,?_,h5⟩,⟨o,hq⟩,?_⟩,ae,?_⟩
     ·rw[h4,<-c.w];rfl
     ·rintro g1 g2 ⟨z1,z2,ws,z3,o',jw,ik,z4,z5⟩ keep;show⟨z1,z2,ws,z3,o',jw,ik,keep _ z4,z5⟩
     ·show po φ v' _ Ux (Kp.upd nt) (rh.write ha nt ⟨bx,aI,RKd.mono Ux (Kp.upd nt) r1⟩) (bq.mono Ux<|Kp.upd nt)
   ·cases e2:aP kvs y with
    |some p2=>rw[e2,e3]at hv;show hv.elim
    |none=>rw[e2]at po;show⟨zv,H,I.tok _,vf,K_ rz⟩
  ·show po.elim
 ·show po.elim
def NG{k:Nat}:MtG C k X "dict" bH "dict.pop" mL:=λc=>⟨Ky c,mD c⟩
def HN{y:PV}(ht:bJ h n=a_ kvs)(hk:y.isKt=true):mL (.ref n) [y,z] h=match aP kvs y with
  |some p=>.ok p (Yr<|.dD<|lJ kvs y)
  |none=>.ok z h:=by
 unfold mL;simp only[hk,if_true,ht]
def Q6{k:Nat}(c:X7 X){x:V}{v u:q_}{Q:VK}(I:H_ s)(rx:RelV x v)(ry:RelV y u)(h:BE C y x H λφ o=>∃p,o=a_ p/\∀v:V,j_ p v->Q v H):
  wpAny (g_ X) X.A (getItem v u) (X3 Q) X.xe s:=by
 let⟨φ,h,p,n,a,kvs,rh,rp,rfl,ha,ht,hk,p',ep,q⟩:=h;cases rx
 let⟨b,rfl⟩:=iN hk rp;cases ry
 let⟨⟨ks,xs,r,cg,hz,hm,dd⟩,_⟩:=Yu 0;let hv:=HD.val (a:=a) r cg p;rw[ep]at hv;cases e2:atKey xs p with
 |none=>rw[e2]at hv;show hv.elim
 |some z=>rw[e2]at hv;let⟨v',ae,bq⟩:=hv;show wpAny_getItem_heap c.room6 (pZ I c.K hk rp) dd e2 ⟨v',H,I.tok _,ae,q v' bq⟩
abbrev Kz(δ:Ev)(x y:PV)(i:Int):PV->PH->Fl
 |.int j,h=>match lR x y (.int<|i-j) h with
  |some h4=>.nx δ h4
  |none=>.bad
 |_,_=>.bad
abbrev C7(mo mi mv:Me):Ms:=λδ h=>(mo δ h).fl λx h1=>(mi δ h1).fl λy h2=>match eW y x h2 with
 |some (d_ i)=>(mv δ h2).fl (Kz δ x y i)
 |_=>.bad
def NH{k:Nat}{o i:v_}{jk:Pos}{mi:Me}(ho:D_ o mo)(hi:D_ i mi)(hv:D_ value mv)(ha:∀ov iv new,augStore i ov iv new=(do holding [new,ov,iv] (setItem ov iv new);release [new,ov,iv] [];pure .next):=by intros;rfl):
  SSt C k X (.AugAssign (.Subscript o i jk) .Sub value pos) (C7 mo mi mv):=λc td s σ H D I ⟨φ,δ,h,rh,re,p⟩=>by
 refine wpAny_AugAssign_SubscriptAny (thn (ho c td s σ H _ I ⟨φ,δ,h,rh,re,post.fl p⟩) ?_) ha
 rintro xu s1 ⟨x,H1,I1,jd,φ1,px,h1,p1,t1,aa,ae,q1⟩
 refine thn (hi c td s1 σ H1 _ I1 ⟨φ1,δ,h1,aa,O_ 0,post.fl q1⟩) ?_
 rintro yu s2 ⟨y,H2,I2,cj,φ2,py,h2,p2,t2,ah,bq,q2⟩
 cases e:eW py px h2 with
 |none=>rw[e]at q2;exact q2.elim
 |some oo=>
  rw[e]at q2
  cases oo with
  |none=>exact q2.elim
  |some z0=>
   cases z0 with
   |int j0=>
    have Ui:bY C φ2 H2 ((mv δ h2).fl<|Kz δ px py j0) D:=q2
    refine thn (Q6 c (Q:=λv H'=>v=.int j0/\H'=H2) I2 jd cj<|kE ah bq (ae.mono p2 t2) e ⟨_,rfl,λv rv=>by cases rv;exact⟨rfl,rfl⟩⟩) ?_
    rintro old s3 ⟨v3,H3',I3,rold,e31,e32⟩
    subst e31
    subst e32
    refine thn (hv c td s3 σ _ _ I3 ⟨φ2,δ,h2,ah,(O_ 0).mono p2 t2,post.fl Ui⟩) ?_
    rintro vu s4 ⟨z,H3,I4,jg,φ3,pz,h3,p3,t3,c8,rv3,q3⟩
    cases pz with
    |int j=>
     cases rv3
     let⟨t,rfl⟩:=rold
     let⟨t',rfl⟩:=jg
     refine isub_int ?_
     unfold Kz at q3
     dsimp only at q3
     cases e4:lR px py (.int<|j0-j) h3 with
     |none=>rw[e4]at q3;exact q3.elim
     |some h4=>
      rw[e4]at q3
      exact rJ c c8 ((ae.mono p2 t2).mono p3 t3) (bq.mono p3 t3) (show RV C φ3 H3 (.int<|j0-j) (.int<|j0-j) from rfl) e4 (I4.tok _) jd cj ⟨_,rfl⟩ λs' H' I' kp bf=>⟨σ,H',I',q3 φ3 σ H' Ux kp bf<|(((O_ 0).mono p2 t2).mono p3 t3).mono Ux kp⟩
    |_=>exact q3.elim
   |_=>exact q2.elim
variable{h4:PH}
def NI{mi:Me}{E:FE}{y:PV}{i j:Int}(eo:mo δ h=.ok (.ref n) h1)(ei:mi δ h1=.ok y h2)(ht:bJ h2 n=a_ kvs)(hk:y.isKt=true)(el:aP kvs y=d_ i)(ev:mv δ h2=.ok (.int j) h2)(ep:lR (.ref n) y (.int<|i-j) h2=a_ h4)(k:E.nx δ h4):(C7 mo mi mv δ h).W E:=by
 unfold C7;let hd:eW y (.ref n) h2=a_ (d_ i):=by simp only[eW,hk,if_true,ht,Xb,el]
 rw[eo,Rs.fl_ok,ei,Rs.fl_ok,hd]
 change(((mv δ h2).fl<|Kz δ (.ref n) y i)).W E
 rw[ev,Rs.fl_ok]
 change((match lR (.ref n) y (.int (i-j)) h2 with
  |some h4=>.nx δ h4
  |none=>.bad:Fl)).W E
 rw[ep]
 change(Fl.nx δ h4).W E
 rw[Rj];show k
abbrev kK:X9 0->PH->Rs PV:=λxs h=>match xs with
 |[.ref n]=>match Ay h n with
  |some ys=>if ys.length<1000000 then .ok (.ref h.length) (h++[.lst ys]) else .bad
  |none=>.bad
 |_=>.bad
set_option tactic.hygienic true in
def KA{k:Nat}:lX C k X (.type "list") kK:=λc=>dJ.imp (Da c) λvs H Q h=>by
 let⟨φ,h,ps,rh,rv,po⟩:=h;unfold kK at po;split at po
 ·rename_i n;split at po
  ·rename_i ys e;let⟨hz,po⟩:=po.ite;unfold Ay at e;split at e
   ·rename_i d hv;split at e
    ·rename_i o ho;let⟨v,rfl,rx⟩:=rv.one;let⟨a,rfl,ha⟩:=rx;let⟨b,hb,hH⟩:=Yb hv;show⟨φ,h,a,d,b,o,ys,rfl,rh,hb,hH,ho,e,hz,λH1 l ws sm hl dh=>(po.weak Ux<|Kp.same sm).lnew (rh.same sm) dh hl⟩
    ·cases e
   ·cases e
  ·show po.elim
 ·show po.elim
def Fd{d:Nat}{o:MO}(e:h[n]?=a_ (.vw 0 d))(e2:h[d]?=a_ o)(e3:jB o=a_ ys)(hz:ys.length<1000000):kK [.ref n] h=.ok (.ref h.length) (h++[.lst ys]):=by unfold kK Ay;simp only[e,e2,e3,hz,if_true]
abbrev AA(f:Fn):Me:=λ_ h=>f [] h
def KB{k:Nat}{p:Pos}{f:Fn}(D:Def C.K X.mg x st a fd ps)(G:E_ a fd ps (spM C 0 f))(hj:j<=k:=by decide)(hg:Gl X x:=by rfl)(b5:(x == ("__debug__" : Str))=false:=by decide):D_ (.Call (.Name x p) [] [] pos) (AA f):=λc=>by
 let e1:=c.K;let D':Def X.K X.mg x st a fd ps:=by rw[e1];show D
 let G':G_ CX0 j a fd ps (spM C 0 f):=by rw[e1];show G
 refine(FV G' (c.room.mono hj) hg D'.mg D'.fn.kp D'.bd .nil Bb b5).imp λσ H Q h=>?_;let⟨φ,δ,h,rh,re,p⟩:=h;show⟨φ,h,[],rh,trivial,rfl,p⟩
@[simp]theorem O9{f:Fn}:AA f δ h=f [] h:=(rfl)
abbrev GEs(P:Params):x_ (Str×Str)->x_ VQ->Prop
 |[],[]=>True
 |kv::r,e::es=>e.hash=PyData.keyHash P kv.1/\(∃t,e.key=.str kv.1 t)/\(∃t,e.val=.str kv.2 t)/\GEs P r es
 |_,_=>False
abbrev Q7(C:MC)(a:s_)(kvs:x_ (Str×Str)):Prop:=(a == VM)=false/\(kvs.map λkv=>(WO kv.1:Key)).Nodup/\∃es ep,C.K.lookup a=a_ ⟨.type "dict",b_,.dict es ep,#[]⟩/\GEs C.w.params kvs es.toList
abbrev wN:x_ (Str×Str)->Str->y_ Str
 |[],_=>b_
 |kv::r,z=>if kv.1=z then a_ kv.2 else wN r z
abbrev gdV(o:y_ Str):PV:=match o with
 |some v=>.str v
 |none=>.non
abbrev vGd(kvs:x_ (Str×Str)):PV->PH->Rs PV:=λp h=>match p with
 |.str z=>.ok (gdV<|wN kvs z) h
 |_=>.bad
def zO{P:vj}{w:ve}:∀{kvs:x_ (Str×Str)}{es:x_ VQ},GEs w.params kvs es->∃vs:x_ (Key×q_),Pairs (aV P w) es vs/\vs.map (·.1)=(kvs.map λkv=>(WO kv.1:Key))/\(∀e∈es,∃k,(aV P w).is k e.key=true/\e.hash=(aV P w).hash k)/\
  ∀z:Str,match wN kvs z with
   |some v=>∃t,valueAt vs (WO z:Key)=a_ (.str v t)
   |none=>valueAt vs (WO z:Key)=b_
 |[],[],_=>⟨[],.nil,rfl,(λ_ h=>nomatch h),λz=>rfl⟩
 |kv::r,e::es,⟨h1,⟨t1,h2⟩,⟨t2,h3⟩,h4⟩=>by
  let⟨vs,p,q,s,v⟩:=zO (P:=P) h4;let hi:(aV P w).is (WO kv.1:Key) e.key=true:=by rw[h2];show sR P w _ _
  refine⟨((WO kv.1:Key),e.val)::vs,.cons hi rfl p,by rw[UJ,UJ,q],λx hx=>?_,λz=>?_⟩
  ·rcases UF.mp hx with rfl|hx
   ·show⟨_,hi,h1⟩
   ·show s x hx
  ·let hv:=v z;unfold valueAt at hv⊢;unfold wN;rw[Wt];by_cases c:kv.1=z
   ·subst c;simp;show⟨t2,h3⟩
   ·let c2:¬ (WO kv.1:Key)=WO z:=λq=>c<|Sum.inr.inj q;simp only[if_neg c,decide_eq_false c2];show hv
 |[],_::_,h=>h.elim
 |_::_,[],h=>h.elim
def KC{k:Nat}{kvs:x_ (Str×Str)}{p:Pos}(hm:X.mg x=c_ a)(g:Q7 C a kvs)(he:D_ e m)(hg:Gl X x:=by rfl)(hd:(x == ("__debug__" : Str))=false:=by decide)(bo:Xe (.Name x p) "get" X.env (eval (.Name x p) X.env)=eval (.Name x p) X.env:=by rfl)(fb:((backTo ag (UL [e] X.env)).all (λx=>!x.1)&&(backToKw ag (keywordEach [] X.env)).all (λx=>x.1.isSome)
   && decide (([e]:x_ v_).length+([]:x_ Keyword).length+(if([]:x_ Keyword).isEmpty then 0 else 1)<30))=true:=by rfl)(bj:(apos.endLine == ag.line)=true:=by rfl)(hs:backTo ag (UL [e] X.env)=[(false,S_ 0)]:=by rfl):D_ (.Call (.Attribute (.Name x p) "get" apos) [e] [] ag) (mUn (vGd kvs) m):=λc td s σ H Q I q=>by
 let⟨φ,δ,h,rh,re,po⟩:=q;let⟨g1,g2,es,ep,g3,g4⟩:=g;rw[<-c.w]at g4;rw[<-c.K]at g3;let⟨vs,p1,p2,p3,p4⟩:=zO (P:=X.prog) g4;let dd:∀{H' s'},h_ H' s'->s'.heap.DictOf (aV X.prog X.w) a vs:=λI'=>⟨_,es,ep,I'.bk _ _<|I'.mod.kin _ _ g3,⟨rfl,rfl,rfl⟩,rfl,λx hx=>p3 x<|ke hx,p1,by rw[p2];show g2⟩;refine wpAny_Call_method bo fb bj Wd Vw PySem.F.type_dict_get<|thn (Du (v:=.ref a) hg hm rfl hd td s σ H (λv H'=>v=.ref a/\H'=H) I ⟨rfl,rfl⟩) λu s1 z9=>?_;let⟨x,H1,I1,rx,ex,eH⟩:=z9;subst ex eH;obtain rfl:u=US a:=rx;refine⟨(dd I1).typeIs,λb eb=>?_,?_⟩
 ·cases eb
  show⟨_,I1.bk _ _<|I1.mod.kin _ _ g3,rfl⟩
 rw[hs];refine Xp rfl<|Calls.evalArgs_plain<|Calls.spliced_cons<|thn (he c td s1 σ H1 _ I1 ⟨φ,δ,h,rh,re,post.bind po⟩) ?_;rintro iv s2 ⟨y,H2,I2,ry,φ2,py,h2,p22,t2,ah,bq,q2⟩;refine Calls.spliced_nil ?_;cases py with
 |str z=>
  obtain rfl:y=.str z:=bq;let q2:post C φ2 H2 (.ok (gdV<|wN kvs z) h2) Q:=q2;let TR:RelV (kV (WO z:Key)) iv:=ry;refine WG Vw (dd I2).typeIs VW (Xh _ _) (meets_dict_get (aV X.prog X.w) a (sX TR) g1) ⟨_,(dd I2).mapOf,?_⟩;let hz:=p4 z;cases e1:wN kvs z with
  |none=>rw[e1]at hz q2;rw[hz];show⟨.non,H2,I2.tok _,rfl,q2.val ah rfl⟩
  |some v=>rw[e1]at hz q2;let⟨t,hz⟩:=hz;rw[hz];show⟨.str v,H2,I2.tok _,⟨t,rfl⟩,q2.val ah rfl⟩
 |_=>exact q2.elim
open PySem.W
abbrev cE:Ms:=λ_ _=>.bad
def Q8{k:Nat}:SSt C k X st cE:=λc _ _ σ H _ I h=>by let⟨φ,δ,h,rh,re,p⟩:=h;show p.elim
def getD_none{α:Type}{o:Array (y_ α)}{x:α}(h:(o.getD j<|a_ x).isNone=true):o[j]?=a_ b_:=by
 by_cases q:j<o.size
 ·let e:o.getD j (a_ x)=o[j]:=by simp[Array.getD,q]
  rw[e]at h;rw[VF q,Option.isNone_iff_eq_none.mp h]
 ·let e:o.getD j (a_ x)=a_ x:=by simp[Array.getD,q]
  rw[e]at h;cases h
def sub_tuple_tuple:isSubtype (.type "tuple") (.type "tuple")=pure true:=isSubtype_tuple_tuple
end L2
namespace K74
open PySem L2
local macro_rules|`(o_ $x)=>`(mC (.int $x))
noncomputable section
abbrev AB:Ms:=
 (aE (aQ 2 (aB gY (aB rF (aB aY (aB aY (mV 0) (aB rF (o_ 7919) (mV 1))) (o_ 1)) (o_ 48271)) (o_ 2147483647)))
 (bF (aB gY (aB rF (mV 2) (aB aY (aB Bt (mV 2) (o_ 1009)) (o_ 69621))) (o_ 2147483647))))
abbrev bQ:Fn:=mFn 3 AB
abbrev rT:Ms:=(aQ 3<|aB aY (mV 3)<|i_ (mC<|.str "abcdefghijklmnopqrstuvwxyz")<|aB gY (aN 2 bQ<|aA (mV 0)<|aA (aB aY (aB aY (o_ 60)<|aB rF (o_ 9)<|mV 2)<|mV 4) aC)<|o_ 26)
abbrev rV:Ms:=
 (bA (aO (aB kF (mV 3) (mV 1)))
    (aQ 3<|aB aY (mV 5)<|mSl (mV 3) (mP<|o_ 1) nJ)
    cH)
abbrev rW:Ms:=
 (aE (aQ 3 (mC (.str "")))
  (aE (bR (pW (aA (aB aY (o_ 1) (aB gY (aN 2 bQ (aA (mV 0) (aA (aB aY (o_ 50) (mV 2)) aC))) (o_ 8))) aC)) (gN 4) rT)
  (aE (bR (zK (mC (.str "pqrst"))) (gN 5) rV)
  (iA (mMt isL (onL bP) (mV 1) (aA (mV 3) aC))))))
abbrev AC:Ms:=
 (aE (aQ 1 (iI aC))
 (aE (bR (pW (aA (o_ 3) aC)) (gN 2) rW)
 (bF (mCB rP (aA (mV 1) aC)))))
abbrev AD:Fn:=mFn 6 AC
abbrev oI:Ms:=(iA<|mMt isL (onL bP) (mV 4)<|aA (aB aY (i_ (mV 4)<|mUn CN<|o_ 1)<|aZ<|aA (aZ<|aA (o_ 1)<|aA (i_ (mV 1)<|o_ 0)<|aA (i_ (mV 1)<|o_ 1)<|aA (mV 5) aC) aC) aC)
abbrev wO:Ms:=
 (aE (hW (mV 0) (gTp 3 (gCn (gN 1) (gCn (gN 2) (gCn (gN 3) gNl)))))
 (aE (aQ 4 (iI (aA (aB aY (i_ (mV 3) (o_ 2)) (aZ (aA (aZ (aA (i_ (mV 3) (o_ 3)) (aA (i_ (mV 1) (o_ 0)) (aA (i_ (mV 1) (o_ 1)) (aA (o_ 0) aC))))) aC))) aC)))
 (aE (bR (yW (aA (o_ 1) (aA (mCB jJ (aA (i_ (mV 3) (o_ 4)) aC)) aC))) (gN 5) oI)
 (bF (mV 4)))))
abbrev jL:Fn:=mFn 6 wO
abbrev mM:Ms:=
 (bA (tL (aO (Yh (i_ (i_ (mV 3) (o_ 2)) (o_ 0)) (mC (.str "write")))) (aO (Yh (i_ (i_ (mV 3) (o_ 2)) (o_ 1)) (mV 1))))
   (aQ 2<|aB aY (mV 2)<|aN 1 jL<|aA (mV 3) aC)
   cH)
abbrev rX:Ms:=
 (aE (aQ 2 (iI aC))
 (aE (bR (aR (mV 0)) (gN 3) mM)
 (bF (mV 2))))
abbrev rY:Fn:=mFn 4 rX
abbrev rZ:Ms:=(aQ 3<|aB aY (mV 3)<|i_ (mV 2)<|aB gY (aN 2 bQ<|aA (mV 0)<|aA (aB aY (o_ 11)<|mV 4) aC)<|mCB jJ<|aA (mV 2) aC)
abbrev AE:Ms:=
 (aE (aQ 2 (mC (.str " !#&'()*+,-./0123456789:;<=>?@ABCDEFGHIJKLMNOPQRSTUVWXYZ[]^_abcdefghijklmnopqrstuvwxyz{|}~")))
 (aE (aQ 3 (mC (.str "")))
 (aE (bR (pW (aA (aB aY (o_ 1) (aB rF (aB gY (aN 2 bQ (aA (mV 0) (aA (o_ 10) aC))) (o_ 12)) (mCB mI (aA (aB vLt (mV 1) (o_ 60)) aC)))) aC)) (gN 4) rZ)
 (bF (mV 3)))))
abbrev qH:Fn:=mFn 5 AE
abbrev HP:Ms:=
 (aE (aQ 2 (bZ [b_] (aR (mV 1)) (gN 0) (aO (Yh (i_ (i_ (mV 0) (o_ 2)) (o_ 0)) (mC (.str "make")))) (i_ (mV 0) (o_ 0))))
 (aE (aQ 3 (aB gY (aN 2 bQ (aA (mV 0) (aA (o_ 2) aC))) (o_ 16)))
 (aE (bA (CO (aO (Yh (mV 2) (iI aC))) (aO (Yh (mV 3) (o_ 0))))
  (bF<|aZ<|aA (mC<|.str "make")<|aA (mC<|.str "text")<|aA (aZ<|aA (mC<|.str "")<|aA (o_ 0) aC)<|aA (mSl (mC<|.str "notes") nJ<|mP<|aB aY (o_ 1)<|aB gY (aN 2 bQ<|aA (mV 0)<|aA (o_ 3) aC)<|o_ 5) aC)
  cH)
 (aE (aQ 4 (i_ (mV 2) (aB rF (aB gY (aN 2 bQ (aA (mV 0) (aA (o_ 3) aC))) (mCB jJ (aA (mV 2) aC))) (mCB mI (aA (aB vLt (mV 3) (o_ 4)) aC)))))
 (aE (aQ 5 (aN 2 rY (aA (mV 1) (aA (mV 4) aC))))
 (aE (bA (CO (aO (Yh (mV 5) (iI aC))) (aO (Yh (aB gY (mV 3) (o_ 2)) (o_ 0))))
  (aE (aQ 6 (aZ aC))
  (aE (aQ 7 (o_ 1))
  (aE (bA (tL (aO (aB vNe (mV 5) (iI aC))) (aO (aB vGt (mV 3) (o_ 2))))
   (aE (aQ 6 (i_ (mV 5) (aB gY (aN 2 bQ (aA (mV 0) (aA (o_ 4) aC))) (mCB jJ (aA (mV 5) aC)))))
   (aQ 7 (aB Bs (o_ 1) (aB rF (aB gY (aB Bt (mV 3) (o_ 2)) (o_ 2)) (o_ 2)))))
   cH)
  (bF (aZ (aA (mC (.str "write")) (aA (mV 4) (aA (mV 6) (aA (mV 7) (aA (aN 2 qH (aA (mV 0) (aA (mCB jJ (aA (mV 5) aC)) aC))) aC))))))))))
  cH)
 (aE (aQ 8 (aB gY (aN 2 bQ (aA (mV 0) (aA (o_ 5) aC))) (mCB jJ (aA (mV 5) aC))))
 (aE (bA (aO (aB vLt (mV 3) (o_ 4)))
  (bF<|aZ<|aA (i_ (iI<|aA (mC<|.str "mark")<|aA (mC<|.str "clear") aC)<|aB Bt (mV 3)<|o_ 2)<|aA (mV 4)<|aA (i_ (mV 5)<|mV 8)<|aA (i_ (mV 5)<|mUn CN<|o_ 1)<|aA (mC<|.str "bold") aC)
  cH)
 (bF (aZ (aA (mC (.str "cut")) (aA (mV 4) (aA (mCB kA (aA (mSl (mV 5) (mP (mV 8)) (mP (aB aY (aB aY (mV 8) (o_ 1)) (aB gY (aN 2 bQ (aA (mV 0) (aA (o_ 6) aC))) (o_ 40))))) aC)) aC)))))))))))))
abbrev HQ:Fn:=mFn 9 HP
abbrev sC:Ms:=(dQ (o_ 0) (mV 2)<|mV 3)
abbrev jM:Ms:=
 (aE (aQ 8 (mCB Gx (aA (o_ 0) (aA (aB Bs (i_ (mV 2) (i_ (mV 1) (mV 7))) (aB Bt (aB gY (aN 2 bQ (aA (mV 5) (aA (aB aY (o_ 30) (mV 7)) aC))) (o_ 9)) (o_ 5))) aC))))
   (aE (bA (aO (Yh (i_ (mV 1) (mV 7)) (mV 3)))
    (aQ 8<|i_ (mV 2)<|mV 3)
    cH)
   (bA (aO (aB vGt (mV 8) (o_ 0)))
    (iA<|mMt isL (onL bP) (mV 6)<|aA (aZ<|aA (i_ (mV 1)<|mV 7)<|aA (mV 8) aC) aC)
    cH)))
abbrev jN:Ms:=
 (aE (aQ 3 (i_ (mV 1) (aB gY (aN 2 bQ (aA (mV 5) (aA (o_ 1) aC))) (o_ 3))))
  (aE (aQ 6 (iI aC))
  (aE (bR (pW (aA (o_ 3) aC)) (gN 7) jM)
  (aE (dQ (aB aY (i_ (mV 2) (mV 3)) (o_ 1)) (mV 2) (mV 3))
  (iA (mMt isL (onL bP) (mV 4) (aA (aZ (aA (aZ (aA (mV 3) (aA (i_ (mV 2) (mV 3)) aC))) (aA (mCB kA (aA (mV 6) aC)) (aA (aN 2 HQ (aA (mV 5) (aA (mV 4) aC))) aC)))) aC)))))))
abbrev AF:Ms:=
 (aE (aQ 1 (aN 1 AD (aA (i_ (aB oH (mV 0) (iI (aA (o_ 0) aC))) (o_ 0)) aC)))
 (aE (aQ 2 bW)
 (aE (bR (aR (mV 1)) (gN 3) sC)
 (aE (aQ 4 (iI aC))
 (aE (bR (aR (mSl (mV 0) nJ (mP (o_ 36)))) (gN 5) jN)
 (bF (mV 4)))))))
abbrev AG:Fn:=mFn 9 AF
abbrev wQ:Ms:=(bF<|aZ<|aA (mCB BD<|aA (bZ [b_,b_] (aR<|i_ (mV 0)<|o_ 1) (gTp 2<|gCn (gN 0)<|gCn (gN 1) gNl) lQ<|mV 1) aC)<|aA (i_ (i_ (mV 0)<|o_ 0)<|o_ 0)<|aA (i_ (i_ (mV 0)<|o_ 0)<|o_ 1) aC)
abbrev qI:Fn:=mFn 1 wQ
abbrev qJ:Ms:=
 (aE (dQ (bZ [b_,a_ 6] (aR (mV 9)) (gN 0) (aO (aB bD (mV 0) (i_ (mV 1) (o_ 2)))) (mV 0)) (mV 7) (mV 8))
    (bA (aO (Yh (i_ (mV 7) (mV 8)) (iI aC)))
     (aE (dQ (aZ (aA (mC (.str "outdone")) (aA (mV 4) aC))) (mV 1) (mV 8))
     (iA (mMt bH mK (mV 7) (aA (mV 8) aC))))
     cH))
abbrev qK:Ms:=
 (aE (hW (mV 3) (gTp 3 (gCn (gN 4) (gCn (gN 5) (gCn (gN 6) gNl)))))
  (aE (dQ (aZ (aA (mC (.str "stands")) aC)) (mV 1) (mV 4))
  (aE (bA (aO (Yh (i_ (mV 6) (o_ 0)) (mC (.str "make"))))
   (aE (dQ bW (mV 2) (mV 4))
   Gy)
   cH)
  (aE (bA (aO (aB bD (i_ (mV 6) (o_ 1)) (mV 2)))
   (aE (dQ (aZ (aA (mC (.str "idle")) aC)) (mV 1) (mV 4))
   Gy)
   cH)
  (aE (aQ 7 (i_ (mV 2) (i_ (mV 6) (o_ 1))))
  (aE (bA (aO (Yh (i_ (mV 6) (o_ 0)) (mC (.str "write"))))
   (dQ (aN 1 jL<|aA (mV 3) aC) (mV 7)<|mV 4)
   cH)
  (bA (aO (Yh (i_ (mV 6) (o_ 0)) (mC (.str "cut"))))
   (bR (aR<|mCB kK<|aA (uC bH dW<|mV 7) aC) (gTp 2<|gCn (gN 8)<|gCn (gN 9) gNl) qJ)
   cH)))))))
abbrev HS:Ms:=
 (aE (aQ 1 bW)
 (aE (aQ 2 bW)
 (aE (bR (aR (mV 0)) (gN 3) qK)
 (bF (mV 1)))))
abbrev HU:Fn:=mFn 10 HS
abbrev gJ:Ms:=
 (aE (dO "made" (mV 0) bW)
 (dO "failed" (mV 0) (iI aC)))
abbrev gK:Fn:=mFn 1 gJ
abbrev nR:Ms:=cE
abbrev mN:Ms:=
 (aE (dO "made" (mV 0) bW)
 (aE (bR (aR (mV 1)) (gTp 4 (gCn (gN 3) (gCn (gN 4) (gCn (gN 5) (gCn (gN 6) gNl))))) nR)
 (dO "failed" (mV 0) (mCB yV (aA (mV 2) aC)))))
abbrev iS:Fn:=mFn 7 mN
abbrev AH:Str->y_ Fn:=λ(z:Str)=>if z=("Tree" : Str) then a_ iS else(λ_=>b_) z
abbrev fX:Ms:=
 (aE cE
  cE)
abbrev dY:Ms:=
 (aE (hW (mV 1) (gTp 2 (gCn (gN 2) (gCn (gN 3) gNl))))
 (aE (dO "tree" (mV 0) (iQ "Tree" 0 gK aC))
 (aE (iA (dS "fill" 2 AH (mUn (aU "tree") (mV 0)) (aA (bZ [b_] (aR (mV 2)) (gN 0) lQ (mSl (mV 0) nJ (mP (o_ 4)))) (aA (mV 3) aC))))
 (aE (dO "leaves" (mV 0) bW)
 (bR (aR (mV 2)) (gTp 5 (gCn (gN 4) (gCn (gN 5) (gCn (gN 6) (gCn (gN 7) (gCn (gN 8) gNl)))))) fX)))))
abbrev dZ:Fn:=mFn 9 dY
abbrev AI:Ms:=(bF<|aZ<|aA (iI aC)<|aA (iI aC) aC)
abbrev uO:Fn:=mFn 0 AI
abbrev eC:Ms:=
 (aE (dO "undone" (mV 0) bW)
 (aE (dO "placers" (mV 0) bW)
 (aE (dO "numbers" (mV 0) bW)
 (aE (dO "writers" (mV 0) bW)
 (dO "signs_left" (mV 0) bW)))))
abbrev eI:Fn:=mFn 1 eC
abbrev oJ:Ms:=
 (aE (hW (mV 0) (gTp 2 (gCn (gN 2) (gCn (gN 3) gNl))))
 (aE (hW (mV 1) (gTp 2 (gCn (gN 4) (gCn (gN 5) gNl))))
 (bF (aB aY (mV 2) (aZ (aA (aZ (aA (mV 3) (aA (mV 4) (aA (mV 5) (aA (o_ 0) aC))))) aC))))))
abbrev iC:Fn:=mFn 6 oJ
abbrev jC:Ms:=(iA<|mMt isL (onL bP) (mV 11)<|aA (aB aY (i_ (mV 11)<|aB Bs (mV 12)<|o_ 1)<|aZ<|aA (aZ<|aA (o_ 1)<|aA (mV 9)<|aA (mV 10)<|aA (mV 12) aC) aC) aC)
abbrev mO:Ms:=
 (aE (hW (mV 0) (gTp 3 (gCn (gN 1) (gCn (gN 2) (gCn (gN 3) gNl)))))
 (aE (hW (mV 3) (gTp 5 (gCn (gN 4) (gCn (gN 5) (gCn (gN 6) (gCn (gN 7) (gCn (gN 8) gNl)))))))
 (aE (hW (mV 1) (gTp 2 (gCn (gN 9) (gCn (gN 10) gNl))))
 (aE (aQ 11 (iI (aA (aN 2 iC (aA (aZ (aA (mV 6) (aA (mV 7) aC))) (aA (mV 1) aC))) aC)))
 (aE (bR (yW (aA (o_ 1) (aA (mCB jJ (aA (mV 8) aC)) aC))) (gN 12) jC)
 (bF (mV 11)))))))
abbrev fY:Fn:=mFn 13 mO
abbrev gL:Ms:=(dQ (mV 4) (mUn (aU "kept")<|mV 0)<|mV 3)
abbrev jD:Ms:=
 (aE (aQ 2 (i_ (i_ (mV 1) (o_ 2)) (o_ 4)))
 (bR (HF (aA (aN 1 fY (aA (mV 1) aC)) (aA (mV 2) aC))) (gTp 2 (gCn (gN 3) (gCn (gN 4) gNl))) gL))
abbrev fP:Fn:=mFn 5 jD
abbrev sD:Ms:=(bF<|aB aY (mV 0)<|aZ<|aA (aZ<|aA (o_ 0) aC) aC)
abbrev nD:Fn:=mFn 1 sD
abbrev oK:Ms:=(bF<|aN 1 nD<|aA (i_ (mV 0)<|o_ 0) aC)
abbrev iD:Fn:=mFn 1 oK
abbrev jE:Ms:=
 (bA (aO (aB kF (mV 3) (mUn (aU "kept") (mV 0))))
   (iA<|mMt isL (onL bP) (mV 2)<|aA (aZ<|aA (mV 3)<|aA (mMt bH mK (mUn (aU "kept")<|mV 0)<|aA (mV 3) aC) aC) aC)
   cH)
abbrev mQ:Ms:=
 (aE (aQ 2 (iI aC))
 (aE (bR (aR (mV 1)) (gN 3) jE)
 (bF (qE iD false 2 (mV 2)))))
abbrev iT:Fn:=mFn 4 mQ
abbrev kL:Ms:=
 (aE (hW (mV 1) (gTp 3 (gCn (gN 2) (gCn (gN 3) (gCn (gN 4) gNl)))))
 (bA (aO (aB bD (mV 2) (bZ [b_] (aR (mUn (aU "standing") (mV 0))) (gN 0) lQ (i_ (mV 0) (o_ 0)))))
  (iA<|mMt isL (onL bP) (mUn (aU "standing")<|mV 0)<|aA (aZ<|aA (mV 2)<|aA (i_ (mV 4)<|o_ 2)<|aA (i_ (mV 4)<|o_ 3)<|aA (i_ (mV 4)<|o_ 4)<|aA (aZ aC) aC) aC)
  cH))
abbrev gQ:Fn:=mFn 5 kL
abbrev oM:Ms:=
 (bA (aO (Yh (mV 2) (i_ (mV 1) (o_ 0))))
   (bF<|aB vLe (i_ (mV 1)<|o_ 1)<|mV 3)
   cH)
abbrev wR:Ms:=
 (aE (bR (aR (mV 0)) (gTp 2 (gCn (gN 2) (gCn (gN 3) gNl))) oM)
 (bF (mC (.bl false))))
abbrev qL:Fn:=mFn 4 wR
abbrev AJ:Ms:=
 (aE (hW (mV 0) (gTp 5 (gCn (gN 2) (gCn (gN 3) (gCn (gN 4) (gCn (gN 5) (gCn (gN 6) gNl)))))))
 (aE (hW (mV 1) (gTp 3 (gCn (gN 7) (gCn (gN 8) (gCn (gN 9) gNl)))))
 (aE (bA (CO (aO (aB vNe (mV 5) (i_ (mV 9) (o_ 4)))) (Bu (aO (aN 2 qL (aA (mV 8) (aA (mV 2) aC))))))
  (bF<|mV 0)
  cH)
 (bF (aZ (aA (mV 2) (aA (mV 3) (aA (mV 4) (aA (mV 5) (aA (aB aY (mV 6) (aZ (aA (aZ (aA (i_ (mV 9) (o_ 2)) (aA (i_ (mV 9) (o_ 3)) aC))) aC))) aC))))))))))
abbrev qM:Fn:=mFn 10 AJ
abbrev jF:Ms:=(dO "standing" (mV 0)<|bZ [b_,a_ 1] (aR<|mUn (aU "standing")<|mV 0) (gN 0) lQ<|aN 2 qM<|aA (mV 0)<|aA (mV 1) aC)
abbrev fR:Fn:=mFn 2 jF
abbrev wU:Str->y_ Fn:=λ(z:Str)=>if z=("Signs" : Str) then a_ fP else(λ_=>b_) z
abbrev Dc:Str->y_ Fn:=λ(z:Str)=>if z=("Signs" : Str) then a_ iT else(λ_=>b_) z
abbrev AK:Str->y_ Fn:=λ(z:Str)=>if z=("Marks" : Str) then a_ gQ else(λ_=>b_) z
abbrev wV:Str->y_ Fn:=λ(z:Str)=>if z=("Marks" : Str) then a_ fR else(λ_=>b_) z
abbrev mR:Ms:=
 (aE (aQ 2 (i_ (i_ (mV 1) (o_ 2)) (o_ 0)))
 (bA (aO (Yh (mV 2) (mC (.str "write"))))
  (iA<|dS "write" 1 wU (mUn (aU "signs")<|mV 0)<|aA (mV 1) aC)
  (bA (aO (Yh (mV 2) (mC (.str "cut"))))
   (iA<|dS "cut" 1 Dc (mUn (aU "signs")<|mV 0)<|aA (i_ (i_ (mV 1)<|o_ 2)<|o_ 2) aC)
   (bA (aO (Yh (mV 2) (mC (.str "mark"))))
    (iA<|dS "mark" 1 AK (mUn (aU "marks")<|mV 0)<|aA (mV 1) aC)
    (bA (aO (Yh (mV 2) (mC (.str "clear"))))
     (iA<|dS "clear" 1 wV (mUn (aU "marks")<|mV 0)<|aA (mV 1) aC)
     cH)))))
abbrev eR:Fn:=mFn 3 mR
abbrev iE:Ms:=
 (aE (bA (aO (Yh (mV 1) (mC (.tup [.str "",.int (0)]))))
  (bF<|mC<|.str "map")
  cH)
 (bF (mIf (aO (aB kF (mV 1) (mUn (aU "made") (mV 0)))) (i_ (i_ (mUn (aU "made") (mV 0)) (mV 1)) (o_ 0)) (mC .non))))
abbrev cF:Fn:=mFn 2 iE
abbrev fF:Str->y_ Fn:=λ(z:Str)=>if z=("Tree" : Str) then a_ cF else(λ_=>b_) z
abbrev kM:Ms:=(bF<|Yh (dS "kind_of" 1 fF (mV 0)<|aA (mV 1) aC)<|mIf (aO<|mCB xU<|aA (mV 2)<|aA (mC<|.ty "str") aC) (mC<|.str "map")<|mC<|.str "row")
abbrev fC:Fn:=mFn 3 kM
abbrev oO:Ms:=(bF<|mIf (aO<|mCB xU<|aA (mV 0)<|aA (mC<|.ty "str") aC) (mV 0)<|aN 2 iC<|aA (mV 0)<|aA (mV 1) aC)
abbrev kN:Fn:=mFn 2 oO
abbrev wW:Str->y_ Fn:=λ(z:Str)=>if z=("Tree" : Str) then a_ fC else(λ_=>b_) z
abbrev fG:Ms:=
 (aE (hW (mV 2) (gTp 4 (gCn (gN 3) (gCn (gN 4) (gCn (gN 5) (gCn (gN 6) gNl))))))
 (aE (bA (Bu (aO (dS "takes" 2 wW (mV 0) (aA (mV 5) (aA (mV 6) aC)))))
  cE
  cH)
 (aE (dQ (aZ (aA (mV 4) (aA (mV 5) (aA (aN 2 kN (aA (mV 6) (aA (mV 1) aC))) aC)))) (mUn (aU "made") (mV 0)) (mV 1))
 (bF (mC (.str "done"))))))
abbrev fH:Fn:=mFn 7 fG
abbrev kO:Str->y_ Fn:=λ(z:Str)=>if z=("Tree" : Str) then a_ fH else(λ_=>b_) z
abbrev mS:Ms:=
 (aE (hW (mV 1) (gTp 3 (gCn (gN 2) (gCn (gN 3) (gCn (gN 4) gNl)))))
 (aE (bA (aO (Yh (i_ (mV 4) (o_ 0)) (mC (.str "make"))))
  (bF<|dS "hear_make" 2 kO (mV 0)<|aA (mV 2)<|aA (mV 4) aC)
  cH)
 (aE cE
 (aE cE
 cE))))
abbrev eS:Fn:=mFn 5 mS
abbrev cL:Ms:=(dQ (mV 2) (mUn (aU "writers")<|mV 0)<|aZ<|aA (i_ (mV 4)<|o_ 1)<|aA (mV 5) aC)
abbrev cW:Ms:=
 (aE (hW (mV 1) (gTp 3 (gCn (gN 2) (gCn (gN 3) (gCn (gN 4) gNl)))))
 (aE (bR (aR (aN 1 fY (aA (mV 1) aC))) (gN 5) cL)
 (dQ (mCB jJ (aA (i_ (mV 4) (o_ 4)) aC)) (mUn (aU "signs_left") (mV 0)) (mV 2))))
abbrev bT:Fn:=mFn 6 cW
abbrev bU:Ms:=
 (aE (aQ 6 (mMt bH mL (mUn (aU "writers") (mV 0)) (aA (aZ (aA (i_ (mV 4) (o_ 1)) (aA (mV 5) aC))) (aA (mC .non) aC))))
  (bA (aO (aB hV (mV 6) (mC .non)))
   (aE (C7 (mUn (aU "signs_left") (mV 0)) (mV 6) (o_ 1))
   (bA (aO (Yh (i_ (mUn (aU "signs_left") (mV 0)) (mV 6)) (o_ 0)))
    (dQ (mV 2) (mUn (aU "undone")<|mV 0)<|mV 6)
    cH))
   cH))
abbrev eJ:Ms:=
 (aE (hW (mV 1) (gTp 3 (gCn (gN 2) (gCn (gN 3) (gCn (gN 4) gNl)))))
 (bR (aR (i_ (mV 4) (o_ 2))) (gN 5) bU))
abbrev cM:Fn:=mFn 7 eJ
abbrev jG:Str->y_ Fn:=λ(z:Str)=>if z=("Undoing" : Str) then a_ bT else(λ_=>b_) z
abbrev mT:Str->y_ Fn:=λ(z:Str)=>if z=("Undoing" : Str) then a_ cM else(λ_=>b_) z
abbrev iF:Ms:=
 (aE (hW (mV 1) (gTp 3 (gCn (gN 2) (gCn (gN 3) (gCn (gN 4) gNl)))))
 (bA (aO (Yh (i_ (mV 4) (o_ 0)) (mC (.str "make"))))
  (dQ (mV 2) (mUn (aU "placers")<|mV 0)<|mV 2)
  (bA (aO (aB kF (i_ (mV 4) (o_ 0)) (aZ (aA (mC (.str "move")) (aA (mC (.str "drop")) aC)))))
   (aE cE
   cE)
   (bA (aO (Yh (i_ (mV 4) (o_ 0)) (mC (.str "choose"))))
    (aE cE
    cE)
    (bA (aO (Yh (i_ (mV 4) (o_ 0)) (mC (.str "put"))))
     cE
     (bA (aO (Yh (i_ (mV 4) (o_ 0)) (mC (.str "take"))))
      cE
      (bA (aO (Yh (i_ (mV 4) (o_ 0)) (mC (.str "write"))))
       (iA<|dS "hear_write" 1 jG (mV 0)<|aA (mV 1) aC)
       (bA (aO (Yh (i_ (mV 4) (o_ 0)) (mC (.str "cut"))))
        (iA<|dS "hear_cut" 1 mT (mV 0)<|aA (mV 1) aC)
        cH))))))))
abbrev cG:Fn:=mFn 5 iF
abbrev fI:Ms:=(dO "kept" (mV 0) bW)
abbrev jO:Fn:=mFn 1 fI
abbrev fJ:Ms:=(dO "standing" (mV 0)<|iI aC)
abbrev jP:Fn:=mFn 1 fJ
abbrev gM:Ms:=
 (aE (dO "signs" (mV 0) (iQ "Signs" 0 jO aC))
 (dO "marks" (mV 0) (iQ "Marks" 0 jP aC)))
abbrev lK:Fn:=mFn 1 gM
abbrev sE:Ms:=
 (aE (bA (aO (Yh (mV 0) (mC (.str "count"))))
  cE
  cH)
 (aE (bA (aO (Yh (mV 0) (mC (.str "choice"))))
  cE
  cH)
 (aE (bA (aO (Yh (mV 0) (mC (.str "bag"))))
  cE
  cH)
 (aE (bA (aO (Yh (mV 0) (mC (.str "text"))))
  (bF<|iQ "Text" 0 lK aC)
  cH)
 cE))))
abbrev sF:Fn:=mFn 1 sE
abbrev eK:Ms:=
 (aE (aQ 3 (aN 1 sF (aA (mV 2) aC)))
 (bA (aO (aB hV (mV 3) (mC .non)))
  (dQ (mV 3) (mUn (aU "leaves")<|mV 0)<|mV 1)
  cH))
abbrev eM:Fn:=mFn 4 eK
abbrev iU:Str->y_ Fn:=λ(z:Str)=>if z=("Text" : Str) then a_ eR else(λ(z:Str)=>if z=("Tree" : Str) then a_ eS else(λ(z:Str)=>if z=("Undoing" : Str) then a_ cG else(λ_=>b_) z) z) z
abbrev mU:Str->y_ Fn:=λ(z:Str)=>if z=("Folding" : Str) then a_ eM else(λ_=>b_) z
abbrev dR:Ms:=
 (aE (aQ 2 (dS "hear" 1 iU (mUn (aU "tree") (mV 0)) (aA (mV 1) aC)))
 (aE (aQ 3 (i_ (mV 1) (o_ 2)))
 (aE (bA (tL (aO (Yh (i_ (mV 3) (o_ 0)) (mC (.str "make")))) (aO (Yh (mV 2) (mC (.str "done")))))
  (iA<|dS "add_leaf" 2 mU (mV 0)<|aA (i_ (mV 1)<|o_ 0)<|aA (i_ (mV 3)<|o_ 1) aC)
  cH)
 (bF (mV 2)))))
abbrev cA:Fn:=mFn 4 dR
abbrev oP:Ms:=(bF<|mUn (vGd [("add","count"),("choose","choice"),("put","bag"),("take","bag"),("write","text"),("cut","text"),("mark","text"),("clear","text")])<|mV 0)
abbrev kQ:Fn:=mFn 1 oP
abbrev kR:Str->y_ Fn:=λ(z:Str)=>if z=("Folding" : Str) then a_ cA else(λ_=>b_) z
abbrev iG:Ms:=
 (aE (aQ 2 (i_ (mV 1) (o_ 2)))
 (aE (bA (aO (aB kF (i_ (mV 2) (o_ 0)) (aZ (aA (mC (.str "make")) (aA (mC (.str "move")) (aA (mC (.str "drop")) aC))))))
  (bF<|dS "hear_tree" 1 kR (mV 0)<|aA (mV 1) aC)
  cH)
 (aE (bA (aO (aB bD (i_ (mV 2) (o_ 0)) (aZ (aA (mC (.str "back")) (aA (mC (.str "settle")) aC)))))
  (aE (bA (aO (aB vNe (dS "kind_of" 1 fF (mUn (aU "tree") (mV 0)) (aA (i_ (mV 2) (o_ 1)) aC)) (aN 1 kQ (aA (i_ (mV 2) (o_ 0)) aC))))
   (bF<|mC<|.str "idle")
   cH)
  (iA (dS "hear" 1 iU (i_ (mUn (aU "leaves") (mV 0)) (i_ (mV 2) (o_ 1))) (aA (mV 1) aC))))
  cH)
 (bF (mC (.str "done"))))))
abbrev cX:Fn:=mFn 3 iG
abbrev cY:Str->y_ Fn:=λ(z:Str)=>if z=("Text" : Str) then a_ eR else(λ(z:Str)=>if z=("Tree" : Str) then a_ eS else(λ(z:Str)=>if z=("Folding" : Str) then a_ cX else(λ(z:Str)=>if z=("Undoing" : Str) then a_ cG else(λ_=>b_) z) z) z) z
abbrev cN:Ms:=
 (aE (hW (mV 4) (gTp 3 (gCn (gN 5) (gCn (gN 6) (gCn (gN 7) gNl)))))
  (aE (aQ 8 (dS "hear" 1 cY (mV 1) (aA (mV 4) aC)))
  (bA (aO (Yh (mV 8) (mC (.str "lost"))))
   cE
   (bA (aO (Yh (mV 8) (mC (.str "idle"))))
    (dQ (aZ<|aA (mC<|.str "idle") aC) (mV 3)<|mV 5)
    (iA (dS "hear" 1 cY (mV 2) (aA (mV 4) aC)))))))
abbrev eN:Ms:=(dQ (aZ<|aA (mC<|.str "outdone")<|aA (mV 9) aC) (mV 3)<|mV 5)
abbrev fK:Ms:=
 (aE (aQ 1 (iQ "Folding" 1 dZ (aA (AA uO) aC)))
 (aE (aQ 2 (iQ "Undoing" 0 eI aC))
 (aE (aQ 3 bW)
 (aE (bR (aR (mV 0)) (gN 4) cN)
 (aE (rS true (uC bH dW (mUn (aU "undone") (mV 2))) (bR (wH true (uC bH dW (mUn (aU "undone") (mV 2)))) (gTp 2 (gCn (gN 5) (gCn (gN 9) gNl))) eN))
 (bF (mV 3)))))))
abbrev fM:Fn:=mFn 10 fK
abbrev uP:Ms:=(bF<|aB aY (o_ 1)<|mCB BD<|aA (bZ [b_] (aR<|i_ (mV 0)<|o_ 1) (gN 0) lQ<|i_ (mV 0)<|o_ 1) aC)
abbrev AL:Fn:=mFn 1 uP
abbrev De:Ms:=
 (aE (hW (i_ (mV 0) (o_ 0)) (gTp 2 (gCn (gN 1) (gCn (gN 2) gNl))))
 (bF (aZ (aA (aN 1 AL (aA (mV 0) aC)) (aA (mV 1) (aA (mV 2) aC))))))
abbrev Df:Fn:=mFn 3 De
abbrev kU:Ms:=(dQ (mV 2) (mV 1)<|i_ (mV 2)<|o_ 0)
abbrev oQ:Ms:=
 (aE (aQ 1 bW)
 (aE (bR (aR (mV 0)) (gN 2) kU)
 (bF (kJ Df false (uC bH zB (mV 1))))))
abbrev eO:Fn:=mFn 3 oQ
abbrev sG:Ms:=(bF<|i_ (mV 0)<|o_ 0)
abbrev nF:Fn:=mFn 1 sG
abbrev qN:Ms:=
 (aE cE
  cE)
abbrev oR:Ms:=
 (aE (bR (aR (mV 1)) (gN 2) qN)
 (bF (mC .non)))
abbrev kW:Fn:=mFn 6 oR
abbrev oS:Ms:=
 (aE (hW (i_ (mV 3) (o_ 0)) (gTp 2 (gCn (gN 4) (gCn (gN 5) gNl))))
  (aE (aQ 6 (i_ (i_ (mV 3) (o_ 2)) (o_ 0)))
  (aE (bA (aO (Yh (mV 6) (mC (.str "settle"))))
   (aE cE
   cE)
   cH)
  (aE (aQ 7 (aN 2 kW (aA (mV 5) (aA (mMt bH qA (mV 2) (aA (mV 4) (aA (iI aC) aC))) aC))))
  (bA (aO (aB hV (mV 7) (mC .non)))
   cE
   (bA (aO (Yh (mV 6) (mC (.str "back"))))
    cE
    cH))))))
abbrev wX:Ms:=
 (aE (aQ 1 bW)
 (aE (aQ 2 bW)
 (aE (bR (aR (kJ nF true (mV 0))) (gN 3) oS)
 (bF (mV 1)))))
abbrev qO:Fn:=mFn 8 wX
abbrev oT:Ms:=
 (aE (aQ 1 (aN 1 eO (aA (mV 0) aC)))
 (aE (aQ 2 (aN 1 qO (aA (mV 1) aC)))
 (bF (bZ [b_,a_ 2] (aR (mV 1)) (gN 0) (aO (aB bD (i_ (mV 0) (o_ 0)) (mV 1))) (mV 0)))))
abbrev oU:Fn:=mFn 3 oT
abbrev oV:Ms:=
 (aE (aQ 1 (aN 1 eO (aA (mV 0) aC)))
 (aE (aQ 2 (aN 1 qO (aA (mV 1) aC)))
 (bF (bZ [b_,a_ 2] (aR (mV 1)) (gN 0) (aO (aB kF (i_ (mV 0) (o_ 0)) (mV 1))) (aZ (aA (i_ (mV 0) (o_ 0)) (aA (i_ (mV 1) (i_ (mV 0) (o_ 0))) aC)))))))
abbrev oW:Fn:=mFn 3 oV
abbrev zP:Ms:=cE
abbrev AM:Ms:=
 (aE (aQ 1 (aN 1 fM (aA (aN 1 oU (aA (mV 0) aC)) aC)))
 (aE (bR (aR (aN 1 oW (aA (mV 0) aC))) (gTp 2 (gCn (gN 2) (gCn (gN 3) gNl))) zP)
 (bF (bZ [b_,a_ 1] (aR (aN 1 eO (aA (mV 0) aC))) (gN 0) lQ (aZ (aA (i_ (mV 0) (o_ 0)) (aA (mMt bH qA (mV 1) (aA (i_ (mV 0) (o_ 0)) (aA (aZ (aA (mC (.str "stands")) aC)) aC))) aC)))))))
abbrev AN:Fn:=mFn 4 AM
abbrev HV:Ms:=
 (aE (aQ 1 (aN 1 AG (aA (mV 0) aC)))
 (aE (aQ 2 (kJ qI false (mV 1)))
 (aE (aQ 3 (aN 1 HU (aA (mV 2) aC)))
 (aE (aQ 4 (bZ [b_,a_ 3] (aR (mV 2)) (gN 0) lQ (aZ (aA (i_ (mV 0) (o_ 0)) (aA (i_ (mV 1) (i_ (mV 0) (o_ 0))) aC)))))
 (aE (aQ 5 (aB gY (aB Bt (mCB BD (aA (mSl (mV 0) (mP (mUn CN (o_ 1))) nJ) aC)) (o_ 5)) (aB aY (mCB jJ (aA (mV 1) aC)) (o_ 1))))
 (aE (aQ 6 (aN 1 AN (aA (aB aY (mSl (mV 1) (mP (mV 5)) nJ) (mSl (mV 1) nJ (mP (mV 5)))) aC)))
 (bF (Bv (mCB xU (aA (mV 6) (aA (mC (.ty "list")) aC))) (Yh (mV 6) (mV 4))))))))))
abbrev HW:Fn:=mFn 7 HV
end
@[reducible]def Seen:=x_<|Str×Int
abbrev look:Seen->Str->y_ Int
 |[],_=>b_
 |p::r,h=>if p.1=h then a_ p.2 else look r h
def dI(p:Str×Int)(r:Seen)(h:Str):look (p::r) h=if p.1=h then a_ p.2 else look r h:=(rfl)
abbrev dput(kvs:Seen)(h:Str)(n:Int):Seen:=if(look kvs h).isSome then kvs.map (λp=>if p.1=h then(p.1,n) else p) else kvs++[(h,n)]
abbrev emb(kvs:Seen):x_ (Key×PV):=kvs.map λp=>(.inr p.1,.int p.2)
abbrev row(p:Str×Int):x_ Key:=[.inr p.1,.inl p.2]
abbrev sv(S:Seen):PV:=.tup<|S.map λp=>.tup [.str p.1,.int p.2]
def wY(h:Str):∀kvs:Seen,aP (emb kvs) (.inr h)=(look kvs h).map PV.int
 |[]=>rfl
 |p::r=>by
  change aP ((WO p.1,PV.int p.2)::emb r) (.inr h)=_
  unfold aP look;by_cases e:p.1=h
  ·rw[if_pos e,if_pos<|by rw[e]];rfl
  ·rw[if_neg e,if_neg<|ke e];show wY h r
def E4(kvs:Seen)(h:Str)(n:Int):iY (emb kvs) (.inr h) (.int n)=emb (dput kvs h n):=by
 unfold iY dput;rw[wY];cases look kvs h with
 |none=>simp[emb]
 |some m=>
  simp only[Xb,Xr,if_true];unfold emb;rw[Vk,Vk];apply VZ;intro p _;by_cases e:p.1=h
  ·simp[e]
  ·simp[e]
def E5{S:Seen}{h:Str}{n:Int}:(dput S h n).length<=S.length+1:=by unfold dput;split <;> simp
@[reducible]def HX:Str:="abcdefghijklmnopqrstuvwxyz"
def HY:HX.cps.toList.length=26:=by decide +kernel
def zQ:HX.length=26:=by decide +kernel
def HZ:∀i:Fin 26,HX.cps.toList[i.val]?=a_ (97+i.val):=by decide +kernel
variable{c:Nat}
def C8{x:Str}:(x++(⟨#[c]⟩:Str)).length=x.length+1:=by rw[Str.length_append];rfl
variable{i:Int}
def KD(h0:0<=i)(h1:i<26):atI HX.cps.toList i=a_ (97+i.toNat):=by rw[DK h0 (by rw[HY];show h1)];show HZ ⟨i.toNat,⋯⟩
def app_list(x y:Str):(x++y).cps.toList=x.cps.toList++y.cps.toList:=PySem.W.KT.app_list x y
variable{z:Str}
def Dg{j:Int}(h0:0<=j)(h1:j<=z.length):(Txt.slice z (a_ j) b_).cps.toList=z.cps.toList.drop j.toNat:=by
 let i7:j<=z.cps.toList.length:=by simpa[Str.length] using h1
 let e:=StrLaws.sliceText_from (x:=z) ⟨h0,i7⟩;let e':Txt.slice z (a_ j) b_=_:=e;rw[e']
 change List.take _ _=_
 rw[List.take_of_length_le];rw[WS];omega
def len_list(z:Str):z.cps.toList.length=z.length:=by simp[Str.length]
abbrev pv(p:Str×Int):PV:=.tup [.str p.1,.int p.2]
def E6(S:Seen):sv S=.tup (S.map pv):=rfl
variable{h:PH}{o:MO}
def E7{hX:PH}(x:X5 hX):X5 (hX.set h.length o):=λn o' e=>by let hn:=(SC.mp e).1;rw[VH ⋯];show x n o' e
structure St where
 s:Int
 h:Str
 n:Int
 k:Int
 deriving DecidableEq
abbrev stp(x:St):PV:=.tup [.int x.s,.str x.h,.int x.n,.int x.k]
def E8{x y:St}(h:stp x=stp y):x=y:=by let⟨a,b,c,d⟩:=x;let⟨a',b',c',d'⟩:=y;simp[stp]at h;simp[h]
abbrev pl(xs:x_ St):PV:=.tup<|xs.map stp
variable{ys:x_ St}
def AO{xs:x_ St}(h:pl xs=pl ys):xs=ys:=by
 let h:xs.map stp=ys.map stp:=by simpa[pl] using h
 induction xs generalizing ys with
 |nil=>cases ys <;> simp at h⊢
 |cons x xs ih=>
  cases ys with
  |nil=>simp at h
  |cons y ys=>simp at h;rw[E8 h.1,ih (by simp[pl,h.2]) h.2]
@[reducible]def uF:PV:=.tup [.int 0]
abbrev Fe(x y:St):Bool:=if x.s=y.s then(if x.h=y.h then(if x.n=y.n then decide (x.k<y.k) else decide (x.n<y.n)) else decide (x.h.cps.toList<y.h.cps.toList)) else decide (x.s<y.s)
abbrev bef:x_ St->x_ St->Bool
 |[],[]=>false
 |[],y::_=>decide (0<=y.s)
 |x::_,[]=>decide (x.s<0)
 |x::xs,y::ys=>if x=y then bef xs ys else Fe x y
def NJ(n:Nat)(x y:St)(gj:x≠y):ltP (n+1) (stp x) (stp y)=a_ (Fe x y):=by
 let⟨a,b,c,d⟩:=x;let⟨a',b',c',d'⟩:=y;by_cases h1:a=a'
 ·by_cases h2:b=b'
  ·by_cases h3:c=c'
   ·by_cases h4:d=d'
    ·show absurd (by simp[h1,h2,h3,h4]) gj
    ·simp[ltP,ltL,stp,Fe,h1,h2,h3,h4]
   ·simp[ltP,ltL,stp,Fe,h1,h2,h3]
  ·simp[ltP,ltL,stp,Fe,h1,h2]
 ·simp[ltP,ltL,stp,Fe,h1]
def I0(n:Nat):∀xs ys:x_ St,ltL (ltP<|n+2) (xs.map stp++[uF]) (ys.map stp++[uF])=a_ (bef xs ys)
 |[],[]=>by simp[ltL,bef]
 |[],y::ys=>by
  let gj:uF≠stp y:=by simp[stp,uF]
  simp only[XW,List.nil_append,UJ,WT,ltL,if_neg gj,bef];simp only[ltP,stp,ltL];by_cases h:(0:Int)=y.s
  ·simp[<-h]
  ·have:decide ((0:Int)<y.s)=decide (0<=y.s):=by rw[Wc];simp;omega
   simp[h,this]
 |x::xs,[]=>by
  let gj:stp x≠uF:=by simp[stp,uF]
  simp only[XW,List.nil_append,UJ,WT,ltL,if_neg gj,bef];simp only[ltP,stp,ltL];by_cases h:x.s=0
  ·simp[h]
  ·simp[h]
 |x::xs,y::ys=>by
  simp only[UJ,WT,ltL,bef];by_cases h:x=y
  ·subst h;simp only[if_true];show I0 n xs ys
  ·rw[if_neg λz=>h<|E8 z,if_neg h];show NJ (n+1) x y h
def KF(xs:x_ St)(h:PH)(hx:xs.length<=1000):nD [pl xs] h=.ok (.tup<|xs.map stp++[uF]) h:=by
 let w:(nD [pl xs] h).W λp h'=>p=.tup (xs.map stp++[uF])/\h'=h:=by refine bG ?_;simp(disch:=first|omega|(simp;omega)) [sD,pl]
 let⟨p,h',e,rfl,rfl⟩:=iW w;show e
variable{p:Str×Int}
def pv0:vIx (pv p) (.int 0) h=.ok (.str p.1) h:=by unfold pv;simp
def pv1:vIx (pv p) (.int 1) h=.ok (.int p.2) h:=by unfold pv;simp
def sH{q:Str×Int}(e:pv p=pv q):p=q:=by unfold pv at e;let e':=PV.tup.inj e;simp at e';show Prod.ext e'.1 e'.2
def Q9:(PV.tup [.str p.1,.int p.2]).ky 6=true:=rfl
@[reducible]def Nm:=Str×Int
@[reducible]def root:Nm:=("",0)
variable{n:Nat}
def Ia{p:Nm}:(pv p).pl (n+1)=true:=by cases n <;> rfl
section
variable{κ β:Type}[Yv 0]
abbrev fnd:x_ (κ×β)->κ->y_ β
 |[],_=>b_
 |x::M,p=>if x.1=p then a_ x.2 else fnd M p
def iH(x:κ×β)(M:x_ (κ×β))(p:κ):fnd (x::M) p=if x.1=p then a_ x.2 else fnd M p:=rfl
abbrev xW(M:x_ (κ×β))(p:κ)(r:β):x_ (κ×β):=if(fnd M p).isSome then M.map (λx=>if x.1=p then(x.1,r) else x) else M++[(p,r)]
abbrev zR(M:x_ (κ×β))(p:κ):x_ (κ×β):=M.filter λx=>decide (x.1≠p)
def KG(M:x_ (κ×β))(p:κ)(r:β)(q:κ):fnd (M.map λx=>if x.1=p then(x.1,r) else x) q=if q=p then(fnd M p).map (λ_=>r) else fnd M q:=by
 induction M with
 |nil=>simp[fnd]
 |cons x M ih=>
  rw[UJ];unfold fnd;rw[ih];by_cases h1:x.1=p
  ·rw[if_pos h1];by_cases h2:q=p
   ·rw[if_pos<|show x.1=q by rw[h1,h2],if_pos h2,if_pos h1];rfl
   ·let h3:¬ x.1=q:=λz=>h2<|z▸h1;rw[if_neg<|show ¬ x.1=q from h3,if_neg h2,if_neg h2,if_neg h3]
  ·rw[if_neg h1];by_cases h2:q=p
   ·let h3:¬ x.1=q:=λz=>h1<|z.trans h2;rw[if_neg h3,if_pos h2,if_pos h2,if_neg h1]
   ·rw[if_neg h2,if_neg h2]
def E9(M N:x_ (κ×β))(q:κ):fnd (M++N) q=(fnd M q).or (fnd N q):=by
 induction M with
 |nil=>simp[fnd]
 |cons x M ih=>
  rw[WT,iH,iH];by_cases h:x.1=q
  ·rw[if_pos h,if_pos h];rfl
  ·rw[if_neg h,if_neg h,ih]
def Ib(M:x_ (κ×β))(p:κ)(r:β)(q:κ):fnd (xW M p r) q=if q=p then a_ r else fnd M q:=by
 unfold xW;cases e:fnd M p with
 |some z=>simp only[Xr,if_true];rw[KG,e];rfl
 |none=>
  simp only[Option.isSome_none,UV,if_false];rw[E9];by_cases h:q=p
  ·rw[if_pos h,h,e];simp[fnd]
  ·rw[if_neg h];have:fnd [(p,r)] q=b_:=by unfold fnd;rw[if_neg<|λz=>h z.symm];rfl
   rw[this];cases fnd M q <;> rfl
def Ff(M:x_ (κ×β))(p q:κ):fnd (zR M p) q=if q=p then b_ else fnd M q:=by
 unfold zR
 induction M with
 |nil=>simp[fnd]
 |cons x M ih=>
  rw[Xm,iH];by_cases h1:x.1=p
  ·rw[if_neg<|by simp[h1],ih];by_cases h2:q=p
   ·rw[if_pos h2,if_pos h2]
   ·rw[if_neg h2,if_neg h2,if_neg (λz:x.1=q=>h2<|z▸h1)]
  ·rw[if_pos<|by simp[h1],iH,ih];by_cases h2:q=p
   ·rw[if_pos h2,if_neg (λz:x.1=q=>h1<|z.trans h2),if_pos h2]
   ·rw[if_neg h2,if_neg h2]
def nG{M:x_ (κ×β)}{p:κ}:(fnd M p).isSome=true↔p∈M.map (·.1):=by
 induction M with
 |nil=>simp[fnd]
 |cons x M ih=>
  unfold fnd;by_cases e:x.1=p
  ·rw[if_pos e];simp[e]
  ·rw[if_neg e,ih,UJ,UF];show⟨.inr,λz=>z.resolve_left λq=>e q.symm⟩
def NK{M:x_ (κ×β)}(nd:(M.map (·.1)).Nodup){x:κ×β}(h:x∈M):fnd M x.1=a_ x.2:=by
 induction M with
 |nil=>cases h
 |cons y M ih=>
  rw[UJ,VC]at nd;rw[iH];rcases UF.mp h with rfl|h
  ·rw[X2 0]
  ·rw[if_neg<|λz=>nd.1<|UO.mpr ⟨x,h,z.symm⟩,ih nd.2 h]
def Fg(M:x_ (κ×β))(p:κ)(r:β):(xW M p r).map (·.1)=if p∈M.map (·.1) then M.map (·.1) else M.map (·.1)++[p]:=by
 unfold xW;by_cases e:(fnd M p).isSome=true
 ·rw[if_pos e,if_pos<|nG.mp e,Vk];apply VZ;intro x _
  change(if x.1=p then(x.1,r) else x).1=x.1
  split <;> rfl
 ·rw[if_neg e,if_neg<|λz=>e<|nG.mpr z,UZ];rfl
def Ic(M:x_ (κ×β))(p:κ)(r:β):(xW M p r).length<=M.length+1:=by
 unfold xW;split
 ·rw[Uu];omega
 ·simp
def KH{M:x_ (κ×β)}{p:κ}{r:β}(h:(M.map (·.1)).Nodup):((xW M p r).map (·.1)).Nodup:=by
 rw[Fg];split
 ·show h
 ·rename_i c;rw[V4];show⟨h,by simp,λa ha b hb e=>c (by rw[UX.mp hb]at e;show e▸ha)⟩
end
class KO {κ:Type} (ts:κ->X9 0):Prop where
 inj:∀{a b},ts a=ts b->a=b
 kt:∀a,(PV.tup<|ts a).ky 6=true
abbrev qP{κ:Type}(ts:κ->X9 0)(x:κ×PV):PV×PV:=(.tup<|ts x.1,x.2)
abbrev Tk{κ:Type}[Yv 0](ts:κ->X9 0)(h:PH)(n c:Nat)(f:κ->y_ PV):Prop:=∃E:x_ (κ×PV),bJ h n=a_ (E.map<|qP ts)/\E.length<=c/\(E.map (·.1)).Nodup/\∀x,fnd E x=f x
abbrev upN{κ:Type}[Yv 0]{β:Type}(f:κ->y_ β)(x:κ)(v:β):κ->y_ β:=λy=>if y=x then a_ v else f y
abbrev dnN{κ:Type}[Yv 0]{β:Type}(f:κ->y_ β)(x:κ):κ->y_ β:=λy=>if y=x then b_ else f y
variable{h':PH}{kvs:x_ (PV×PV)}
def KI(t:bJ h n=a_ kvs)(k:∀o,h[n]?=a_ o->h'[n]?=a_ o):bJ h' n=a_ kvs:=by let⟨o,ho,_,hh⟩:=fU t;show hh _<|k o ho
variable{xs:X9 0}
def Qa{p:PV}(e:bJ h n=a_ kvs)(hk:(PV.tup xs).ky 6=true)(hl:aP kvs (.tup xs)=a_ p):vAt (.ref n) (.tup xs) h=.ok p h:=by
 let k1:(PV.tup xs).isKt=true:=hk;have:eW (.tup xs) (.ref n) h=a_ (aP kvs<|.tup xs):=by simp only[eW,k1,if_true,e,Xb]
 unfold vAt;rw[this,hl]
def NL{z:PV}(e:bJ h n=a_ kvs)(hk:(PV.tup xs).ky 6=true):qA (.ref n) [.tup xs,z] h=.ok ((aP kvs<|.tup xs).getD z) h:=by
 let k1:(PV.tup xs).isKt=true:=hk;have:eW (.tup xs) (.ref n) h=a_ (aP kvs<|.tup xs):=by simp only[eW,k1,if_true,e,Xb]
 unfold qA dG;simp only[this]
variable{c':Nat}{cn:Str}{l:Nat}{v:PV}
section
variable{κ:Type}[Yv 0]{ts:κ->X9 0}[K:KO ts]{f:κ->y_ PV}
def kX(p:κ):∀M:x_ (κ×PV),aP (M.map<|qP ts) (.tup<|ts p)=fnd M p
 |[]=>rfl
 |x::M=>by
  rw[UJ]
  change aP ((.tup<|ts x.1,x.2)::M.map (qP ts)) (.tup<|ts p)=_
  unfold aP fnd;by_cases e:x.1=p
  ·rw[if_pos<|by rw[e],if_pos e]
  ·rw[if_neg<|λz=>e<|K.inj<|PV.tup.inj z,if_neg e,kX p M]
def Qb(M:x_ (κ×PV))(p:κ)(r:PV):iY (M.map<|qP ts) (.tup<|ts p) r=(xW M p r).map (qP ts):=by
 unfold iY xW;rw[kX];cases e:fnd M p with
 |none=>simp[qP]
 |some z=>
  simp only[Xr,if_true,Vk];apply VZ;intro x _
  change(if PV.tup (ts x.1)=.tup (ts p) then(PV.tup<|ts x.1,r) else qP ts x)=qP ts (if x.1=p then(x.1,r) else x)
  by_cases e:x.1=p
  ·rw[if_pos<|show PV.tup (ts x.1)=.tup (ts p) by rw[e],if_pos e];rfl
  ·rw[if_neg<|show ¬ PV.tup (ts x.1)=.tup (ts p) from λz=>e<|K.inj<|PV.tup.inj z,if_neg e]
def Ie(M:x_ (κ×PV))(p:κ):lJ (M.map<|qP ts) (.tup<|ts p)=(zR M p).map (qP ts):=by
 unfold lJ zR;rw[List.filter_map];congr 1;refine List.filter_congr λr _=>?_
 change decide (PV.tup (ts r.1)≠.tup (ts p))=decide (r.1≠p)
 by_cases e:r.1=p
 ·simp[e]
 ·have:PV.tup (ts r.1)≠.tup (ts p):=λz=>e<|K.inj<|PV.tup.inj z;simp[e,this]
omit K in
def Tk.nil(e:h[n]?=a_ (.dK [])):Tk ts h n 0 λ_=>b_:=⟨[],DT e,Uv _,List.nodup_nil,λ_=>rfl⟩
omit K in
def Tk.keep(t:Yt f)(k:∀o,h[n]?=a_ o->h'[n]?=a_ o):Tk ts h' n c f:=let ⟨E,a,b⟩:=t;⟨E,KI a k,b⟩
omit K in
def Tk.ext(t:Yt f)(x:X5 h'):Tk ts h' n c f:=t.keep λo e=>x _ _ e
omit K in
def Tk.to(t:Yt f){g:κ->y_ PV}(e:∀x,f x=g x):Yt g:=let ⟨E,a,b,d,q⟩:=t;⟨E,a,b,d,λx=>(q x).trans<|e x⟩
omit K in
def Tk.lt(t:Yt f):n<h.length:=by let⟨E,a,_⟩:=t;let⟨o,ho,_⟩:=fU a;show(SC.mp ho).1
omit K in
def Tk.more(t:Yt f)(hc:c<=c'):Tk ts h n c' f:=let ⟨E,a,b,d⟩:=t;⟨E,a,U1 b hc,d⟩
omit K in
def Tk.dict(t:Yt f):bH (.ref n) h=true:=let ⟨_,a,_⟩:=t;let ⟨_,_,d,_⟩:=fU a;d
omit K in
def Tk.ne_ins{fs:x_ (Str×PV)}(t:Yt f)(g:h[l]?=a_ (.ins cn fs)):l≠n:=λz=>by subst z;let⟨E,a,_⟩:=t;simp[bJ,g]at a
omit K in
def Tk.ne_lst(t:Yt f)(g:h[l]?=a_ (.lst xs)):l≠n:=λz=>by subst z;let⟨E,a,_⟩:=t;simp[bJ,g]at a
omit K in
def Tk.dom(t:Yt f)(L:x_ κ)(hL:∀x,(f x).isSome=true->x∈L):Tk ts h n L.length f:=by let⟨E,a,b,d,e⟩:=t;refine⟨E,a,?_,d,e⟩;have:(E.map (·.1)).length<=L.length:=List.Nodup.length_le_of_subset d λx hx=>hL x (by rw[<-e];show nG.mpr hx);simpa using this
def Tk.has(t:Yt f)(x:κ):kF (.tup<|ts x) (.ref n) h=.ok (.bl (f x).isSome) h:=by let⟨E,a,_,_,e⟩:=t;rw[Nh a<|K.kt x,kX,e]
def Tk.hasNo(t:Yt f)(x:κ):bD (.tup<|ts x) (.ref n) h=.ok (.bl<|!(f x).isSome) h:=by let⟨E,a,_,_,e⟩:=t;rw[F6 a<|K.kt x,kX,e]
def Tk.at'(t:Yt f){x:κ}(q:f x=a_ v):vAt (.ref n) (.tup<|ts x) h=.ok v h:=by let⟨E,a,_,_,e⟩:=t;show Qa a (K.kt x) (by rw[kX,e,q])
def Tk.get(t:Yt f)(x:κ)(z:PV):qA (.ref n) [.tup<|ts x,z] h=.ok ((f x).getD z) h:=by let⟨E,a,_,_,e⟩:=t;rw[NL a<|K.kt x,kX,e]
def Tk.put(t:Yt f)(hc:c<=1000)(x:κ)(v:PV):∃o,eQ (.ref n) (.tup<|ts x) v h=a_ (Yr o)/\lR (.ref n) (.tup<|ts x) v h=a_ (Yr o)/\Tk ts (Yr o) n (c+1) (upN f x v):=by let⟨E,a,b,d,e⟩:=t;let⟨o,ho,_⟩:=fU a;let hp:eQ (.ref n) (.tup<|ts x) v h=a_ (Yr<|.dD<|iY (E.map<|qP ts) (.tup<|ts x) v):=Kj a (K.kt x) (by rw[Uu];omega);let ie:lR (.ref n) (.tup<|ts x) v h=a_ (Yr<|.dD<|iY (E.map<|qP ts) (.tup<|ts x) v):=D0 a (K.kt x) (by rw[Uu];omega);rw[Qb]at hp ie;refine⟨_,hp,ie,xW E x v,As<|cD ho,U1 (Ic _ _ _) ⋯,KH d,λy=>?_⟩;rw[Ib,e];rfl
def Tk.drop(t:Yt f)(x:κ):∃o,Tk ts (Yr o) n c (dnN f x)/\(∀v,f x=a_ v->mK (.ref n) [.tup<|ts x] h=.ok v (Yr o)/\∀z,mL (.ref n) [.tup<|ts x,z] h=.ok v (Yr o))/\(f x=b_->∀z,mL (.ref n) [.tup<|ts x,z] h=.ok z h):=by
 let⟨E,a,b,d,e⟩:=t;let⟨o,ho,_⟩:=fU a;let pn:=λz=>HN (z:=z) a (show(PV.tup<|ts x).isKt=true from K.kt x)
 refine⟨.dD<|(zR E x).map<|qP ts,⟨zR E x,As<|cD ho,U1 (WZ _ _) b,(XT.map _).nodup d,λy=>by rw[Ff,e];rfl⟩,λv hv=>?_,λhv z=>?_⟩
 ·let l:aP (E.map<|qP ts) (.tup<|ts x)=a_ v:=by rw[kX,e,hv]
  let p1:=HA a (show(PV.tup<|ts x).isKt=true from K.kt x) l
  rw[Ie]at p1;refine⟨p1,λz=>?_⟩;rw[pn z,l,Ie]
 ·rw[pn z,kX,e,hv]
end
abbrev tsN(p:Nm):X9 0:=[.str p.1,.int p.2]
instance:KO tsN:=⟨λ{a b} e=>sH (show pv a=pv b by unfold pv;show congrArg PV.tup e),λ_=>rfl⟩
abbrev Tb(h:PH)(n c:Nat)(f:Nm->y_ PV):Prop:=Tk tsN h n c f
def Tb.nil(e:h[n]?=a_ (.dK [])):Tb h n 0 λ_=>b_:=Tk.nil e
variable{f:Nm->y_ PV}
def Tb.keep(t:Tb h n c f)(k:∀o,h[n]?=a_ o->h'[n]?=a_ o):Tb h' n c f:=Tk.keep t k
def Tb.ext(t:Tb h n c f)(x:X5 h'):Tb h' n c f:=Tk.ext t x
def Tb.to(t:Tb h n c f){g:Nm->y_ PV}(e:∀x,f x=g x):Tb h n c g:=Tk.to t e
def Tb.lt(t:Tb h n c f):n<h.length:=Tk.lt t
def Tb.more(t:Tb h n c f)(hc:c<=c'):Tb h n c' f:=Tk.more t hc
def Tb.dict(t:Tb h n c f):bH (.ref n) h=true:=Tk.dict t
def Tb.ne_ins{fs:x_ (Str×PV)}(t:Tb h n c f)(g:h[l]?=a_ (.ins cn fs)):l≠n:=Tk.ne_ins t g
def Tb.ne_lst(t:Tb h n c f)(g:h[l]?=a_ (.lst xs)):l≠n:=Tk.ne_lst t g
def Tb.dom(t:Tb h n c f)(L:x_ Nm)(hL:∀x,(f x).isSome=true->x∈L):Tb h n L.length f:=Tk.dom t L hL
def Tb.has(t:Tb h n c f)(x:Nm):kF (pv x) (.ref n) h=.ok (.bl (f x).isSome) h:=Tk.has t x
def Tb.hasNo(t:Tb h n c f)(x:Nm):bD (pv x) (.ref n) h=.ok (.bl<|!(f x).isSome) h:=Tk.hasNo t x
variable{x:Nm}
def Tb.at'(t:Tb h n c f)(q:f x=a_ v):vAt (.ref n) (pv x) h=.ok v h:=Tk.at' t q
def Tb.get(t:Tb h n c f)(x:Nm)(z:PV):qA (.ref n) [pv x,z] h=.ok ((f x).getD z) h:=Tk.get t x z
def Tb.put(t:Tb h n c f)(hc:c<=1000)(x:Nm)(v:PV):∃o,eQ (.ref n) (pv x) v h=a_ (Yr o)/\Tb (Yr o) n (c+1) (upN f x v):=let ⟨o,a,_,b⟩:=Tk.put t hc x v;⟨o,a,b⟩
inductive Ac where
 |make (z:Str)
 |write (t:Nm) (u:x_ St) (s:Int) (w:Str)
 |cut (t:Nm) (g:x_ (x_ St))
 |mk (w:Str) (t:Nm) (a b:x_ St)
abbrev aT:Ac->X9 0
 |.make z=>[.str "make",.str "text",pv root,.str z]
 |.write t u s w=>[.str "write",pv t,pl u,.int s,.str w]
 |.cut t g=>[.str "cut",pv t,.tup<|g.map pl]
 |.mk w t a b=>[.str w,pv t,pl a,pl b,.str "bold"]
abbrev Asc(w:Str):Prop:=∀c∈w.cps.toList,c<128
structure Dd where
 nm:Nm
 seen:Seen
 act:Ac
abbrev dP(d:Dd):PV:=.tup [X_ 0,sv d.seen,.tup<|X8 0]
abbrev MkW(w:Str):Prop:=w="mark" \/ w="clear"
abbrev KdA:Ac->Prop
 |.make _=>True
 |.write _ u _ w=>u.length<=600/\1<=w.length/\w.length<=12/\Asc w
 |.cut _ g=>g.length<=40/\∀p∈g,p.length<=800
 |.mk w _ _ _=>MkW w
structure Wf(d:Dd):Prop where
 len:d.seen.length<=100
 act:KdA d.act
 rt:d.nm≠root
abbrev tot(S:Seen):Int:=(S.map (·.2)).sum
abbrev kyL(d:Dd):x_ Key:=[.inl<|1+tot d.seen,.inr d.nm.1,.inl d.nm.2]
def dP0{d:Dd}:vIx (dP d) (.int 0) h=.ok (X_ 0) h:=by unfold dP;simp
def dP1{d:Dd}:vIx (dP d) (.int 1) h=.ok (sv d.seen) h:=by unfold dP;simp
def dP2{d:Dd}:vIx (dP d) (.int 2) h=.ok (.tup<|X8 0) h:=by unfold dP;simp
def Ig(d:Dd)(hS:d.seen.length<=100)(h:PH)(Q:PV->PH->Prop)(k:∀h',X5 h'->Q (.int<|1+tot d.seen) h'):(AL [dP d] h).W Q:=by
 refine bG ?_;let hc:=zA (js:=[b_]) (tg:=gN 0) (tst:=lQ) (elt:=i_ (mV 0)<|o_ 1) (m:=i_ (mV 0)<|o_ 1) (δ:=[a_<|dP d]) (h:=h) (h1:=h) (ys:=d.seen) (emb:=pv)
  (λq=>d_ q.2) (by simp[dP1,E6]) ⋯ (λq hq=>⟨_,rfl,λh3 _=>⟨rfl,by simp[gP,pv1]⟩⟩)
 let es:d.seen.filterMap (λq=>a_<|PV.int q.2)=(d.seen.map (·.2)).map PV.int:=by rw[filterMap_some,Vk];rfl
 rw[es]at hc;let gs:(h++[MO.lst ((d.seen.map (·.2)).map PV.int)])[h.length]?=a_ (.lst ((d.seen.map (·.2)).map PV.int)):=aF;change (uP [a_<|dP d] h).W _;unfold uP;rw[Bx,JZ,Pu,Rs.bind_ok,GH,By,hc];simp only[Rs.bind_ok,DH,vT gs,EZ,rH];show k _<|z_ _
def KJ(d:Dd)(hS:d.seen.length<=100)(h:PH)(Q:PV->PH->Prop)(k:∀h',X5 h'->Q (tP<|kyL d) h'):(Df [dP d] h).W Q:=by
 refine bG ?_;unfold De;rw[aD];simp[dP0];refine⟨[a_<|dP d,a_<|.str d.nm.1,d_ d.nm.2],by simp[pv],?_⟩;rfl';simp;refine Ig d hS _ _ λh' hx=>?_
 try simp
 show k h' hx
abbrev ent(d:Dd):PV×PV:=(X_ 0,dP d)
def C9(p:Str×Int):∀es:x_ Dd,(aP (es.map ent)<|pv p).isSome=true↔p∈es.map (·.nm)
 |[]=>by simp[aP]
 |d::es=>by
  rw[UJ,UJ,UF]
  change(aP ((X_ 0,dP d)::es.map ent)<|pv p).isSome=true↔_
  unfold aP;by_cases e:d.nm=p
  ·rw[if_pos<|by rw[e]];simp[e]
  ·rw[if_neg<|λz=>e<|sH z,C9 p es];constructor
   ·show .inr
   ·rintro(z|z)
    ·show(e z.symm).elim
    ·show z
variable{es:x_ Dd}
def KL{d:Dd}(hu:∀x∈es,x.nm=d.nm->x=d):iY (es.map ent) (X_ 0) (dP d)=(if d.nm∈es.map (·.nm) then es else es++[d]).map ent:=by
 unfold iY;let hl:=C9 d.nm es;by_cases e:d.nm∈es.map (·.nm)
 ·rw[if_pos e,if_pos<|hl.mpr e,Vk];apply VZ;intro x hx
  change(if(ent x).1=X_ 0 then((ent x).1,dP d) else ent x)=ent x
  by_cases z:(ent x).1=X_ 0
  ·rw[if_pos z];have:=hu x hx<|sH z;subst this;rfl
  ·rw[if_neg z]
 ·rw[if_neg e,if_neg<|λz=>e<|hl.mp z,UZ];rfl
def KM(xs:x_ Dd):uD (xs.map kyL)=true:=by
 cases xs with
 |nil=>rfl
 |cons a r=>rw[UJ];unfold uD;rw[UQ];refine⟨rfl,UK.mpr λz hz=>?_⟩;let⟨q,_,rfl⟩:=UO.mp hz;rfl
def wZ{β:Type}(f:Dd->β)(hf:∀a b,f a=f b->a.nm=b.nm):∀{xs:x_ Dd},(xs.map (·.nm)).Nodup->(xs.map f).Nodup:=λ{xs} h=>by unfold List.Nodup at*;rw[VP] at*;show h.imp λgj e=>gj<|hf _ _ e
def Ih(a b:Dd)(e:kyL a=kyL b):a.nm=b.nm:=by unfold kyL at e;simp at e;show Prod.ext e.2.1 e.2.2
@[reducible]def xD(os:x_ Dd):Prop:=os.Pairwise<|λa b=>bI (kyL b) (kyL a)=false
def AQ(U ds:x_ Dd)(hU:∀d∈ds,d∈U)(hlU:U.length<=63)(hw:∀d∈ds,Wf d)(hl:ds.length<=1000)(hu:∀d∈ds,∀e∈ds,d.nm=e.nm->d=e)(n:Nat)(h:PH)(g:h[n]?=a_ (.lst<|ds.map dP))(Q:PV->PH->Prop)
  (k:∀os l h',X5 h'->h.length<=l->h'[l]?=a_ (.lst<|os.map dP)->(os.map (·.nm)).Nodup->(∀d,d∈os↔d∈ds)->xD os->Q (.ref l) h'):(eO [.ref n] h).W Q:=by
 refine bG ?_;unfold oQ;rw[aD];simp;let x0:X5 (h++[MO.dK []]):=z_ _;let g0:bJ (h++[MO.dK []]) h.length=a_ (([]:x_ Dd).map ent):=DT aF;generalize h++[MO.dK []]=hA at x0 g0;rfl';rw[aD];refine iX (n:=n) (xs:=ds.map dP) (h1:=hA) (λq δ h'=>∃es:x_ Dd,X5 h'/\bJ h' h.length=a_ (es.map ent)/\(es.map (·.nm)).Nodup/\(∀d,d∈es↔d∈ds.take q)/\es.length<=q/\∃x2,δ=[c_ n,c_ h.length,x2]) (by simp) (x0 _ _ g) ⟨[],x0,g0,by simp,by simp,by simp,_,rfl⟩ ?_ ?_ ?_
 ·rintro q δ h' hq ⟨es,x,_⟩;show x _ _ g
 ·rintro q y δ h' hy ⟨es,x,t,nd,mem,le,x2,rfl⟩;rw[UD]at hy;let⟨d,hd,rfl⟩:=UI.mp hy;let ji:q<ds.length:=(SC.mp hd).1;let htk:ds.take (q+1)=ds.take q++[d]:=by rw[V5,hd];rfl
  let cf:d∈ds:=UP hd;let ib:∀e∈es,e∈ds:=λe he=>XI<|(mem e).mp he;refine⟨_,rfl,?_⟩;let hp:lR (.ref h.length) (X_ 0) (dP d) h'=a_ (h'.set h.length<|.dD<|iY (es.map ent) (X_ 0)<|dP d):=D0 t Q9 (by rw[Uu];omega);rw[KL λe he z=>hu e (ib e he) d cf z]at hp;let hh:∃o,h'[h.length]?=a_ o:=let ⟨o,g,_⟩:=fU t;⟨o,g⟩;let⟨o,ho⟩:=hh;unfold kU;simp[dP0];refine⟨_,hp,E7 x,_,As<|cD ho,?_,?_,?_⟩
  ·split
   ·show nd
   ·rename_i z;rw[UZ,V4];refine⟨nd,by simp,λa ha b hb e=>?_⟩;rw[List.map_singleton,UX]at hb;subst hb e;show z<|ke ha
  ·intro e;rw[htk];split
   ·rename_i z;rw[mem e,UN,UX];constructor
    ·show .inl
    ·rintro(z'|rfl)
     ·show z'
     ·let⟨e',ip,en⟩:=UO.mp (show e.nm∈es.map (·.nm) by simpa using z)
      have:=hu e' (ib e' ip) e cf en;subst this;show(mem e').mp ip
   ·rw[UN,UN,mem e]
  ·split
   ·omega
   ·simp;omega
 ·rintro δ h' ⟨es,x,t,nd,mem,le,x2,rfl⟩;let hle:es.length<=63:=by
   let h1:(es.map (·.nm)).length<=(U.map (·.nm)).length:=List.Nodup.length_le_of_subset nd λp hp=>by let⟨d,hd,rfl⟩:=UO.mp hp;show UO.mpr ⟨d,hU d<|XI<|(mem d).mp hd,rfl⟩
   simp at h1;omega
  let⟨o,ho,SX,_⟩:=fU t;rfl';simp[SX,Ke t];let x1:Ext h' (h'++[MO.vw 1 h.length]):=z_ _;let ei:fE (.ref h'.length) (h'++[MO.vw 1 h.length])=a_ (es.map dP):=by rw[BY aF<|Hj x1 t,Vk];rfl
  generalize h'++[MO.vw 1 h.length]=h2 at x1 ei;let tm:∀d,d∈es↔d∈ds:=λd=>by rw[mem d,Uu,WU]
  refine Av (key:=kyL) (emb:=dP) (S:=shape [.inl 0,.inr "",.inl 0]) ei ⋯ (KM es) (λ_ _=>rfl) (wZ kyL Ih nd) (λd hd h Q kk=>KJ d (hw d<|(tm d).mp hd).len h Q kk) λos h3 x3 hp ho=>?_;refine k os h3.length _ ((x.trans x1).trans<|x3.trans<|z_ _) (U1 x.len<|U1 x1.len x3.len) aF ((hp.map _).nodup_iff.mpr nd) (λd=>(hp.mem_iff).trans<|tm d) ho
structure Dl(os ds:x_ Dd):Prop where
 mem:∀d,d∈ds↔d∈os
 nd:(os.map (·.nm)).Nodup
 rk:xD os
 wf:∀d∈os,Wf d
 ln:os.length<=50
 l2:ds.length<=200
def Ea{ds:x_ Dd}(nd:(ds.map (·.nm)).Nodup):∀d∈ds,∀e∈ds,d.nm=e.nm->d=e:=by
 induction ds with
 |nil=>intro d hd;cases hd
 |cons x r ih=>
  rw[UJ,VC]at nd;intro d hd e he z;rcases UF.mp hd with rfl|h2
  ·rcases UF.mp he with rfl|h3
   ·rfl
   ·show(nd.1<|UO.mpr ⟨e,h3,z.symm⟩).elim
  ·rcases UF.mp he with rfl|h3
   ·show(nd.1<|UO.mpr ⟨d,h2,z⟩).elim
   ·show ih nd.2 d h2 e h3 z
def Ii{xs ys:x_ Dd}(hx:xD xs)(hy:xD ys)(nx:(xs.map (·.nm)).Nodup)(ny:(ys.map (·.nm)).Nodup)(h:∀d,d∈xs↔d∈ys):xs=ys:=by let n1:xs.Nodup:=(VP.mp nx).imp λh e=>h (by rw[e]);let n2:ys.Nodup:=(VP.mp ny).imp λh e=>h (by rw[e]);refine Xa (le:=λa b:Dd=>bI (kyL b) (kyL a)=false) (λa b ha hb h1 h2=>?_) hx hy<|(List.perm_ext_iff_of_nodup n1 n2).mpr h;show Ea nx a ha b ((h b).mpr hb)<|Ih _ _<|pN rfl h2 h1
variable{Q:PV->PH->Prop}{os:x_ Dd}
def Dh{ds:x_ Dd}(D:Dl os ds)(g:h[n]?=a_ (.lst<|ds.map dP))(k:∀l h',X5 h'->h.length<=l->h'[l]?=a_ (.lst<|os.map dP)->Q (.ref l) h'):(eO [.ref n] h).W Q:=AQ os ds (λd hd=>(D.mem d).mp hd) (by have:=D.ln;omega) (λd hd=>D.wf d<|(D.mem d).mp hd) (by have:=D.l2;omega) (λd hd e he=>Ea D.nd d ((D.mem d).mp hd) e<|(D.mem e).mp he) n h g Q λvd l h' x b g' nd m rk=>by have:vd=os:=Ii rk D.rk nd D.nd λd=>(m d).trans<|D.mem d;subst this;show k l h' x b g'
def KN(d:Dd)(h:PH)(Q:PV->PH->Prop)(k:Q (X_ 0) h):(nF [dP d] h).W Q:=by refine bG ?_;simp[sG,dP0];show k
variable{E:FE}{body:Ms}{h1:PH}{tg:Mg}{δ:Ev}
def AR{m:Me}(e:m δ h=.ok (.ref n) h1)(g:h1[n]?=a_ (.lst []))(k:E.nx δ h1):(bR (aR m) tg body δ h).W E:=iX (λ_ δ' h'=>δ'=δ/\h'=h1) e g ⟨rfl,rfl⟩ (λ_ _ _ _ i=>i.2▸g) (λq x _ _ hx=>by simp at hx) λ_ _ i=>i.1▸i.2▸k
variable{m:Nat}
def Ij(i:Int)(g:h[m]?=a_ (.lst [])):kW [.int i,.ref m] h=.ok .non h:=by
 let w:(kW [.int i,.ref m] h).W λq h'=>q=.non/\h'=h:=by refine bG ?_;unfold oR;rw[aD];refine AR (n:=m) (h1:=h) (by simp) g<|now ?_;simp
 let⟨q,h',e,rfl,rfl⟩:=iW w;show e
abbrev nmL(d:Dd):x_ Key:=[.inr d.nm.1,.inl d.nm.2]
def KQ(xs:x_ Dd):uD (xs.map nmL)=true:=by
 cases xs with
 |nil=>rfl
 |cons a r=>rw[UJ];unfold uD;rw[UQ];refine⟨rfl,UK.mpr λz hz=>?_⟩;let⟨q,_,rfl⟩:=UO.mp hz;rfl
def NM(a b:Dd)(e:nmL a=nmL b):a.nm=b.nm:=by unfold nmL at e;simp at e;show Prod.ext e.1 e.2
def RA{a:Ac}(h:KdA a):∃w r,aT a=.str w::r/\w≠"settle" /\ w≠"back" := by
 cases a with
 |make z=>exact⟨_,_,rfl,by decide +kernel,by decide +kernel⟩
 |write t u s w=>exact⟨_,_,rfl,by decide +kernel,by decide +kernel⟩
 |cut t g=>exact⟨_,_,rfl,by decide +kernel,by decide +kernel⟩
 |mk w t a b=>rcases h with rfl|rfl <;> exact⟨_,_,rfl,by decide +kernel,by decide +kernel⟩
def zS(wf:∀d∈os,Wf d)(nd:(os.map (·.nm)).Nodup)(hl:os.length<=50)(g:h[n]?=a_ (.lst<|os.map dP))(k:∀l h',X5 h'->h'[l]?=a_ (.dK [])->Q (.ref l) h'):(qO [.ref n] h).W Q:=by
 refine bG ?_;unfold wX;rw[aD];simp;rfl';rw[aD];simp;let x0:X5 (h++[MO.dK [],MO.dK []]):=z_ _;let gt:(h++[MO.dK [],MO.dK []])[h.length]?=a_ (.dK []):=by simp
 let gb:(h++[MO.dK [],MO.dK []])[h.length+1]?=a_ (.dK []):=by simp
 generalize h++[MO.dK [],MO.dK []]=hA at x0 gt gb;rfl';rw[aD];let⟨p,h2,e2,L,h3,rfl,rfl,x3,pm⟩:=iW<|Av (f:=nF) (b:=true) (x:=.ref n) (h:=hA) (Q:=λp h2=>∃L h3,p=.ref h3.length/\h2=h3++[.lst<|L.map dP]/\Ext hA h3/\L.Perm os) (key:=nmL) (emb:=dP) (S:=shape [.inr "",.inl 0]) (oE<|x0 _ _ g) ⋯ (KQ os) (λ_ _=>rfl) (wZ nmL NM nd) (λd hd h Q kk=>KN d h Q<|kk h<|Ext.refl h) λL h3 x3 hp ho=>⟨L,h3,rfl,rfl,x3,hp⟩;let xB:Ext hA (h3++[.lst<|L.map dP]):=x3.trans<|z_ _;let gs:(h3++[.lst<|L.map dP])[h3.length]?=a_ (.lst<|L.map dP):=aF;generalize h3.length=sl at e2 gs;generalize h3++[.lst<|L.map dP]=hB at e2 xB gs;refine iX (n:=sl) (xs:=L.map dP) (h1:=hB) (λq δ h'=>Ext hB h'/\∃x3 x4 x5 x6 x7,δ=[c_ n,c_ h.length,c_<|h.length+1,x3,x4,x5,x6,x7]) (by simp[e2]) gs ⟨Ext.refl _,_,_,_,_,_,rfl⟩ (λq δ h' _ i=>i.1 _ _ gs) ?_ ?_
 ·rintro q y δ h' hy ⟨x,x3,x4,x5,x6,x7,rfl⟩;rw[UD]at hy;let⟨d,Tj,rfl⟩:=UI.mp hy;let⟨w,r,ea,n1,n2⟩:=RA (wf d<|pm.mem_iff.mp<|UP Tj).act;refine⟨_,rfl,?_⟩;unfold oS;rw[aD];simp[dP0];refine⟨[c_ n,c_ h.length,c_<|h.length+1,a_<|dP d,a_<|.str d.nm.1,d_ d.nm.2,x6,x7],by simp[pv],?_⟩;rfl';rw[aD];simp[dP2,ea];rfl';rw[aD];simp[n1];rfl';rw[aD];let Sk:=(xB.trans x) _ _ gb;let y1:Ext h' (h'++[MO.lst []]):=z_ _;let y2:(h'++[MO.lst []])[h'.length]?=a_ (.lst []):=aF;let dj:=K8 (x:=d.nm.1) (z:=.ref h'.length)<|y1 _ _ Sk;simp[GX Sk];generalize h'++[MO.lst []]=h2 at y1 y2 dj;let qb:qA (.ref<|h.length+1) [.str d.nm.1,.ref h'.length] h2=.ok (.ref h'.length) h2:=dj;simp[qb,Ij d.nm.2 y2];rfl';let nn:hV .non .non h2=.ok (.bl false) h2:=rfl;simp[nn,n2];show x.trans y1
 ·rintro δ h' ⟨x,x3,x4,x5,x6,x7,rfl⟩;rfl';simp;show k _ _ (x0.trans<|xB.trans x)<|(xB.trans x) _ _ gt
def Ik{ds:x_ Dd}(D:Dl os ds)(g:h[n]?=a_ (.lst<|ds.map dP))(k:∀l h',X5 h'->h'[l]?=a_ (.lst<|os.map dP)->Q (.ref l) h'):(oU [.ref n] h).W Q:=by
 refine bG ?_;unfold oT;rw[aD];simp;refine Dh D g λl h1 x1 b1 g1=>?_;rfl';rw[aD];simp;refine zS D.wf D.nd D.ln g1 λt h2 x2 g2=>?_;rfl';let hc:=eZ (js:=[b_,a_ 2]) (tg:=gN 0) (tst:=aO<|aB bD (i_ (mV 0)<|o_ 0)<|mV 1) (elt:=mV 0) (m:=mV 1) (δ:=[c_ n,c_ l,c_ t]) (h:=h2) (h1:=h2) (n:=l) (ys:=os) (emb:=dP) (λd=>a_<|dP d) (by simp) (x2 _ _ g1) (by have:=D.ln;omega)
  (λd hd=>⟨_,rfl,λh3 hx=>⟨by simp[gP,dP0,((Tb.nil g2).ext hx).hasNo],by simp[gP]⟩⟩)
 rw[filterMap_some]at hc;simp[hc];show k _ _ (x1.trans<|x2.trans<|z_ _) aF
def Il{ds:x_ Dd}(D:Dl os ds)(g:h[n]?=a_ (.lst<|ds.map dP))(k:∀l h',X5 h'->h'[l]?=a_ (.lst [])->Q (.ref l) h'):(oW [.ref n] h).W Q:=by
 refine bG ?_;unfold oV;rw[aD];simp;refine Dh D g λl h1 x1 b1 g1=>?_;rfl';rw[aD];simp;refine zS D.wf D.nd D.ln g1 λt h2 x2 g2=>?_;rfl';let hc:=eZ (js:=[b_,a_ 2]) (tg:=gN 0) (tst:=aO<|aB kF (i_ (mV 0)<|o_ 0)<|mV 1) (elt:=aZ<|aA (i_ (mV 0)<|o_ 0)<|aA (i_ (mV 1)<|i_ (mV 0)<|o_ 0) aC) (m:=mV 1) (δ:=[c_ n,c_ l,c_ t]) (h:=h2) (h1:=h2) (n:=l) (ys:=os) (emb:=dP) (λd=>b_) (by simp) (x2 _ _ g1) (by have:=D.ln;omega)
  (λd hd=>⟨_,rfl,λh3 hx=>by simp[gP,dP0,((Tb.nil g2).ext hx).has]⟩)
 let e:os.filterMap (λ_=>(b_:y_ PV))=[]:=by simp
 rw[e]at hc;simp[hc];show k _ _ (x1.trans<|x2.trans<|z_ _) aF
def Im(u:x_ St)(s n:Int)(hd:Str)(h:PH)(hu:u.length<=1000):iC [.tup [pl u,.int s],.tup [.str hd,.int n]] h=.ok (pl<|u++[⟨s,hd,n,0⟩]) h:=by
 let w:(iC [.tup [pl u,.int s],.tup [.str hd,.int n]] h).W λp h'=>p=pl (u++[⟨s,hd,n,0⟩])/\h'=h:=by refine bG ?_;simp(disch:=first|omega|(simp;omega)) [oJ,GG,pl,stp]
 let⟨p,h',e,rfl,rfl⟩:=iW w;show e
abbrev nK(u:x_ St)(s:Int)(hd:Str)(n:Int):Nat->x_ St
 |0=>u++[⟨s,hd,n,0⟩]
 |k+1=>nK u s hd n k++[⟨1,hd,n,((k+1:Nat):Int)⟩]
abbrev iJ(u:x_ St)(s:Int)(hd:Str)(n:Int)(m:Nat):x_ (x_ St):=(U9 m).map<|nK u s hd n
variable{hd:Str}{s:Int}
def xF{u:x_ St}{n:Int}:(iJ u s hd n m).length=m:=by simp[iJ]
def Ip{u:x_ St}{n:Int}{k:Nat}(hk:k<m):(iJ u s hd n m)[k]?=a_ (nK u s hd n k):=by simp[iJ,hk]
def sI{u:x_ St}{n:Int}:iJ u s hd n (m+1)=iJ u s hd n m++[nK u s hd n m]:=by simp[iJ,List.range_succ]
def jQ{u:x_ St}{s:Int}{hd:Str}{n:Int}:∀k,(nK u s hd n k).length=u.length+1+k
 |0=>by simp[nK]
 |k+1=>by simp[nK,jQ k];omega
def Fh(u:x_ St)(s n:Int)(hd w:Str)(sn th:PV)(wd:Str)(h:PH)(Q:PV->PH->Prop)(hu:u.length<=900)(h0:1<=w.length)(h1:w.length<=12)(k:Q (.ref h.length) (h++[.lst<|(iJ u s hd n w.length).map pl])):
  (fY [.tup [.tup [.str hd,.int n],sn,.tup [.str wd,th,pl u,.int s,.str w]]] h).W Q:=by
 refine bG ?_;simp(disch:=omega) [mO,GG,Im u s n hd _ ⋯];refine GM (lo:=1) (j:=w.length) (λq δ h'=>h'=h++[.lst<|(iJ u s hd n<|q+1).map pl]/\∃x0 x1 x2 x3 x4 x5 x6 x7 x12,δ=[x0,x1,x2,x3,x4,x5,x6,x7,a_<|.str w,a_<|.str hd,d_ n,c_ h.length,x12]) ?_ ?_ ?_ ?_ ?_
 ·simp(disch:=omega)
 ·omega
 ·show⟨rfl,_,_,_,_,_,_,_,_,_,rfl⟩
 ·rintro q δ h' hq ⟨rfl,x0,x1,x2,x3,x4,x5,x6,x7,x12,rfl⟩;let e1:(h++[MO.lst<|(iJ u s hd n<|q+1).map pl])[h.length]?=a_ (.lst<|(iJ u s hd n<|q+1).map pl):=aF;let e2:atI ((iJ u s hd n<|q+1).map pl) (1+(q:Int)-1)=a_ (pl<|nK u s hd n q):=by
   have:(1+(q:Int)-1)=(q:Int):=⋯;rw[this];show aK (by rw[UD,Ip ⋯];rfl)
  let e3:=jQ (u:=u) (s:=s) (hd:=hd) (n:=n) q;let e4:=xF (u:=u) (s:=s) (hd:=hd) (n:=n) (m:=q+1);simp(disch:=first|omega|(simp;omega)) [jC,kC e1,cZ e1,e2,dX e1,pl]
  rw[sI (m:=q+1)];simp[nK,pl,stp];omega
 ·rintro δ h' ⟨rfl,x0,x1,x2,x3,x4,x5,x6,x7,x12,rfl⟩;simp;have:w.length-1+1=w.length:=⋯;rw[this];show k
variable{w:Str}
def KR(h:Asc w):(w.cps.all λc=>decide (c<128))=true:=by rw[Array.all_eq_true_iff_forall_mem];intro c hc;show decide_eq_true<|h c<|ke hc
variable{ms:Ma}
def NN{x:Str}(I:Nat->Ev->PH->Prop)(e:ms δ h=.ok [.ref n,.str x] h1)(ha:(x.cps.all λc=>decide (c<128))=true)(el:aL h1 n=a_ xs)(h0:I 0 δ h1)(keep:∀q δ h,I q δ h->vR n xs h=true)(step:∀(q:Nat) y δ h,(qG xs x)[q]?=a_ y->I q δ h->∃δ1,tg y δ=a_ δ1/\(body δ1 h).W { nx:=I<|q+1,ct:=I<|q+1,rt:=E.rt,bk:=E.nx})(fin:∀δ h,I (qG xs x).length δ h->E.nx δ h):(bR (HF ms) tg body δ h).W E:=by
 let go:(eY (vR n xs) tg body (qG xs x) δ h1).W E:=lZ I _ 0 δ h1 h0 (λq y δ h _ hx hi=>⟨keep q δ h hi,by rw[Nat.sub_zero]at hx;show step q y δ h hx hi⟩)<|λδ h hi=>⟨keep _ δ h hi,fin δ h<|ke hi⟩;unfold bR HF;rw[e,Rs.bind_ok];unfold ND;dsimp only;rw[if_pos ha,el];show go
abbrev tsP(p:x_ St):X9 0:=p.map stp
def Qc(p:x_ St):(PV.tup<|p.map stp).ky 6=true:=by
 change(p.map stp).all (PV.ky 5)=true
 rw[Xu];show UK.mpr λy _=>rfl
instance:KO tsP:=⟨λ{a b} e=>AO (show pl a=pl b by unfold pl;show congrArg PV.tup e),λp=>Qc p⟩
abbrev plN(d:Dd)(u:x_ St)(s:Int)(w:Str):x_ (x_ St):=iJ u s d.nm.1 d.nm.2 w.length
def zT{d:Dd}{t:Nm}{u:x_ St}(ea:d.act=.write t u s w)(ha:KdA d.act)(h:PH):fY [dP d] h=.ok (.ref h.length) (h++[.lst<|(plN d u s w).map pl]):=by
 rw[ea]at ha;let⟨a1,a2,a3,_⟩:=ha;have:=Fh u s d.nm.2 d.nm.1 w (sv d.seen) (pv t) "write" h (λp h'=>p=.ref h.length/\h'=h++[.lst<|(plN d u s w).map pl]) ⋯ a2 a3 ⟨rfl,rfl⟩;let⟨p,h',e,rfl,rfl⟩:=iW this;let ed:dP d=.tup [.tup [.str d.nm.1,.int d.nm.2],sv d.seen,.tup [.str "write",pv t,pl u,.int s,.str w]]:=by unfold dP;rw[ea];rfl
 rw[ed];show e
def qQ{d:Dd}{u:x_ St}:(plN d u s w).length=w.length:=xF
abbrev Fr1(ls:Nat)(h h':PH):Prop:=∀(i:Nat) o,i≠ls->h[i]?=a_ o->h'[i]?=a_ o
variable{a:Nat}{th:Nm}
def Fi{d:Nat}(gi:h[a]?=a_ (.ins "Signs" [("kept",.ref d)])){f:x_ St->y_ PV}(t:Tk tsP h d c f)(hc:c<=900){e:Dd}{u:x_ St}(ea:e.act=.write th u s w)(ha:KdA e.act)(k:∀h' f',Fr1 d h h'->Tk tsP h' d (c+12) f'->h.length<=h'.length->Q .non h'):(fP [.ref a,dP e] h).W Q:=by
 let ep:=zT ea ha h;let ha':=ha;rw[ea]at ha';let⟨_,a2,a3,asc⟩:=ha';let i4:atI (aT e.act) 4=a_ (.str w):=by rw[ea];show aK (i:=4) rfl
 refine bG ?_;unfold jD;rw[aD];simp[dP2,i4];rfl';let lt:=t.lt;let ad:=t.ne_ins gi;let hA:(h++[MO.lst<|(plN e u s w).map pl])[h.length]?=a_ (.lst<|(plN e u s w).map pl):=aF;let xA:X5 (h++[MO.lst<|(plN e u s w).map pl]):=z_ _;let lA:(h++[MO.lst<|(plN e u s w).map pl]).length=h.length+1:=by simp
 generalize h++[MO.lst<|(plN e u s w).map pl]=hB at ep hA xA lA;let lz:(qG ((plN e u s w).map pl) w).length<=12:=by unfold qG;rw[List.length_zipWith,Uu,qQ];omega
 refine NN (n:=h.length) (xs:=(plN e u s w).map pl) (x:=w) (h1:=hB) (λr δ h'=>r<=12/\Fr1 d hB h'/\h'.length=hB.length/\(∃f,Tk tsP h' d (c+r) f)/\∃x3 x4,δ=[c_ a,a_<|dP e,a_<|.str w,x3,x4]) (by simp[ep]) (KR asc) (by unfold aL;rw[hA]) ⟨⋯,λ_ _ _ e=>e,rfl,⟨f,t.ext xA⟩,_,_,rfl⟩ ?_ ?_ ?_
 ·rintro r δ h' ⟨_,k1,_⟩;unfold vR aL;rw[k1 _ _ ⋯ hA];show PV.beqs_self _
 ·rintro r y δ h' hy ⟨hr,k1,l1,⟨f1,t1⟩,x3,x4,rfl⟩;let j6:=(SC.mp hy).1;obtain⟨p,z,rfl⟩:∃p z,y=.tup [pl p,z]:=by have:y∈qG ((plN e u s w).map pl) w:=UP hy;unfold qG at this;let⟨i,hi,e9⟩:=List.mem_iff_getElem.mp this;rw[List.getElem_zipWith,List.getElem_map]at e9;show⟨_,_,e9.symm⟩
  refine⟨[c_ a,a_<|dP e,a_<|.str w,a_<|pl p,a_ z],by simp,?_⟩;let⟨o,p1,_,t2⟩:=t1.put ⋯ p z;let p1:eQ (.ref d) (pl p) z h'=a_ (h'.set d o):=p1;let ef:aU "kept" (.ref a) h'=.ok (.ref d) h':=bE (k1 _ _ ad<|xA _ _ gi) rfl;unfold gL;simp[ef,p1];show⟨⋯,λi o hi ho=>aG (k1 i o hi ho)<|Va hi,l1,_,t2⟩
 ·rintro δ h' ⟨hr,k1,l1,⟨f1,t1⟩,x3,x4,rfl⟩;show k h' f1 (λi o hi ho=>k1 i o hi<|xA _ _ ho) (t1.more ⋯) ⋯
abbrev rk(xs:x_ St):PV:=.tup<|xs.map stp++[uF]
def RB(Ps:x_ (x_ St)):OkN 2 (Ps.map rk):=by
 refine⟨⋯,λv hv=>?_,λv hv=>?_,λv hv u hu=>?_⟩
 ·let⟨xs,_,rfl⟩:=UO.mp hv
  change(xs.map stp++[uF]).all (PV.ky 19)=true
  rw[List.all_append,UQ,Xu];show⟨UK.mpr λy _=>rfl,rfl⟩
 ·let⟨xs,_,rfl⟩:=UO.mp hv;cases xs <;> rfl
 ·let⟨xs,_,rfl⟩:=UO.mp hv;let⟨ys,_,rfl⟩:=UO.mp hu
  change(ltL (ltP 19) (xs.map stp++[uF])<|ys.map stp++[uF]).isSome=true
  rw[I0 17 xs ys];rfl
def NO{xs:x_ St}(h:rk xs=rk ys):xs=ys:=by refine AO ?_;unfold rk at h;unfold pl;have:=PV.tup.inj h;rw[(List.append_inj' this rfl).1]
abbrev rwG(r:x_ St×PV):PV:=.tup [pl r.1,r.2]
def Ca(r:x_ St×PV)(h:PH)(hr:r.1.length<=1000):iD [rwG r] h=.ok (rk r.1) h:=by
 let w:(iD [rwG r] h).W λp h'=>p=rk r.1/\h'=h:=by refine bG ?_;simp[oK,rwG,KF r.1 h hr,rk]
 let⟨p,h',e,rfl,rfl⟩:=iW w;show e
def Iq{α β:Type}:∀{l:x_ (α×β)},(l.map (·.1)).Nodup->∀{a b:α×β},a∈l->b∈l->a.1=b.1->a=b
 |[],_,a,b,ha,_,_=>by cases ha
 |x::r,nd,a,b,ha,hb,e=>by
  rw[UJ,VC]at nd;rcases UF.mp ha with q|ha'
  ·rcases UF.mp hb with z|hb'
   ·rw[q,z]
   ·show(nd.1<|UO.mpr ⟨b,hb',by rw[<-e,q]⟩).elim
  ·rcases UF.mp hb with z|hb'
   ·show(nd.1<|UO.mpr ⟨a,ha',by rw[e,z]⟩).elim
   ·show Iq nd.2 ha' hb' e
abbrev CJ(h:PH)(a d c:Nat)(g:x_ (x_ St))(q:Nat)(δ:Ev)(h':PH):Prop:=∃(G:x_ (x_ St×PV))(f1:x_ St->y_ PV),Fr1 d h h'/\h'[h.length]?=a_ (.lst<|G.map rwG)/\h'.length=h.length+1/\Tk tsP h' d c f1/\(G.map (·.1)).Nodup/\(∀r∈G,f1 r.1=b_/\r.1.length<=800)/\G.length<=q/\∃x3,δ=[c_ a,a_<|.tup<|g.map pl,c_ h.length,x3]
def KS{d:Nat}(gi:h[a]?=a_ (.ins "Signs" [("kept",.ref d)])){f:x_ St->y_ PV}(t:Tk tsP h d c f){g:x_ (x_ St)}(lg:g.length<=40)(hp:∀p∈g,p.length<=800)(k:∀v h' f',Fr1 d h h'->Tk tsP h' d c f'->h.length<=h'.length->Q v h'):(iT [.ref a,.tup<|g.map pl] h).W Q:=by
 refine bG ?_;unfold mQ;rw[aD];simp;rfl';rw[aD];let lt:=t.lt;let ad:=t.ne_ins gi;let xA:X5 (h++[MO.lst []]):=z_ _;let gA:(h++[MO.lst []])[h.length]?=a_ (.lst<|([]:x_ (x_ St×PV)).map rwG):=aF;let lA:(h++[MO.lst []]).length=h.length+1:=by simp
 generalize h++[MO.lst []]=hA at xA gA lA;refine CP (xs:=g.map pl) (CJ h a d c g) (.inl<|by simp) ⟨[],f,λi o _ e=>xA _ _ e,gA,lA,t.ext xA,List.nodup_nil,(λr hr=>nomatch hr),Uv _,_,rfl⟩ ?_ ?_
 ·rintro q x δ h' hx ⟨G,f1,fr,gG,lh,t1,nd,no,lG,x3,rfl⟩;rw[UD]at hx;let⟨p,hq,rfl⟩:=UI.mp hx;let ji:=(SC.mp hq).1;refine⟨[c_ a,a_<|.tup<|g.map pl,c_ h.length,a_<|pl p],by simp,?_⟩;let ef:aU "kept" (.ref a) h'=.ok (.ref d) h':=bE (fr _ _ ad gi) rfl;let e1:kF (pl p) (.ref d) h'=.ok (.bl (f1 p).isSome) h':=t1.has p;let hD:=t1.dict;unfold jE;cases e2:f1 p with
  |none=>rw[e2]at e1;simp[ef,e1];show⟨G,f1,fr,gG,lh,t1,nd,no,⋯,_,rfl⟩
  |some v=>
   rw[e2]at e1;let⟨o,t2,pp,_⟩:=t1.drop p;let ep:mK (.ref d) [pl p] h'=.ok v (h'.set d o):=(pp v e2).1;let g2:(h'.set d o)[h.length]?=a_ (.lst<|G.map rwG):=aG gG ⋯;let ap:=dX (p:=rwG (p,v)) g2 (by rw[Uu];omega);let k5:onL bP (.ref h.length) [.tup [pl p,v]] (h'.set d o)=_:=ap;simp[ef,e1,kC gG,hD,ep];rw[k5,rH];refine⟨G++[(p,v)],_,λi o hi e=>aG (aG (fr i o hi e)<|Va hi) (by have:=(SC.mp e).1;omega),by rw[UZ];show cD g2,by rw[U2,U2];show lh,t2.keep λo e=>aG e ⋯,?_,λr hr=>?_,by simp;omega,_,rfl⟩
   ·rw[UZ,V4];refine⟨nd,by simp,λx hx y hy z=>?_⟩;let⟨r,hr,rfl⟩:=UO.mp hx;have:=(no r hr).1;let e9:y=p:=by simpa using hy
    rw[z,e9,e2]at this;cases this
   ·change(if r.1=p then b_ else f1 r.1)=b_/\_
    rcases UN.mp hr with hr|hr
    ·show⟨by rw[(no r hr).1];split <;> rfl,(no r hr).2⟩
    ·rw[UX.mp hr];show⟨X2 0,hp p<|UP hq⟩
 ·rintro δ h' ⟨G,f1,fr,gG,lh,t1,nd,no,lG,x3,rfl⟩;rw[Uu]at lG;rfl';simp only[Bx,D5]
  change Rs.W (iR iD false 2 (.ref h.length) h') _
  refine Hz (key:=λr:x_ St×PV=>rk r.1) (emb:=rwG) (xs:=G) (oE gG) ⋯ ?_ (λa ha c hc z=>?_) (λr hr h Q q=>?_) λos h2 hx p pw=>?_
  ·have:=RB (G.map (·.1))
   rwa[Vk]at this
  ·rw[Iq nd ha hc<|NO z]
  ·rw[Ca r h (by have:=(no r hr).2;omega)];simpa using q h (Ext.refl h)
  ·let x2:Ext h' (h2++[MO.lst<|os.map rwG]):=hx.trans<|z_ _;have:=hx.len;show k _ _ f1 (λi o hi e=>x2 _ _<|fr i o hi e) (t1.ext x2) (by simp;omega)
variable{ps:X9 0}
def sJ{f:Fn}(e:ms δ h=.ok ps h1)(l:ps.length=n)(w:(f (.ref h1.length::ps)<|h1++[.ins cn []]).W λv h2=>v=.non/\Q (.ref h1.length) h2):(iQ cn n f ms δ h).W Q:=by let⟨v,h2,e2,rfl,q⟩:=iW w;rw[C0,e,Rs.bind_ok,if_pos l,e2,Rs.bind_ok];dsimp only;rw[rH];show q
abbrev cvB(S:Seen)(nm:Nm):Bool:=match look S nm.1 with
 |some n=>decide (nm.2<=n)
 |none=>false
def Fj(S:Seen)(nm:Nm)(h:PH):qL [sv S,pv nm] h=.ok (.bl<|cvB S nm) h:=by
 let w:(qL [sv S,pv nm] h).W λq h'=>q=.bl (cvB S nm)/\h'=h:=by
  refine bG ?_;unfold wR;rw[aD];refine CP (xs:=S.map pv) (λq δ h'=>h'=h/\look (S.drop q) nm.1=look S nm.1/\∃x2 x3,δ=[a_<|sv S,a_<|pv nm,x2,x3]) (.inl<|by simp[E6]) ⟨rfl,rfl,_,_,rfl⟩ ?_ ?_
  ·rintro q x δ h' hx ⟨rfl,hk,x2,x3,rfl⟩;rw[UD]at hx;let⟨p,hp,rfl⟩:=UI.mp hx;let hd:S.drop q=p::S.drop (q+1):=by let⟨hl,e⟩:=SC.mp hp;rw[List.drop_eq_getElem_cons hl,e]
   rw[hd,dI]at hk;refine⟨_,by simp[pv];rfl,?_⟩;unfold oM cvB;by_cases e:p.1=nm.1
   ·rw[if_pos e]at hk;simp[pv,e];rw[<-hk]
   ·rw[if_neg e]at hk;simp[pv,e];show hk
  ·rintro δ h' ⟨rfl,hk,x2,x3,rfl⟩;rfl';rw[Uu,List.drop_length]at hk;unfold cvB;simp[<-hk,look]
 let⟨q,h',e,rfl,rfl⟩:=iW w;show e
structure Mw where
 nm:Nm
 a:PV
 b:PV
 w:Str
 hs:x_ PV
abbrev mwV(m:Mw):PV:=.tup [pv m.nm,m.a,m.b,.str m.w,.tup m.hs]
abbrev qR(h:PH)(n a s:Nat)(S:x_ Mw):Prop:=h[a]?=a_ (.ins "Marks" [("standing",.ref s)])/\h[s]?=a_ (.lst<|S.map mwV)/\S.length<=n/\∀m∈S,m.hs.length<=n
abbrev hol(d:Dd)(a b:x_ St)(m:Mw):Mw:=if m.w="bold" /\ cvB d.seen m.nm=true then { m with hs:=m.hs++[.tup [pl a,pl b]]} else m
def KU{d:Dd}{a b:x_ St}{m:Mw}(h:m.hs.length<=n):(hol d a b m).hs.length<=n+1:=by
 unfold hol;split
 ·simp;omega
 ·omega
def NP{m:Mw}(hm:m.hs.length<=100){d:Dd}{t:Nm}{a b:x_ St}(ea:d.act=.mk w t a b)(h:PH):qM [mwV m,dP d] h=.ok (mwV<|hol d a b m) h:=by
 let i2:atI (X8 0) 2=a_ (pl a):=by rw[ea];show aK (i:=2) rfl
 let i3:atI (X8 0) 3=a_ (pl b):=by rw[ea];show aK (i:=3) rfl
 let i4:atI (X8 0) 4=a_ (.str "bold"):=by rw[ea];show aK (i:=4) rfl
 let w:(qM [mwV m,dP d] h).W λq h'=>q=mwV (hol d a b m)/\h'=h:=by
  refine bG ?_;unfold AJ;rw[aD];simp[mwV];rfl';rw[aD];simp[dP];rfl';rw[aD,cI];let cv:=Fj d.seen m.nm h;generalize aT d.act=A at i2 i3 i4;by_cases e:m.w="bold"
  ·cases ec:cvB d.seen m.nm with
   |false=>rw[ec]at cv;simp[i4,e,cv,hol,ec]
   |true=>rw[ec]at cv;simp[i4,e,cv,hol,ec];rfl';let vp:∀h,aY (.tup m.hs) (.tup [.tup [pl a,pl b]]) h=.ok (.tup<|m.hs++[.tup [pl a,pl b]]) h:=λh=>F0 (by simp;omega);simp[i2,i3,vp]
  ·simp[i4,e,hol]
 let⟨q,h',e,rfl,rfl⟩:=iW w;show e
variable{S:x_ Mw}{y:x_ St}
def Fk{s:Nat}(t:qR h n a s S)(hn:n<=60){d:Dd}{x:x_ St}(ea:d.act=.mk w th x y)(k:∀h' S',Fr1 a h h'->qR h' (n+1) a h.length S'->h.length<=h'.length->Q .non h'):(fR [.ref a,dP d] h).W Q:=by
 let⟨t1,t2,t3,t4⟩:=t;refine bG ?_;unfold jF;let fm:aU "standing" (.ref a) h=.ok (.ref s) h:=bE t1 rfl;let la:=(SC.mp t1).1;let hc:=eZ (m:=mUn (aU "standing")<|mV 0) (n:=s) (js:=[b_,a_ 1]) (tg:=gN 0) (tst:=lQ) (elt:=aN 2 qM<|aA (mV 0)<|aA (mV 1) aC) (δ:=[c_ a,a_<|dP d]) (h:=h) (h1:=h) (ys:=S) (emb:=mwV)
  (λm=>a_<|mwV<|hol d x y m) (by simp[fm]) t2 ⋯ (λm hm=>⟨[a_<|mwV m,a_<|dP d],by simp[gP],λh' x'=>⟨rfl,by simp[NP (m:=m) (U1 (t4 m hm) ⋯) ea]⟩⟩)
 let em:S.filterMap (λm=>a_<|mwV<|hol d x y m)=(S.map<|hol d x y).map mwV:=by rw[filterMap_some,Vk];rfl
 rw[em]at hc;let x1:X5 (h++[MO.lst<|(S.map<|hol d x y).map mwV]):=z_ _;let g1:(h++[MO.lst<|(S.map<|hol d x y).map mwV])[h.length]?=a_ (.lst<|(S.map<|hol d x y).map mwV):=aF;let l1:(h++[MO.lst<|(S.map<|hol d x y).map mwV]).length=h.length+1:=by simp
 change (dO "standing" (mV 0) _ [c_ a,a_<|dP d] h).W _;generalize h++[MO.lst<|(S.map<|hol d x y).map mwV]=hA at hc g1 x1 l1;let sf:=fV (f:="standing") (p:=.ref h.length) (x1 _ _ t1) (by simp);simp[hc,sf,gI];refine k _ (S.map<|hol d x y) (λi o hi ho=>aG (x1 _ _ ho)<|Va hi) ⟨cD<|x1 _ _ t1,aG g1 ⋯,by rw[Uu];omega,λm hm=>?_⟩ (by rw[U2];omega);let⟨m0,h0,rfl⟩:=UO.mp hm;show KU<|t4 m0 h0
def Ir{s:Nat}(t:qR h n a s S)(hn:n<=60){d:Dd}{x:x_ St}(ea:d.act=.mk w th x y)(k:∀h' S',Fr1 s h h'->qR h' (n+1) a s S'->h.length<=h'.length->Q .non h'):(gQ [.ref a,dP d] h).W Q:=by
 let⟨t1,t2,t3,t4⟩:=t;let i2:atI (X8 0) 2=a_ (pl x):=by rw[ea];show aK (i:=2) rfl
 let i3:atI (X8 0) 3=a_ (pl y):=by rw[ea];show aK (i:=3) rfl
 let i4:atI (X8 0) 4=a_ (.str "bold"):=by rw[ea];show aK (i:=4) rfl
 refine bG ?_;unfold kL;let fm:aU "standing" (.ref a) h=.ok (.ref s) h:=bE t1 rfl;let la:=(SC.mp t1).1;let as:a≠s:=λz=>by rw[z,t2]at t1;cases t1
 let ls:=(SC.mp t2).1;rw[aD];simp;refine⟨[c_ a,a_<|dP d,a_<|X_ 0,a_<|sv d.seen,a_<|.tup<|X8 0],by simp[dP],?_⟩;rfl';let hc:=eZ (m:=mUn (aU "standing")<|mV 0) (n:=s) (js:=[b_]) (tg:=gN 0) (tst:=lQ) (elt:=i_ (mV 0)<|o_ 0) (δ:=[c_ a,a_<|dP d,a_<|X_ 0,a_<|sv d.seen,a_<|.tup<|X8 0]) (h:=h) (h1:=h) (ys:=S) (emb:=mwV)
  (λm=>a_<|pv m.nm) (by simp[fm]) t2 ⋯ (λm hm=>⟨[a_<|mwV m],by simp[gP],λh' x'=>⟨rfl,by simp[mwV]⟩⟩)
 rw[filterMap_some]at hc;let g1:(h++[MO.lst<|S.map λm=>pv m.nm])[h.length]?=a_ (.lst<|S.map λm=>pv m.nm):=aF;let x1:X5 (h++[MO.lst<|S.map λm=>pv m.nm]):=z_ _;let l1:(h++[MO.lst<|S.map λm=>pv m.nm]).length=h.length+1:=by simp
 generalize h++[MO.lst<|S.map λm=>pv m.nm]=hA at hc g1 x1 l1;let n8:bD (X_ 0) (.ref h.length) hA=.ok (.bl<|!decide (X_ 0∈S.map λm=>pv m.nm)) hA:=by rw[BL g1,CQ g1 rfl (by rw[Xu];show UK.mpr λy _=>rfl)]
 let fA:aU "standing" (.ref a) hA=.ok (.ref s) hA:=bE (x1 _ _ t1) rfl;let gA:=x1 _ _ t2;let ap:=dX (p:=mwV ⟨d.nm,pl x,pl y,"bold",[]⟩) gA (by rw[Uu];omega);let k5:onL bP (.ref s) [.tup [X_ 0,pl x,pl y,.str "bold",.tup []]] hA=_:=ap;generalize aT d.act=A at i2 i3 i4 hc;by_cases c:X_ 0∈S.map λm=>pv m.nm
 ·rw[decide_eq_true c]at n8;simp[hc,n8];show k hA S (λi o _ e=>x1 _ _ e) ⟨x1 _ _ t1,gA,⋯,λm hm=>Nat.le_succ_of_le<|t4 m hm⟩ ⋯
 ·rw[decide_eq_false c]at n8;simp[hc,n8,fA,kC gA,i2,i3,i4];rw[k5,rH];refine k _ (S++[⟨d.nm,pl x,pl y,"bold",[]⟩]) (λi o hi e=>aG (x1 _ _ e)<|Va hi) ⟨aG (x1 _ _ t1)<|Va as,by rw[UZ];show cD gA,by simp;omega,λm hm=>?_⟩ (by rw[U2];omega);rcases UN.mp hm with hm|hm
  ·show Nat.le_succ_of_le (t4 m hm)
  ·rw[UX.mp hm];show U5 _
abbrev TX(h:PH)(b n a:Nat):Prop:=b<=a/\h[a]?=a_ (.ins "Text" [("signs",.ref<|a+1),("marks",.ref<|a+3)])/\h[a+1]?=a_ (.ins "Signs" [("kept",.ref<|a+2)])/\(∃f,Tk tsP h (a+2) (12*n) f)/\∃s S,b<=s/\qR h n (a+3) s S
variable{n':Nat}
def qR.more{s:Nat}(t:qR h n a s S)(hn:n<=n'):qR h n' a s S:=⟨t.1,t.2.1,U1 t.2.2.1 hn,λm hm=>U1 (t.2.2.2 m hm) hn⟩
def qR.keep{s:Nat}(t:qR h n a s S)(k:∀(i:Nat) o,i=a\/i=s->h[i]?=a_ o->h'[i]?=a_ o):qR h' n a s S:=⟨k _ _ (.inl rfl) t.1,k _ _ (.inr rfl) t.2.1,t.2.2⟩
variable{j:Nat}{x':x_ (Str×PV)}
def Iu{i:Nat}{c c':Str}{x:x_ (Str×PV)}(g:h[i]?=a_ (.ins c x))(g':h[j]?=a_ (.ins c' x'))(hn:¬ c=c'):i≠j:=λz=>by
 subst z;rw[g]at g';cases g'
 show hn rfl
def qS{i:Nat}{c:Str}{x:x_ (Str×PV)}(g:h[i]?=a_ (.lst xs))(g':h[j]?=a_ (.ins c x)):i≠j:=λz=>by subst z;rw[g]at g';cases g'
structure FL(b n:Nat)(h h':PH):Prop where
 lo:∀(i:Nat) o,i<b->h[i]?=some o->h'[i]?=some o
 tx:∀a,TX h b n a->TX h' b (n+1) a
 ln:h.length<=h'.length
variable{b:Nat}
def FL.of(k:∀(i:Nat) o,h[i]?=a_ o->h'[i]?=a_ o)(l:h.length<=h'.length):FL b n h h':=⟨λi o _ e=>k i o e,λa ⟨p,q,r,⟨f,t⟩,s,S,bs,m⟩=>⟨p,k _ _ q,k _ _ r,⟨f,(t.keep λo e=>k _ _ e).more ⋯⟩,s,S,bs,(m.keep λi o _ e=>k _ _ e).more<|Vb _⟩,l⟩
def nTM:¬ (UB "Text")=UB "Marks" := by decide +kernel
def nSM:¬ (UB "Signs")=UB "Marks" := by decide +kernel
def Eb(t:TX h b n a){f:x_ St->y_ PV}(fr:Fr1 (a+2) h h')(tk:Tk tsP h' (a+2) (12*n+12) f)(l:h.length<=h'.length):FL b n h h':=by
 let⟨p,_,_,⟨f0,t0⟩,_⟩:=t;refine⟨λi o hi e=>fr i o ⋯ e,λa' ⟨p',q,r,⟨f1,t1⟩,s,S,bs,m⟩=>⟨p',fr _ _ (t0.ne_ins q) q,fr _ _ (t0.ne_ins r) r,?_,s,S,bs,(m.keep λi o hi e=>?_).more<|Vb _⟩,l⟩
 ·by_cases z:a'=a
  ·rw[z];show⟨f,tk.more ⋯⟩
  ·show⟨f1,(t1.keep λo e=>fr _ _ ⋯ e).more ⋯⟩
 ·rcases hi with rfl|rfl
  ·show fr _ _ (t0.ne_ins m.1) e
  ·show fr _ _ (t0.ne_lst m.2.1) e
variable{S':x_ Mw}
def KW(t:TX h b n a){s:Nat}(bs:b<=s)(m:qR h n (a+3) s S)(fr:Fr1 s h h')(m':qR h' (n+1) (a+3) s S')(l:h.length<=h'.length):FL b n h h':=by
 refine⟨λi o hi e=>fr i o ⋯ e,λa' ⟨p',q,r,⟨f1,t1⟩,s1,S1,bs1,m1⟩=>⟨p',fr _ _ (Va<|qS m.2.1 q) q,fr _ _ (Va<|qS m.2.1 r) r,⟨f1,(t1.keep λo e=>fr _ _ (Va<|t1.ne_lst m.2.1) e).more ⋯⟩,?_⟩,l⟩;by_cases z:s1=s
 ·subst z;show⟨s1,S',bs1,fr _ _ (Va<|qS m.2.1 m1.1) m1.1,m'.2⟩
 ·show⟨s1,S1,bs1,(m1.keep λi o hi e=>by
   rcases hi with rfl|rfl
   ·show fr _ _ (Va<|qS m.2.1 m1.1) e
   ·show fr _ _ z e).more (Vb _)⟩
variable{s':Nat}
def Iv(t:TX h b n a)(bs:b<=s')(fr:Fr1 (a+3) h h')(m':qR h' (n+1) (a+3) s' S')(l:h.length<=h'.length):FL b n h h':=by
 let⟨p,_,_,_,s0,S0,_,m0⟩:=t;refine⟨λi o hi e=>fr i o ⋯ e,λa' ⟨p',q,r,⟨f1,t1⟩,s1,S1,bs1,m1⟩=>⟨p',fr _ _ (Iu q m0.1 nTM) q,fr _ _ (Iu r m0.1 nSM) r,⟨f1,(t1.keep λo e=>fr _ _ (Va<|t1.ne_ins m0.1) e).more ⋯⟩,?_⟩,l⟩;by_cases z:a'=a
 ·subst z;show⟨s',S',bs,m'⟩
 ·show⟨s1,S1,bs1,(m1.keep λi o hi e=>by
   rcases hi with rfl|rfl
   ·show fr _ _ ⋯ e
   ·show fr _ _ (qS m1.2.1 m0.1) e).more (Vb _)⟩
def wdT:¬ (UB "cut")=UB "write" /\ ¬ (UB "mark")=UB "write" /\ ¬ (UB "mark")=UB "cut" /\ ¬ (UB "clear")=UB "write" /\ ¬ (UB "clear")=UB "cut" /\ ¬ (UB "clear")=UB "mark" := by refine⟨?_,?_,?_,?_,?_,?_⟩ <;> decide +kernel
def Iw(t:TX h b n a)(bl:b<=h.length)(hn:n<=60){d:Dd}(ha:KdA d.act)(hm:∀z,d.act≠.make z)(k:∀h',FL b n h h'->Q .non h'):(eR [.ref a,dP d] h).W Q:=by
 let⟨p,q,r,⟨f,tk⟩,s,S,bs,m⟩:=id t;let⟨w1,w2,w3,w4,w5,w6⟩:=wdT;let fs:aU "signs" (.ref a) h=.ok (.ref<|a+1) h:=bE q rfl;let fm:aU "marks" (.ref a) h=.ok (.ref<|a+3) h:=bE q rfl;refine bG ?_;unfold mR;rw[aD];cases ea:d.act with
 |make z=>exact(hm z ea).elim
 |write th u sd w=>
  let i0:atI (X8 0) 0=a_ (.str "write"):=by rw[ea];show aK (i:=0) rfl
  simp[dP2,i0];rfl';let mt:=bB "write" 1 wU (aA (mV 1) aC) [c_ a,a_<|dP d,a_<|.str "write"] h (mUn (aU "signs")<|mV 0) fP (by simp[fs]) r (by simp[wU]) rfl;simp[mt];show Fi r tk ⋯ ea ha λh' f' fr t' l=>k h'<|Eb t fr t' l
 |cut th g=>
  let i0:atI (X8 0) 0=a_ (.str "cut"):=by rw[ea];show aK (i:=0) rfl
  let i2:atI (X8 0) 2=a_ (.tup<|g.map pl):=by rw[ea];show aK (i:=2) rfl
  rw[ea]at ha;simp[dP2,i0];rfl';let mt:=bB "cut" 1 Dc (aA (i_ (i_ (mV 1)<|o_ 2)<|o_ 2) aC) [c_ a,a_<|dP d,a_<|.str "cut"] h (mUn (aU "signs")<|mV 0) iT (by simp[fs]) r (by simp[Dc]) rfl;simp[w1,mt,dP2,i2];show KS r tk ha.1 ha.2 λv h' f' fr t' l=>k h'<|Eb t fr (t'.more ⋯) l
 |mk w th x y=>
  let i0:atI (X8 0) 0=a_ (.str w):=by rw[ea];show aK (i:=0) rfl
  rw[ea]at ha;simp[dP2,i0];rfl';rcases ha with rfl|rfl
  ·let mt:=bB "mark" 1 AK (aA (mV 1) aC) [c_ a,a_<|dP d,a_<|.str "mark"] h (mUn (aU "marks")<|mV 0) gQ (by simp[fm]) m.1 (by simp[AK]) rfl;simp[w2,w3,mt];show Ir m hn ea λh' S' fr m' l=>k h'<|KW t bs m fr m' l
  ·let mt:=bB "clear" 1 wV (aA (mV 1) aC) [c_ a,a_<|dP d,a_<|.str "clear"] h (mUn (aU "marks")<|mV 0) fR (by simp[fm]) m.1 (by simp[wV]) rfl;simp[w4,w5,w6,mt];show Fk m hn ea λh' S' fr m' l=>k h'<|Iv t bl fr m' l
def Fm(e:h[n]?=a_ (.lst xs)):yV [.ref n] h=.ok (.ref h.length) (h++[.lst xs]):=by
 have:aL h n=a_ xs:=by unfold aL;rw[e]
 unfold yV;simp[this]
def KY{p:Nm}:vEq (pv p) (.tup [.str "",.int 0]) h=.ok (.bl<|decide (p=root)) h:=by
 rw[Aj (Ia (n:=39)) rfl];congr 2;rw[decide_eq_decide];show⟨λe=>sH (q:=root) e,λe=>by rw[e];rfl⟩
abbrev uG(d:Dd):Bool:=match d.act with
 |.make _=>true
 |_=>false
abbrev mkP(P:x_ Dd)(x:Nm):Bool:=P.any λd=>uG d&&decide (d.nm=x)
abbrev MkA(f:Nm->y_ PV)(P:x_ Dd):Prop:=∀x,(mkP P x=false/\f x=b_)\/∃z:Str,mkP P x=true/\f x=a_ (.tup [.str "text",pv root,.str z])
abbrev LvA(h:PH)(b n:Nat)(f:Nm->y_ PV)(P:x_ Dd):Prop:=∀x,(mkP P x=false/\f x=b_)\/∃c:Nat,mkP P x=true/\f x=c_ c/\TX h b n c
structure FS(h:PH)(l lt lm lf ll b n:Nat)(P:x_ Dd):Prop where
 fo:h[l]?=some (.ins "Folding" [("tree",.ref lt),("leaves",.ref ll)])
 ti:h[lt]?=some (.ins "Tree" [("made",.ref lm),("failed",.ref lf)])
 md:∃f,Tb h lm n f/\MkA f P
 lv:∃f,Tb h ll n f/\LvA h b n f P
 ne:lm≠ll
 hi:l<b/\lt<b/\lm<b/\ll<b
 bl:b<=h.length
variable{P:x_ Dd}{ll lm:Nat}
def FS.ft{lt:Nat}{lf:Nat}(f:X6 n P):aU "tree" (.ref l) h=.ok (.ref lt) h:=bE f.fo rfl
def FS.fl{lt:Nat}{lf:Nat}(f:X6 n P):aU "leaves" (.ref l) h=.ok (.ref ll) h:=bE f.fo rfl
def FS.fm{lt:Nat}{lf:Nat}(f:X6 n P):aU "made" (.ref lt) h=.ok (.ref lm) h:=bE f.ti rfl
def kY{f:Str}{fs:x_ (Str×PV)}{r:Ev}(g:h[a]?=a_ (.ins cn fs))(l:fs.length<1000)(k:∀h',(∀(i:Nat) o,i≠a->h[i]?=a_ o->h'[i]?=a_ o)->h'[a]?=a_ (.ins cn<|gI f (.ref h.length) fs)->h'[h.length]?=a_ (.dK [])->h'.length=h.length+1->E.nx (c_ a::r) h'):(dO f (mV 0) bW (c_ a::r) h).W E:=by let ha:=(SC.mp g).1;simp only[Aw,EY,rH,Pt,ER];refine⟨_,fV (z_ _ _ _ g) l,k _ (λi o hi e=>aG (z_ _ _ _ e)<|Va hi) (cD<|z_ _ _ _ g) (aG aF ⋯)<|by simp⟩
def Iy(k:∀h' x y,X5 h'->h'[h.length]?=a_ (.ins "Tree" [("made",x),("failed",y)])->Q (.ref h.length) h'):(iQ "Tree" 0 gK aC δ h).W Q:=by refine sJ (ps:=[]) (h1:=h) rfl rfl ?_;refine bG ?_;unfold gJ;let g1:(h++[MO.ins "Tree" []])[h.length]?=a_ (.ins "Tree" []):=aF;let x1:X5 (h++[MO.ins "Tree" []]):=z_ _;generalize h++[MO.ins "Tree" []]=hA at g1 x1;rw[aD];refine kY g1 (by simp) λhB xt gB dB lB=>now ?_;simp;refine⟨_,fV (z_ _ _ _ gB)<|show 1<1000 by omega,?_⟩;show k _ _ _ (λi o e=>have hi:=(SC.mp e).1;aG (z_ _ _ _<|xt _ _ ⋯ (x1 _ _ e)) ⋯)<|cD<|z_ _ _ _ gB
def Iz{la lb:Nat}{x y:PV}(g:h[l]?=a_ (.ins "Tree" [("made",x),("failed",y)]))(ga:h[la]?=a_ (.lst []))(gb:h[lb]?=a_ (.lst []))(k:∀lm lf h',(∀(i:Nat) o,i≠l->h[i]?=a_ o->h'[i]?=a_ o)->h.length<=lm->h'[l]?=a_ (.ins "Tree" [("made",.ref lm),("failed",.ref lf)])->h'[lm]?=a_ (.dK [])->Q .non h'):(iS [.ref l,.ref la,.ref lb] h).W Q:=by
 let na:la≠l:=λz=>by subst z;rw[g]at ga;cases ga
 let nb:lb≠l:=λz=>by subst z;rw[g]at gb;cases gb
 let hl:=(SC.mp g).1;refine bG ?_;unfold mN;rw[aD];refine kY g (by simp) λhA wj g2 SK lA=>?_;let g2:hA[l]?=a_ (.ins "Tree" [("made",.ref h.length),("failed",y)]):=g2;rfl';rw[aD];refine AR (n:=la) (h1:=hA) (by simp) (wj _ _ na ga) ?_;rfl';simp[Fm<|wj _ _ nb gb];let x3:Ext hA (hA++[MO.lst []]):=z_ _;refine⟨_,fV (x3 _ _ g2)<|by simp,?_⟩;show k h.length hA.length _ (λi o hi e=>aG (x3 _ _<|wj i o hi e)<|Va hi) (Uv _) (cD<|x3 _ _ g2)<|aG (x3 _ _ SK) ⋯
def IA{h0:PH}(x0:Ext h0 h){lr lx:Nat}(g:h[h0.length]?=a_ (.ins "Folding" []))(gr:h[lr]?=a_ (.lst []))(gx:h[lx]?=a_ (.lst []))(k:∀lt lm lf ll h',Ext h0 h'->h0.length<=lm->h0.length<=ll->FS h' h0.length lt lm lf ll h'.length 0 []->Q .non h'):(dZ [.ref h0.length,.tup [.ref lr,.ref lx]] h).W Q:=by
 let nr:lr≠h0.length:=λz=>by subst z;rw[g]at gr;cases gr
 let nx:lx≠h0.length:=λz=>by subst z;rw[g]at gx;cases gx
 let hl:=(SC.mp g).1;refine bG ?_;unfold dY;rw[aD];simp;rfl';rw[aD,Aw];refine Iy λh1 x y x1 t1=>?_;simp;refine⟨_,fV (x1 _ _ g)<|by simp,?_⟩;let xA:Ext h0 (h1.set h0.length<|MO.ins "Folding"<|gI "tree" (.ref h.length) []):=(x0.trans x1).setN<|Uv _;let fr:∀(i:Nat) o,i≠h0.length->h1[i]?=a_ o->(h1.set h0.length<|MO.ins "Folding"<|gI "tree" (.ref h.length) [])[i]?=a_ o:=λi o hi e=>aG e<|Va hi;let f2:(h1.set h0.length<|MO.ins "Folding"<|gI "tree" (.ref h.length) [])[h0.length]?=a_ (.ins "Folding" [("tree",.ref h.length)]):=cD<|x1 _ _ g;let t2:=fr _ _ ⋯ t1;let r2:=fr _ _ nr<|x1 _ _ gr;let y2:=fr _ _ nx<|x1 _ _ gx;let l1:=x1.len;generalize h1.set h0.length (MO.ins "Folding"<|gI "tree" (.ref h.length) [])=h2 at xA f2 t2 r2 y2;clear fr;let l3:=(SC.mp t2).1;rfl';rw[aD];let hc:=eZ (m:=mV 2) (js:=[b_]) (tg:=gN 0) (tst:=lQ) (elt:=mSl (mV 0) nJ<|mP<|o_ 4) (δ:=[c_ h0.length,a_<|.tup [.ref lr,.ref lx],c_ lr,c_ lx,b_,b_,b_,b_,b_]) (h:=h2) (h1:=h2) (n:=lr) (ys:=([]:X9 0)) (emb:=id) (λt=>b_) (by simp) r2 (by simp)<|λt ht=>nomatch ht;let x3:Ext h2 (h2++[MO.lst []]):=z_ _;let r3:(h2++[MO.lst []])[h2.length]?=a_ (.lst []):=aF;let hc:bZ [b_] (aR<|mV 2) (gN 0) lQ (mSl (mV 0) nJ<|mP<|o_ 4) [c_ h0.length,a_<|.tup [.ref lr,.ref lx],c_ lr,c_ lx,b_,b_,b_,b_,b_] h2=.ok (.ref h2.length) (h2++[MO.lst []]):=hc;generalize h2.length=l4 at hc r3 l3;generalize h2++[MO.lst []]=h3 at hc r3 x3;let l5:=(SC.mp r3).1;let mf:=bB "fill" 2 AH (aA (bZ [b_] (aR<|mV 2) (gN 0) lQ<|mSl (mV 0) nJ<|mP<|o_ 4)<|aA (mV 3) aC) [c_ h0.length,a_<|.tup [.ref lr,.ref lx],c_ lr,c_ lx,b_,b_,b_,b_,b_] h2 (mUn (aU "tree")<|mV 0) iS (by have:aU "tree" (.ref h0.length) h2=.ok (.ref h.length) h2:=bE f2 rfl;simp[this]) t2 (by simp[AH]) rfl;rw[Pr,mf];simp[hc];refine Iz (x3 _ _ t2) r3 (x3 _ _ y2) λlm lf h4 k4 lm4 t4 m4=>?_;let T5:=k4 _ _ ⋯ (x3 _ _ f2);let x4:Ext h0 h4:=λi o e=>k4 i o (by have:=(SC.mp e).1;omega)<|(xA.trans x3) _ _ e;let r4:=k4 _ _ (by intro z;subst z;rw[t2]at r2;cases r2)<|x3 _ _ r2;let b4:=(SC.mp m4).1;let d4:=(SC.mp t4).1;let x34:=x3.len;rfl';rw[aD];refine kY T5 (by simp) λh6 jx f6 g6 l6=>?_;let f6:h6[h0.length]?=a_ (.ins "Folding" [("tree",.ref h.length),("leaves",.ref h4.length)]):=f6;rfl';refine AR (n:=lr) (h1:=h6) (by simp) (jx _ _ nr r4) ?_;show k h.length lm lf h4.length _ (λi o e=>jx i o (by have:=(SC.mp e).1;omega)<|x4 _ _ e) ⋯ ⋯ ⟨f6,jx _ _ ⋯ t4,⟨_,Tb.nil<|jx _ _ ⋯ m4,λx=>.inl ⟨rfl,rfl⟩⟩,⟨_,Tb.nil g6,λx=>.inl ⟨rfl,rfl⟩⟩,⋯,⟨⋯,⋯,⋯,⋯⟩,Uv _⟩
variable{b':Nat}
def FS.base{lt lf:Nat}(f:X6 0 [])(x:X5 h')(hb:b<=b')(hl:b'<=h'.length):FS h' l lt lm lf ll b' 0 []:=by let⟨p1,p2,p3,p4⟩:=f.hi;show⟨x _ _ f.fo,x _ _ f.ti,let ⟨a,b,c⟩:=f.md;⟨a,b.ext x,c⟩,let ⟨a,b,c⟩:=f.lv;⟨a,b.ext x,λy=>(c y).imp id λ⟨_,z,_⟩=>nomatch z⟩,f.ne,⟨⋯,⋯,⋯,⋯⟩,hl⟩
def IB(h:PH):uO [] h=.ok (.tup [.ref h.length,.ref<|h.length+1]) (h++[.lst []]++[.lst []]):=by
 let w:(uO [] h).W λq h'=>q=.tup [.ref h.length,.ref<|h.length+1]/\h'=h++[.lst []]++[.lst []]:=by refine bG ?_;unfold AI;simp
 let⟨q,h',e,rfl,rfl⟩:=iW w;show e
def qT(P:x_ Dd)(d:Dd)(x:Nm):mkP (P++[d]) x=(mkP P x || (uG d&&decide (d.nm=x))):=by unfold mkP;rw[List.any_append];simp
def mW{d:Dd}(e:uG d=false)(x:Nm):mkP (P++[d]) x=mkP P x:=by rw[qT,e];simp
abbrev nT(P:x_ Dd)(p:Nm):PV:=if p=root then .str "map" else if mkP P p=true then .str "text" else .non
def AS{lt:Nat}{lf:Nat}(f:X6 n P)(p:Nm):cF [.ref lt,pv p] h=.ok (nT P p) h:=by
 let⟨g,t,ma⟩:=f.md;let w:(cF [.ref lt,pv p] h).W λq h'=>q=nT P p/\h'=h:=by
  refine bG ?_;unfold iE nT;rw[aD];simp[KY];by_cases e:p=root
  ·simp[e]
  ·simp[e];rfl';let hh:=t.has p;rcases ma p with⟨e1,e2⟩|⟨z,e1,e2⟩
   ·rw[e2]at hh;simp[f.fm,hh,e1]
   ·rw[e2]at hh;simp[f.fm,hh,t.at' e2,e1]
 let⟨q,h',e,rfl,rfl⟩:=iW w;show e
def IC{lt:Nat}{lf:Nat}(f:X6 n P)(z:Str):fC [.ref lt,pv root,.str z] h=.ok (.bl true) h:=by
 let w:(fC [.ref lt,pv root,.str z] h).W λq h'=>q=.bl true/\h'=h:=by
  refine bG ?_;unfold kM;let m1:=bB "kind_of" 1 fF (aA (mV 1) aC) [c_ lt,a_<|pv root,a_<|.str z] h (mV 0) cF (by simp) f.ti (by simp[fF]) rfl;let k1:nT P root=.str "map" := by unfold nT;rw[X2 0]
  let k2:=AS f root;rw[k1]at k2;simp[m1,k2,known,pX]
 let⟨q,h',e,rfl,rfl⟩:=iW w;show e
def inT{x:Str}(h:PH):vIn (.str x) (.tup [.str "make",.str "move",.str "drop"]) h=.ok (.bl<|decide (x="make" \/ x="move" \/ x="drop")) h:=by rw[DN rfl rfl];simp
def inB{x:Str}(h:PH):iV (.str x) (.tup [.str "back",.str "settle"]) h=.ok (.bl<|!decide (x="back" \/ x="settle")) h:=by rw[vS rfl rfl];simp
def ID(P:x_ Dd)(p:Nm):(nT P p).pl 40=true:=by
 unfold nT;split
 ·rfl
 ·split <;> rfl
def tbT:iU "Tree" = a_ eS:=by
 let n1:¬ (UB "Tree")=UB "Text" := by decide +kernel
 simp[iU,n1]
def IE{lt:Nat}{lf:Nat}(f:X6 n P)(hn:n<=200){d:Dd}(ea:d.act=.make z){g:Nm->y_ PV}(t:Tb h lm n g)(k:∀o,Tb (h.set lm o) lm (n+1) (upN g d.nm<|.tup [(.str "text"),pv root,.str z])->Q (.str "done") (h.set lm o)):(eS [.ref lt,dP d] h).W Q:=by
 let ed:dP d=.tup [X_ 0,sv d.seen,.tup [.str "make",(.str "text"),pv root,.str z]]:=by unfold dP;rw[ea];rfl
 refine bG ?_;unfold mS;rw[aD,ed];simp;rfl';rw[aD,cI];let m1:=bB "hear_make" 2 kO (aA (mV 2)<|aA (mV 4) aC) ([c_ lt,a_<|.tup [X_ 0,sv d.seen,.tup [.str "make",(.str "text"),pv root,.str z]],a_<|X_ 0,a_<|sv d.seen,a_<|.tup [.str "make",(.str "text"),pv root,.str z]]) h (mV 0) fH (by simp) f.ti (by simp[kO]) rfl;simp[m1];refine bG ?_;unfold fG;rw[aD];simp;rfl';rw[aD,cI];let m2:=bB "takes" 2 wW (aA (mV 5)<|aA (mV 6) aC) [c_ lt,a_<|X_ 0,a_<|.tup [.str "make",(.str "text"),pv root,.str z],a_<|.str "make",a_<|.str "text",a_<|pv root,a_<|.str z] h (mV 0) fC (by simp) f.ti (by simp[wW]) rfl;simp[m2,IC f];rfl';rw[aD];let⟨o,hp,t2⟩:=t.put ⋯ d.nm (.tup [(.str "text"),pv root,.str z]);let st:kN [.str z,X_ 0] h=.ok (.str z) h:=by
  let w:(kN [.str z,X_ 0] h).W λq h'=>q=.str z/\h'=h:=by refine bG ?_;unfold oO;simp[known,pX]
  let⟨q,h',e,rfl,rfl⟩:=iW w;show e
 simp[st,f.fm];refine⟨_,hp,now ?_⟩;simp;show k o t2
def kdN:¬ (UB "text")=UB "count" /\ ¬ (UB "text")=UB "choice" /\ ¬ (UB "text")=UB "bag" := by refine⟨?_,?_,?_⟩ <;> decide +kernel
def KZ(k:∀h',X5 h'->TX h' h.length 0 h.length->Q (.ref h.length) h'):(sF [.str "text"] h).W Q:=by
 let⟨n1,n2,n3⟩:=kdN;refine bG ?_;unfold sE;rw[aD];simp[n1];rfl';rw[aD];simp[n2];rfl';rw[aD];simp[n3];rfl';rw[aD,cI];simp[-C0];refine sJ (ps:=[]) (h1:=h) rfl rfl ?_;refine bG ?_;unfold gM;let g1:(h++[MO.ins "Text" []])[h.length]?=a_ (.ins "Text" []):=aF;let x1:X5 (h++[MO.ins "Text" []]):=z_ _;let l1:(h++[MO.ins "Text" []]).length=h.length+1:=by simp
 generalize h++[MO.ins "Text" []]=hA at g1 x1 l1;rw[aD,Aw];refine sJ (ps:=[]) (h1:=hA) rfl rfl ?_;refine bG ?_;unfold fI;let g2:(hA++[MO.ins "Signs" []])[hA.length]?=a_ (.ins "Signs" []):=aF;let x2:Ext hA (hA++[MO.ins "Signs" []]):=z_ _;let l2:(hA++[MO.ins "Signs" []]).length=hA.length+1:=by simp
 generalize hA++[MO.ins "Signs" []]=hB at g2 x2 l2;refine kY g2 (by simp) λhC qe gC dC lC=>⟨rfl,?_⟩;let gC:hC[hA.length]?=a_ (.ins "Signs" [("kept",.ref hB.length)]):=gC;let g3:=qe _ _ ⋯ (x2 _ _ g1);let x3:X5 hC:=λi o e=>have hi:=(SC.mp e).1;qe _ _ ⋯ (x2 _ _<|x1 _ _ e);simp;refine⟨_,fV g3<|by simp,now ?_⟩;let g4:(hC.set h.length<|.ins "Text"<|gI "signs" (.ref hA.length) [])[h.length]?=a_ (.ins "Text" [("signs",.ref hA.length)]):=cD g3;let zo:(hC.set h.length<|.ins "Text"<|gI "signs" (.ref hA.length) [])[hA.length]?=_:=aG gC ⋯;let RZ:(hC.set h.length<|.ins "Text"<|gI "signs" (.ref hA.length) [])[hB.length]?=_:=aG dC ⋯;let x4:X5 (hC.set h.length<|.ins "Text"<|gI "signs" (.ref hA.length) []):=x3.setN<|Uv _;let l4:(hC.set h.length<|.ins "Text"<|gI "signs" (.ref hA.length) []).length=hC.length:=U2 ..;generalize hC.set h.length (.ins "Text"<|gI "signs" (.ref hA.length) [])=hD at g4 zo RZ x4 l4;rw[Aw];refine sJ (ps:=[]) (h1:=hD) rfl rfl ?_;refine bG ?_;unfold fJ;let g5:(hD++[MO.ins "Marks" []])[hD.length]?=a_ (.ins "Marks" []):=aF;let x5:Ext hD (hD++[MO.ins "Marks" []]):=z_ _;let l5:(hD++[MO.ins "Marks" []]).length=hD.length+1:=by simp
 generalize hD++[MO.ins "Marks" []]=hE at g5 x5 l5;let x6:Ext hE (hE++[MO.lst []]):=z_ _;let g6:(hE++[MO.lst []])[hE.length]?=a_ (.lst []):=aF;simp;generalize hE++[MO.lst []]=hF at x6 g6;refine⟨_,fV (x6 _ _ g5)<|by simp,?_⟩;let m1:(hF.set hD.length<|.ins "Marks"<|gI "standing" (.ref hE.length) [])[hD.length]?=a_ (.ins "Marks" [("standing",.ref hE.length)]):=cD<|x6 _ _ g5;let m2:(hF.set hD.length<|.ins "Marks"<|gI "standing" (.ref hE.length) [])[hE.length]?=a_ (.lst []):=aG g6 ⋯;let fr:∀(i:Nat) o,hD[i]?=a_ o->(hF.set hD.length<|.ins "Marks"<|gI "standing" (.ref hE.length) [])[i]?=a_ o:=λi o e=>aG (x6 _ _<|x5 _ _ e) (by have:=(SC.mp e).1;omega);generalize hF.set hD.length (.ins "Marks"<|gI "standing" (.ref hE.length) [])=hG at m1 m2 fr;refine⟨_,fV (fr _ _ g4)<|show 1<1000 by omega,?_⟩;let r6:∀(i:Nat) o,i≠h.length->hG[i]?=a_ o->(hG.set h.length<|.ins "Text"<|gI "marks" (.ref hD.length) [("signs",.ref hA.length)])[i]?=a_ o:=λi o hi e=>aG e<|Va hi;let gT:(hG.set h.length<|.ins "Text"<|gI "marks" (.ref hD.length) [("signs",.ref hA.length)])[h.length]?=a_ (.ins "Text" [("signs",.ref hA.length),("marks",.ref hD.length)]):=cD<|fr _ _ g4;let xZ:X5 (hG.set h.length<|.ins "Text"<|gI "marks" (.ref hD.length) [("signs",.ref hA.length)]):=λi o e=>have hi:=(SC.mp e).1;r6 _ _ ⋯ (fr _ _<|x4 _ _ e);let a1:=r6 _ _ ⋯ (fr _ _ zo);let a2:=r6 _ _ ⋯ (fr _ _ RZ);let a3:=r6 _ _ ⋯ m1;let a4:=r6 _ _ ⋯ m2;generalize hG.set h.length (.ins "Text"<|gI "marks" (.ref hD.length) [("signs",.ref hA.length)])=hZ at gT xZ a1 a2 a3 a4;let eA:hA.length=h.length+1:=l1;let eB:hB.length=h.length+2:=⋯
 let eD:hD.length=h.length+3:=⋯;rw[eA,eD]at gT;rw[eA,eB]at a1;rw[eB]at a2;rw[eD]at a3;show k hZ xZ ⟨Uv _,gT,a1,⟨_,Tk.nil a2⟩,hE.length,[],⋯,a3,a4,Uv _,λm hm=>nomatch hm⟩
structure Fz(b n lm ll:Nat)(h h':PH):Prop where
 lo:∀(i:Nat) o,i<b->i≠lm->i≠ll->h[i]?=some o->h'[i]?=some o
 tx:∀a,TX h b n a->TX h' b (n+1) a
 ln:h.length<=h'.length
def IF{lt:Nat}{lf:Nat}(f:X6 n P)(hn:n<=200){d:Dd}(ea:d.act=.make z)(k:∀h',Fz b n lm ll h h'->FS h' l lt lm lf ll b (n+1) (P++[d])->Q (.str "done") h'):(cA [.ref l,dP d] h).W Q:=by
 let⟨g,t,ma⟩:=f.md;let⟨g2,t2,la⟩:=f.lv;let d1:=t.ne_ins f.fo;let d2:=t2.ne_ins f.fo;let d3:=t.ne_ins f.ti;let d4:=t2.ne_ins f.ti;let⟨p1,p2,p3,p4⟩:=f.hi;let bl:=f.bl;refine bG ?_;unfold dR;rw[aD];let mh:=bB "hear" 1 iU (aA (mV 1) aC) [c_ l,a_<|dP d,b_,b_] h (mUn (aU "tree")<|mV 0) eS (by simp[f.ft]) f.ti tbT rfl;simp[mh];refine IE f hn ea t λo t1=>?_;let yc:(h.set lm o)[l]?=_:=aG f.fo<|Va d1;let Te:(h.set lm o)[lt]?=_:=aG f.ti<|Va d3;let RX:Tb (h.set lm o) ll n g2:=t2.keep λob e=>aG e f.ne;let xb:∀(i:Nat) xs,h[i]?=a_ (.lst xs)->(h.set lm o)[i]?=a_ (.lst xs):=λi xs e=>aG e<|Va<|t.ne_lst e;let z7:∀(i:Nat) ob,i≠lm->h[i]?=a_ ob->(h.set lm o)[i]?=a_ ob:=λi ob hi e=>aG e<|Va hi;let TV:(h.set lm o).length=h.length:=U2;generalize h.set lm o=h1 at t1 yc Te RX xb z7 TV;rfl';rw[aD];simp[dP2];rfl';rw[aD,cI];let i0:atI (X8 0) 0=a_ (.str "make"):=by rw[ea];show aK (i:=0) rfl
 let i1:atI (X8 0) 1=a_ (.str "text"):=by rw[ea];show aK (i:=1) rfl
 let mA:=bB "add_leaf" 2 mU (aA (i_ (mV 1)<|o_ 0)<|aA (i_ (mV 3)<|o_ 1) aC) [c_ l,a_<|dP d,a_<|.str "done",a_<|.tup<|X8 0] h1 (mV 0) eM (by simp) yc (by simp[mU]) rfl;let em:uG d=true:=by unfold uG;rw[ea]
 generalize aT d.act=A at i0 i1 mA;simp[i0,mA,dP0,i1];refine bG ?_;unfold eK;rw[aD];simp;refine KZ λh2 x2 lc=>?_;let dr:=x2.len;generalize xg:h1.length=c at lc;rfl';let Up:aU "leaves" (.ref l) h2=.ok (.ref ll) h2:=bE (x2 _ _ yc) rfl;let nn:hV (.ref c) .non h2=.ok (.bl true) h2:=rfl;let⟨o3,lq,t3⟩:=(RX.ext x2).put ⋯ d.nm (.ref c);simp[nn,Up];refine⟨_,lq,now ?_⟩;simp;let kp:∀(i:Nat) ob,i≠lm->i≠ll->h[i]?=a_ ob->(h2.set ll o3)[i]?=a_ ob:=λi ob a b e=>aG (x2 _ _<|z7 i ob a e)<|Va b;let km:∀(i:Nat) ob,i≠ll->h1[i]?=a_ ob->(h2.set ll o3)[i]?=a_ ob:=λi ob b e=>aG (x2 _ _ e)<|Va b;let ln2:h.length<=(h2.set ll o3).length:=by rw[U2];omega
 let kT:∀a,TX h b n a->TX (h2.set ll o3) b (n+1) a:=λa ⟨p,q,r,⟨f1,v5⟩,s,S,bs,m⟩=>by
  let ne1:∀{i:Nat}{cn:Str}{fs:x_ (Str×PV)},h[i]?=a_ (.ins cn fs)->(h2.set ll o3)[i]?=a_ (.ins cn fs):=λe=>kp _ _ (t.ne_ins e) (t2.ne_ins e) e;refine⟨p,ne1 q,ne1 r,⟨f1,(v5.keep λo e=>kp _ _ ⋯ ⋯ e).more ⋯⟩,s,S,bs,(m.keep λi o hi e=>?_).more<|Vb _⟩;rcases hi with rfl|rfl
  ·show kp _ _ ⋯ ⋯ e
  ·show kp _ _ ⋯ ⋯ e
 refine k _ ⟨λi ob _ a b e=>kp i ob a b e,kT,ln2⟩ ⟨kp _ _ d1 d2 f.fo,kp _ _ d3 d4 f.ti,⟨_,t1.keep λob e=>km _ _ f.ne e,λx=>?_⟩,⟨_,t3,λx=>?_⟩,f.ne,f.hi,⋯⟩
 ·rw[qT,em]
  change _\/∃z',_/\(if x=d.nm then _ else g x)=_
  by_cases q:x=d.nm
  ·show .inr ⟨z,by simp[q],by rw[if_pos q]⟩
  ·let q':¬ d.nm=x:=λe=>q e.symm
   change(_/\(if x=d.nm then _ else g x)=b_)\/_
   rw[if_neg q];simpa[q'] using ma x
 ·rw[qT,em];by_cases q:x=d.nm
  ·refine .inr ⟨c,by simp[q],by change(if x=d.nm then _ else g2 x)=_;rw[if_pos q],?_⟩;let⟨p,q,r,⟨f1,v5⟩,s,S,bs,m⟩:=lc;let k9:∀(i:Nat) o,ll≠i->h2[i]?=a_ o->(h2.set ll o3)[i]?=a_ o:=λi o hi e=>aG e hi;show⟨⋯,k9 _ _ ⋯ q,k9 _ _ ⋯ r,⟨f1,(v5.keep λo e=>k9 _ _ ⋯ e).more ⋯⟩,s,S,⋯,(m.keep λi o hi e=>k9 _ _ (by rcases hi with rfl|rfl <;> omega) e).more ⋯⟩
  ·let q':¬ d.nm=x:=λe=>q e.symm;let eg:upN g2 d.nm (.ref c) x=g2 x:=if_neg q;rw[eg];rcases la x with⟨e1,e2⟩|⟨c',e1,e2,e3⟩
   ·show .inl ⟨by simp[e1,q'],e2⟩
   ·show .inr ⟨c',by simp[e1],e2,kT _ e3⟩
abbrev thA:Ac->y_ Nm
 |.make _=>b_
 |.write t _ _ _=>a_ t
 |.cut t _=>a_ t
 |.mk _ t _ _=>a_ t
abbrev wdA:Ac->Str
 |.make _=>"make"
 |.write _ _ _ _=>"write"
 |.cut _ _=>"cut"
 |.mk w _ _ _=>w
abbrev WdT(w:Str):Prop:=w="write" \/ w="cut" \/ w="mark" \/ w="clear"
def IG{a:Ac}(ha:KdA a){t:Nm}(e:thA a=a_ t):atI (aT a) 0=a_ (.str<|wdA a)/\atI (aT a) 1=a_ (pv t)/\WdT (wdA a)/\∀z,a≠.make z:=by
 cases a with
 |make z=>cases e
 |write t u s w=>cases e;show⟨aK (i:=0) rfl,aK (i:=1) rfl,.inl rfl,λz=>nofun⟩
 |cut t g=>cases e;show⟨aK (i:=0) rfl,aK (i:=1) rfl,.inr<|.inl rfl,λz=>nofun⟩
 |mk w t x y=>
  cases e
  refine⟨aK (i:=0) rfl,aK (i:=1) rfl,?_,λz=>nofun⟩;rcases ha with rfl|rfl
  ·show .inr (.inr<|.inl rfl)
  ·show .inr (.inr<|.inr rfl)
abbrev idD(P:x_ Dd)(d:Dd):Bool:=match thA d.act with
 |some t=>!mkP P t
 |none=>false
abbrev lM(P:x_ Dd)(d:Dd):Str:=if idD P d=true then "idle" else "done"
def L0(hw:WdT w):wN [("add","count"),("choose","choice"),("put","bag"),("take","bag"),("write","text"),("cut","text"),("mark","text"),("clear","text")] w=a_ (UB "text"):=by rcases hw with rfl|rfl|rfl|rfl <;> decide +kernel
def NQ(hw:WdT w)(h:PH):kQ [.str w] h=.ok (.str "text") h:=by
 let q:(kQ [.str w] h).W λq h'=>q=.str "text" /\ h'=h:=by refine bG ?_;unfold oP;let e:=L0 hw;simp[vGd,gdV,e]
 let⟨q,h',e,rfl,rfl⟩:=iW q;show e
def IH(hw:WdT w):¬ (w="make" \/ w="move" \/ w="drop")/\¬ (w="back" \/ w="settle"):=by rcases hw with rfl|rfl|rfl|rfl <;> constructor <;> decide +kernel
def tbX:iU "Text" = a_ eR:=by simp[iU]
def LvA.more(a:LvA h b n f P):LvA h b (n+1) f P:=λx=>(a x).imp id λ⟨c,p,q,r⟩=>⟨c,p,q,(FL.of (λ_ _ e=>e)<|Uv _).tx _ r⟩
def FS.quiet{lt:Nat}{lf:Nat}(f:X6 n P){d:Dd}(e:uG d=false):X6 (n+1) (P++[d]):=⟨f.fo,f.ti,let ⟨a,b,c⟩:=f.md;⟨a,b.more<|Vb _,λx=>by rw[mW e];show c x⟩,let ⟨a,b,c⟩:=f.lv;⟨a,b.more<|Vb _,λx=>by rw[mW e];show c.more x⟩,f.ne,f.hi,f.bl⟩
def II{lt:Nat}{lf:Nat}(f:X6 n P)(hn:n<=60){d:Dd}(D:Wf d)(rt:∀e∈P,e.nm≠root)(k:∀h',Fz b n lm ll h h'->FS h' l lt lm lf ll b (n+1) (P++[d])->Q (.str<|lM P d) h'):(cX [.ref l,dP d] h).W Q:=by
 refine bG ?_;unfold iG;rw[aD];simp[dP2];rfl';rw[aD,cI];cases et:thA d.act with
 |none=>
  obtain⟨z,ea⟩:∃z,d.act=.make z:=by cases e:d.act <;> rw[e]at et <;> first|exact⟨_,rfl⟩|cases et
  let mt:=bB "hear_tree" 1 kR (aA (mV 1) aC) [c_ l,a_<|dP d,a_<|.tup<|X8 0] h (mV 0) cA (by simp) f.fo (by simp[kR]) rfl;let i0:atI (X8 0) 0=a_ (.str "make"):=by rw[ea];show aK (i:=0) rfl
  let e1:lM P d="done" := by unfold lM idD;rw[et];rfl
  rw[e1]at k;generalize aT d.act=A at mt i0;simp[i0,inT,mt];show IF f ⋯ ea k
 |some th=>
  let⟨i0,i1,hw,nm⟩:=IG D.act et;let⟨n1,n2⟩:=IH hw;let em:uG d=false:=by unfold uG;cases e:d.act <;> first|rfl|exact(nm _ e).elim
  let same:Q (.str<|lM P d) h:=k h ⟨λ_ _ _ _ _ e=>e,(FL.of (λ_ _ e=>e)<|Uv _).tx,Uv _⟩<|f.quiet em;let kr:mkP P root=false:=by unfold mkP;rw[List.any_eq_false];intro y hy z;rw[UQ]at z;show rt y hy<|of_decide_eq_true z.2
  let j5:=bB "kind_of" 1 fF (aA (i_ (mV 2)<|o_ 1) aC) [c_ l,a_<|dP d,a_<|.tup<|X8 0] h (mUn (aU "tree")<|mV 0) cF (by simp[f.ft]) f.ti (by simp[fF]) rfl;let ne:=GN (h:=h) (ID P th) (y:=.str "text") rfl;let yw:(nT P th=.str "text")↔mkP P th=true:=by
   unfold nT;by_cases c:th=root
   ·rw[if_pos c,c,kr]
    decide +kernel
   ·rw[if_neg c];cases mkP P th <;> simp
  let ml:=λ(c:Nat)(T:TX h b n c)(hv:vAt (.ref ll) (pv th) h=.ok (.ref c) h)=>bB "hear" 1 iU (aA (mV 1) aC) [c_ l,a_<|dP d,a_<|.tup<|X8 0] h (i_ (mUn (aU "leaves")<|mV 0)<|i_ (mV 2)<|o_ 1) eR (by simp[f.fl,i1,hv]) T.2.1 tbX rfl;let kf:=NQ hw h;generalize wdA d.act=wd at i0 hw n1 n2 kf;generalize aT d.act=A at i0 i1 j5 ml;simp[-BK,-mE,i0];rw[BK,inT,decide_eq_false n1];simp;rfl';rw[aD,cI];simp[-mE,i0];rw[mE,inB,decide_eq_false n2];simp;rw[aD,cI];cases ei:mkP P th with
  |false=>
   let c:¬ nT P th=.str "text" := λz=>by have:=yw.mp z;rw[ei]at this;cases this
   rw[decide_eq_false c]at ne;let e1:lM P d="idle" := by unfold lM idD;rw[et];simp[ei]
   rw[e1]at same;simp[j5,i1,i0,AS f,kf,ne];show same
  |true=>
   let c:=yw.mpr ei;rw[decide_eq_true c]at ne;let e1:lM P d="done" := by unfold lM idD;rw[et];simp[ei]
   rw[e1]at k;simp[j5,i1,i0,AS f,kf,ne];rfl';let⟨g,t,la⟩:=f.lv;rcases la th with⟨e2,_⟩|⟨c,e2,e3,e4⟩
   ·rw[ei]at e2;cases e2
   ·let ml:=ml c e4<|t.at' e3;simp[ml];refine Iw e4 f.bl hn D.act nm λh' F=>?_;rfl';simp;let⟨p1,p2,p3,p4⟩:=f.hi;refine k _ ⟨λj o hj _ _ e=>F.lo j o hj e,F.tx,F.ln⟩ ⟨F.lo _ _ ⋯ f.fo,F.lo _ _ ⋯ f.ti,let ⟨a,b,c⟩:=f.md;⟨a,(b.keep λo e=>F.lo _ _ ⋯ e).more<|Vb _,λx=>by rw[mW em];show c x⟩,⟨g,(t.keep λo e=>F.lo _ _ ⋯ e).more<|Vb _,λx=>?_⟩,f.ne,f.hi,U1 f.bl F.ln⟩;rw[mW em];show(la x).imp id λ⟨c',a1,a2,a3⟩=>⟨c',a1,a2,F.tx _ a3⟩
@[reducible]def Pl:=x_ St
abbrev bX(p:Pl):Nm:=match p.getLast? with
 |some x=>(x.h,x.n)
 |none=>root
def Fo{u:Pl}{n:Int}:∀k,bX (nK u s hd n k)=(hd,n)
 |0=>by simp[bX,nK]
 |k+1=>by simp[bX,nK]
def zU{u:Pl}{n:Int}{p:Pl}(h:p∈iJ u s hd n m):bX p=(hd,n):=by unfold iJ at h;let⟨k,_,rfl⟩:=UO.mp h;show Fo k
def L3{u:Pl}{n:Int}:(iJ u s hd n m).Nodup:=by unfold iJ;refine VP.mpr<|List.nodup_range.imp λ{a b} h e=>h ?_;have:=congrArg List.length e;rw[jQ,jQ]at this;omega
structure Gs where
 lf:Nm->y_ (Nm×x_ Pl)
 U:Nm->y_ Nm
abbrev bV(g L:x_ Pl):x_ Pl:=L.filter λp=>decide (p∉g)
abbrev cP(t:Nm)(g:x_ Pl)(lf:Nm->y_ (Nm×x_ Pl)):Nm->y_ (Nm×x_ Pl):=λw=>(lf w).map λx=>if x.1=t then(x.1,bV g x.2) else x
abbrev qU(t:Nm)(g:x_ Pl)(x:Nm×x_ Pl):Bool:=decide (x.1=t)&&(!x.2.isEmpty&&(bV g x.2).isEmpty)
abbrev iK(t:Nm)(g:x_ Pl)(lf:Nm->y_ (Nm×x_ Pl))(U:Nm->y_ Nm)(nm:Nm):Nm->y_ Nm:=λw=>match lf w with
 |some x=>if qU t g x=true then a_ nm else U w
 |none=>U w
abbrev gst(P:x_ Dd)(s:Gs)(d:Dd):Gs:=if idD P d=true then s else match d.act with
 |.make _=>s
 |.write t u sd w=>⟨upN s.lf d.nm (t,plN d u sd w),s.U⟩
 |.cut t g=>⟨cP t g s.lf,iK t g s.lf s.U d.nm⟩
 |.mk _ _ _ _=>s
abbrev aM(os:x_ Dd):Nat->Gs
 |0=>⟨λ_=>b_,λ_=>b_⟩
 |q+1=>match os[q]? with
  |some d=>gst (os.take q) (Q_ q) d
  |none=>Q_ q
def nH{q:Nat}{d:Dd}(e:os[q]?=a_ d):Q_ (q+1)=gst (os.take q) (Q_ q) d:=by
 change(match os[q]? with|some d=>gst (os.take q) (Q_ q) d|none=>Q_ q)=_
 rw[e]
def xG(A B L:x_ Pl):bV B (bV A L)=bV (A++B) L:=by
 unfold bV;rw[List.filter_filter];refine List.filter_congr λp _=>?_;by_cases h1:p∈A <;> by_cases h2:p∈B <;> simp[h1,h2]
def Cb(L:x_ Pl):bV [] L=L:=by unfold bV;rw[XS];intro p _;simp
def IJ(t:Nm)(lf:Nm->y_ (Nm×x_ Pl)):cP t [] lf=lf:=by
 funext w;unfold cP;cases lf w with
 |none=>rfl
 |some x=>
  change a_ (if x.1=t then(x.1,bV [] x.2) else x)=a_ x
  split
  ·rw[Cb]
  ·rfl
def IK(t:Nm)(lf:Nm->y_ (Nm×x_ Pl))(U:Nm->y_ Nm)(nm:Nm):iK t [] lf U nm=U:=by
 funext w;unfold iK;cases lf w with
 |none=>rfl
 |some x=>
  change(if qU t [] x=true then _ else _)=_
  rw[if_neg];unfold qU;rw[Cb];cases x.2.isEmpty <;> simp
def IL(t:Nm)(A B:x_ Pl)(lf:Nm->y_ (Nm×x_ Pl)):cP t B (cP t A lf)=cP t (A++B) lf:=by
 funext w;unfold cP;cases lf w with
 |none=>rfl
 |some x=>
  by_cases c:x.1=t
  ·simp[c,xG]
  ·simp[c]
def IM(t:Nm)(A B:x_ Pl)(lf:Nm->y_ (Nm×x_ Pl))(U:Nm->y_ Nm)(nm:Nm):iK t B (cP t A lf) (iK t A lf U nm) nm=iK t (A++B) lf U nm:=by
 funext w;unfold iK cP qU;cases e:lf w with
 |none=>simp[e]
 |some x=>
  by_cases c:x.1=t
  ·simp only[Xb,c,if_true,decide_true,Bool.true_and,xG];let le:(bV (A++B) x.2).isEmpty=false->(bV A x.2).isEmpty=false:=λh=>by
    rw[<-xG]at h;cases e2:bV A x.2 with
    |nil=>rw[e2]at h;show h
    |cons a r=>rfl
   let l2:(bV A x.2).isEmpty=false->x.2.isEmpty=false:=λh=>by
    cases e2:x.2 with
    |nil=>rw[e2]at h;show h
    |cons a r=>rfl
   cases e1:(bV (A++B) x.2).isEmpty with
   |false=>simp[le e1]
   |true=>
    cases e2:(bV A x.2).isEmpty with
    |false=>simp[l2 e2]
    |true=>simp
  ·simp[c]
structure GI(os:x_ Dd)(q:Nat)(s:Gs):Prop where
 nd:∀w t L,s.lf w=some (t,L)->L.Nodup/\(∀p∈L,bX p=w)/\L.length<=12
 x:∀w,(s.lf w).isSome=true->w∈(os.take q).map (·.nm)
 u:∀w,(s.U w).isSome=true->(s.lf w).isSome=true
 ni:∀i d,i<q->os[i]?=some d->idD (os.take i) d=true->s.lf d.nm=none
variable{g:x_ Pl}{lf:Nm->y_ (Nm×x_ Pl)}
def sL{t:Nm}{w:Nm}:(cP t g lf w).isSome=(lf w).isSome:=by unfold cP;rw[Wm]
def xH(nd:(os.map (·.nm)).Nodup){i:Nat}{d e:Dd}(h1:os[i]?=a_ d)(h2:os[j]?=a_ e)(h:d.nm=e.nm):i=j/\d=e:=by
 let e1:(os.map (·.nm))[i]?=a_ d.nm:=by rw[UD,h1];rfl
 let e2:(os.map (·.nm))[j]?=a_ e.nm:=by rw[UD,h2];rfl
 let hi:=(SC.mp e1).1;have:i=j:=(List.getElem?_inj hi nd).mp (by rw[e1,e2,h]);subst this;rw[h1]at h2;show⟨rfl,UW h2⟩
def AU(nd:(os.map (·.nm)).Nodup){q:Nat}{y:Dd}(e:os[q]?=a_ y):os.take (q+1)=os.take q++[y]/\y.nm∉(os.take q).map (·.nm):=by
 refine⟨by rw[V5,e];rfl,λz=>?_⟩;let⟨d,hd,en⟩:=UO.mp z;let⟨j,hj,ej⟩:=List.mem_iff_getElem.mp hd;rw[VE]at hj;let Ud:os[j]?=a_ d:=by rw[List.getElem_take]at ej;rw[Vl ⋯,ej]
 have:=(xH nd Ud e en).1;omega
def sM{os:x_ Dd}(nd:(os.map (·.nm)).Nodup)(wf:∀d∈os,Wf d):∀q,q<=os.length->GI os q (Q_ q)
 |0,_=>⟨λ_ _ _ h=>(nomatch h),λ_ h=>(nomatch h),λ_ h=>(nomatch h),λ_ _ h=>absurd h (Nat.not_lt_zero _)⟩
 |q+1,hq=>by
  let I:=sM nd wf q ⋯;obtain⟨d,hd⟩:∃d,os[q]?=a_ d:=⟨_,Vl ⋯⟩;let⟨tk,ny⟩:=AU nd hd;let up:∀w,w∈(os.take q).map (·.nm)->w∈(os.take<|q+1).map (·.nm):=λw h=>by rw[tk,UZ];show U8 _ h
  let me:d.nm∈(os.take<|q+1).map (·.nm):=by rw[tk,UZ];show Ut _ (by simp)
  let l0:(Q_ q).lf d.nm=b_:=by
   cases e:(Q_ q).lf d.nm with
   |none=>rfl
   |some v=>exact(ny<|I.x _ (by rw[e];rfl)).elim
  let same:idD (os.take q) d=true\/(∀t u sd w,d.act≠.write t u sd w)->GI os (q+1) (Q_ q):=λ_=>⟨I.nd,λw h=>up w (I.x w h),I.u,λi e hi he h=>by
   rcases Nat.lt_or_ge i q with z|z
   ·show I.ni i e z he h
   ·have:i=q:=⋯;subst this;rw[hd]at he;cases he
    show l0⟩
  rw[nH hd];unfold gst;by_cases ei:idD (os.take q) d=true
  ·rw[if_pos ei];show same<|.inl ei
  ·rw[if_neg ei];let ni:∀i e,i<q+1->os[i]?=a_ e->idD (os.take i) e=true->(Q_ q).lf e.nm=b_/\e.nm≠d.nm:=λi e hi he h=>by
    let z:i<q:=by
     rcases Nat.lt_or_ge i q with z|z
     ·show z
     ·have:i=q:=⋯;subst this;rw[hd]at he;cases he
      show(ei h).elim
    show⟨I.ni i e z he h,λw=>by have:=(xH nd he hd w).1;omega⟩
   cases ea:d.act with
   |make z=>exact same (.inr λ_ _ _ _=>by rw[ea];nofun)
   |mk w t x y=>exact same (.inr λ_ _ _ _=>by rw[ea];nofun)
   |write t u sd w=>
    let D:=(wf d<|UP hd).act;rw[ea]at D;refine⟨λw' t' L h=>?_,λw' h=>?_,λw' h=>?_,λi e hi he h=>?_⟩
    ·let h:(if w'=d.nm then a_ (t,plN d u sd w) else(Q_ q).lf w')=a_ (t',L):=h;by_cases c:w'=d.nm
     ·rw[if_pos c]at h;cases h
      show⟨L3,λp hp=>by rw[zU hp,c],by rw[qQ];show D.2.2.1⟩
     ·rw[if_neg c]at h;show I.nd w' t' L h
    ·let h:(if w'=d.nm then a_ (t,plN d u sd w) else(Q_ q).lf w').isSome=true:=h;by_cases c:w'=d.nm
     ·rw[c];show me
     ·rw[if_neg c]at h;show up _<|I.x _ h
    ·change(if w'=d.nm then a_ (t,plN d u sd w) else(Q_ q).lf w').isSome=true
     split
     ·rfl
     ·show I.u w' h
    ·change(if e.nm=d.nm then _ else(Q_ q).lf e.nm)=b_
     let⟨a,b⟩:=ni i e hi he h;rw[if_neg b,a]
   |cut t g=>
    refine⟨λw' t' L h=>?_,λw' h=>?_,λw' h=>?_,λi e hi he h=>?_⟩
    ·let h:((Q_ q).lf w').map (λx=>if x.1=t then(x.1,bV g x.2) else x)=a_ (t',L):=h;let⟨⟨t1,L1⟩,e1,e2⟩:=UI.mp h;let⟨a,b,c⟩:=I.nd w' t1 L1 e1;dsimp only at e2;split at e2
     ·cases e2
      show⟨XT.nodup a,λp hp=>b p (WJ.mp hp).1,U1 (WZ _ _) c⟩
     ·cases e2
      show⟨a,b,c⟩
    ·rw[sL]at h;show up _<|I.x _ h
    ·change(cP t g (Q_ q).lf w').isSome=true
     rw[sL];let h:(iK t g (Q_ q).lf (Q_ q).U d.nm w').isSome=true:=h;unfold iK at h;cases e:(Q_ q).lf w' with
     |some x=>rfl
     |none=>rw[e]at h;rw[<-e];show I.u w' h
    ·have:=(ni i e hi he h).1
     change cP t g (Q_ q).lf e.nm=b_
     unfold cP;rw[this];rfl
abbrev tsW(x:Nm×Pl):X9 0:=[pv x.1,pl x.2]
instance:KO tsW:=⟨λ{a b} e=>by
 unfold tsW at e;simp at e;show Prod.ext (sH e.1) (AO e.2),λa=>by
 show[pv a.1,pl a.2].all (PV.ky 5)=true
 let h1:(pv a.1).ky 5=true:=rfl;let h2:(pl a.2).ky 5=true:=by
  change(a.2.map stp).all (PV.ky 4)=true
  rw[Xu];show UK.mpr λy _=>rfl
 simp[h1,h2]⟩
abbrev wrF(lf:Nm->y_ (Nm×x_ Pl))(x:Nm×Pl):y_ PV:=match lf (bX x.2) with
 |some y=>if y.1=x.1/\x.2∈y.2 then a_ (pv<|bX x.2) else b_
 |none=>b_
abbrev slF(lf:Nm->y_ (Nm×x_ Pl))(w:Nm):y_ PV:=(lf w).map λx=>.int x.2.length
structure UA(h:PH)(lu m n:Nat)(s:Gs):Prop where
 ins:∃fs,h[lu]?=some (.ins "Undoing" fs)/\fs.lookup ("undone" : Str)=c_ (lu+1)/\fs.lookup ("placers" : Str)=c_ (lu+2)/\fs.lookup ("writers" : Str)=c_ (lu+4)/\fs.lookup ("signs_left" : Str)=c_ (lu+5)/\fs.lookup ("hear" : Str)=none/\fs.lookup ("hear_write" : Str)=none/\fs.lookup ("hear_cut" : Str)=none
 un:Tb h (lu+1) m (λx=>(s.U x).map pv)
 pl:∃f,Tb h (lu+2) n f
 wr:Tk tsW h (lu+4) (12*n) (wrF s.lf)
 sl:Tb h (lu+5) n (slF s.lf)
variable{lu:Nat}
def UA.keep{s:Gs}(u:UA h lu m n s)(k:∀(i:Nat) o,lu<=i->i<=lu+5->h[i]?=a_ o->h'[i]?=a_ o):UA h' lu m n s:=⟨let ⟨fs,a,r⟩:=u.ins;⟨fs,k _ _ ⋯ ⋯ a,r⟩,u.un.keep λo e=>k _ _ ⋯ ⋯ e,let ⟨f,t⟩:=u.pl;⟨f,t.keep λo e=>k _ _ ⋯ ⋯ e⟩,u.wr.keep λo e=>k _ _ ⋯ ⋯ e,u.sl.keep λo e=>k _ _ ⋯ ⋯ e⟩
def UA.more{s:Gs}(u:UA h lu m n s){m':Nat}(hm:m<=m')(hn:n<=n'):UA h lu m' n' s:=⟨u.ins,u.un.more hm,let ⟨f,t⟩:=u.pl;⟨f,t.more hn⟩,u.wr.more ⋯,u.sl.more hn⟩
def UA.fu{s:Gs}(u:UA h lu m n s):aU "undone" (.ref lu) h=.ok (.ref<|lu+1) h:=let ⟨_,a,b,_⟩:=u.ins;bE a b
def UA.fp{s:Gs}(u:UA h lu m n s):aU "placers" (.ref lu) h=.ok (.ref<|lu+2) h:=let ⟨_,a,_,b,_⟩:=u.ins;bE a b
def UA.fw{s:Gs}(u:UA h lu m n s):aU "writers" (.ref lu) h=.ok (.ref<|lu+4) h:=let ⟨_,a,_,_,b,_⟩:=u.ins;bE a b
def UA.dom{s:Gs}(u:UA h lu m n s)(L:x_ Nm)(hL:∀x,(s.U x).isSome=true->x∈L):UA h lu L.length n s:=⟨u.ins,u.un.dom L λx hx=>hL x (by rw[Wm]at hx;show hx),u.pl,u.wr,u.sl⟩
abbrev gs0:Gs:=⟨λ_=>b_,λ_=>b_⟩
def IP(k:∀h',X5 h'->h'.length=h.length+6->UA h' h.length 0 0 gs0->Q (.ref h.length) h'):(iQ "Undoing" 0 eI aC δ h).W Q:=by
 refine sJ (ps:=[]) (h1:=h) rfl rfl ?_;refine bG ?_;unfold eC;let g1:(h++[MO.ins "Undoing" []])[h.length]?=a_ (.ins "Undoing" []):=aF;let x1:X5 (h++[MO.ins "Undoing" []]):=z_ _;let l1:(h++[MO.ins "Undoing" []]).length=h.length+1:=by simp
 generalize h++[MO.ins "Undoing" []]=hA at g1 x1 l1;rw[aD];refine kY g1 (by simp) λhB xt gB dB lB=>now ?_;rw[aD];refine kY gB (show 1<1000 by omega) λhC qe gC dC lC=>now ?_;rw[aD];refine kY gC (show 2<1000 by omega) λhD v8 gD dD lD=>now ?_;rw[aD];refine kY gD (show 3<1000 by omega) λhE SU gE dE lE=>now ?_;refine kY gE (show 4<1000 by omega) λhF zl gF dF lF=>⟨rfl,?_⟩;let fr:∀(i:Nat) o,i≠h.length->hD[i]?=a_ o->hF[i]?=a_ o:=λi o hi e=>zl _ _ hi<|SU _ _ hi e;let u1:=fr _ _ ⋯ (v8 _ _ ⋯ (qe _ _ ⋯ dB));let u2:=fr _ _ ⋯ (v8 _ _ ⋯ dC);let u4:=zl _ _ ⋯ dE;let u5:=dF;rw[l1]at u1 gF;rw[lB,l1]at u2 gF;rw[lC,lB,l1]at gF;rw[lD,lC,lB,l1]at u4 gF;rw[lE,lD,lC,lB,l1]at u5 gF;refine k hF (λi o e=>have hi:=(SC.mp e).1;fr _ _ ⋯ (v8 _ _ ⋯ (qe _ _ ⋯ (xt _ _ ⋯ (x1 _ _ e))))) ⋯ ⟨⟨_,gF,rfl,rfl,rfl,rfl,rfl,rfl,rfl⟩,Tb.nil u1,⟨_,Tb.nil u2⟩,Tk.nil u4,Tb.nil u5⟩
def inM{x:Str}(hx:¬ (x="move" \/ x="drop"))(h:PH):vIn (.str x) (.tup [.str "move",.str "drop"]) h=.ok (.bl false) h:=by rw[DN rfl rfl];simp[hx]
abbrev Fu(lu:Nat)(h h':PH):Prop:=(∀(i:Nat) o,i≠lu+1->i≠lu+2->i≠lu+4->i≠lu+5->h[i]?=a_ o->h'[i]?=a_ o)/\h.length<=h'.length
variable{L:x_ Pl}{nm:Nm}
def NR{t:Nm}(h0:lf nm=b_)(hL:∀p∈L,bX p=nm)(x:Nm×Pl):wrF (upN lf nm (t,L)) x=if x.1=t/\x.2∈L then a_ (pv nm) else wrF lf x:=by
 unfold wrF;by_cases c:bX x.2=nm
 ·let e1:upN lf nm (t,L) (bX x.2)=a_ (t,L):=if_pos c;rw[e1,c,h0];by_cases c2:x.1=t/\x.2∈L
  ·rw[if_pos c2];show if_pos ⟨c2.1.symm,c2.2⟩
  ·rw[if_neg c2];show if_neg λz=>c2 ⟨z.1.symm,z.2⟩
 ·let e1:upN lf nm (t,L) (bX x.2)=lf (bX x.2):=if_neg c;rw[e1,if_neg λz=>c<|hL _ z.2]
variable{sd:Int}{us:Pl}
def Fp{s:Gs}(u:UA h lu m n s)(hl:lu+5<h.length)(hn:n<=60){d:Dd}{t:Nm}(ea:d.act=.write t us sd w)(ha:KdA d.act)(h0:s.lf d.nm=b_)(k:∀h',Fu lu h h'->UA h' lu m (n+1) ⟨upN s.lf d.nm (t,plN d us sd w),s.U⟩->Q .non h'):(bT [.ref lu,dP d] h).W Q:=by
 let ep:=zT ea ha h;let i1:atI (X8 0) 1=a_ (pv t):=by rw[ea];show aK (i:=1) rfl
 let i4:atI (X8 0) 4=a_ (.str w):=by rw[ea];show aK (i:=4) rfl
 let lw:w.length<=12:=by rw[ea]at ha;show ha.2.2.1
 let hL:∀p∈plN d us sd w,bX p=d.nm:=λp hp=>zU hp;let lL:(plN d us sd w).length=w.length:=qQ;refine bG ?_;unfold cW;rw[aD];simp;refine⟨[c_ lu,a_<|dP d,a_<|X_ 0,a_<|sv d.seen,a_<|.tup<|X8 0,b_],by simp[dP],?_⟩;rfl';rw[aD];let xA:X5 (h++[MO.lst<|(plN d us sd w).map pl]):=z_ _;let gA:(h++[MO.lst<|(plN d us sd w).map pl])[h.length]?=a_ (.lst<|(plN d us sd w).map pl):=aF;let lA:(h++[MO.lst<|(plN d us sd w).map pl]).length=h.length+1:=by simp
 generalize plN d us sd w=L at ep xA gA lA hL lL k;generalize h++[MO.lst<|L.map pl]=hA at ep xA gA lA;generalize aT d.act=A at i1 i4;let uA:=u.keep (h':=hA) λi o _ _ e=>xA _ _ e;refine iX (n:=h.length) (xs:=L.map pl) (h1:=hA) (λr δ h'=>r<=L.length/\Fr1 (lu+4) hA h'/\h'.length=hA.length/\Tk tsW h' (lu+4) (12*n+r) (λx=>if x.1=t/\x.2∈L.take r then a_ (X_ 0) else wrF s.lf x)/\∃x5,δ=[c_ lu,a_<|dP d,a_<|X_ 0,a_<|sv d.seen,a_<|.tup A,x5]) (by simp[ep]) gA ⟨U5 _,λ_ _ _ e=>e,rfl,uA.wr.to λx=>by simp,_,rfl⟩ (λq δ h' _ i=>i.2.1 _ _ ⋯ gA) ?_ ?_
 ·rintro r y δ h' hy ⟨hr,fr,lh,tk,x5,rfl⟩;rw[UD]at hy;let⟨p,hp,rfl⟩:=UI.mp hy;let j6:=(SC.mp hp).1;refine⟨[c_ lu,a_<|dP d,a_<|X_ 0,a_<|sv d.seen,a_<|.tup A,a_<|pl p],by simp,?_⟩;let fw:aU "writers" (.ref lu) h'=.ok (.ref<|lu+4) h':=by let⟨fs,a,_,_,b,_⟩:=uA.ins;show bE (fr _ _ ⋯ a) b
  let⟨o,iw,_,t2⟩:=tk.put ⋯ (t,p) (X_ 0);let iw:eQ (.ref<|lu+4) (.tup [pv t,pl p]) (X_ 0) h'=a_ (h'.set (lu+4) o):=iw;unfold cL;simp[fw,i1,iw];refine⟨j6,λi o hi e=>aG (fr i o hi e)<|Va hi,lh,t2.to λx=>?_⟩;let e1:L.take (r+1)=L.take r++[p]:=by rw[V5,hp];rfl
  change(if x=(t,p) then a_ (X_ 0) else if x.1=t/\x.2∈L.take r then a_ (X_ 0) else wrF s.lf x)=_
  rw[e1];by_cases c:x=(t,p)
  ·rw[if_pos c,if_pos ⟨by rw[c],by rw[c];simp⟩]
  ·rw[if_neg c];by_cases c2:x.1=t/\x.2∈L.take r
   ·rw[if_pos c2,if_pos ⟨c2.1,U8 _ c2.2⟩]
   ·rw[if_neg c2,if_neg];rintro⟨z1,z2⟩;rcases UN.mp z2 with z2|z2
    ·show c2 ⟨z1,z2⟩
    ·show c (Prod.ext z1<|ke z2)
 ·rintro δ h' ⟨hr,fr,lh,tk,x5,rfl⟩;rw[Uu]at tk;rw[WU]at tk;rfl';let u2:=λi o(a:i≠lu+4)(e:hA[i]?=a_ o)=>fr i o a e;let tw:aU "signs_left" (.ref lu) h'=.ok (.ref<|lu+5) h':=by let⟨fs,a,_,_,_,b,_⟩:=uA.ins;show bE (fr _ _ ⋯ a) b
  let⟨o,iw,t2⟩:=(uA.sl.keep (h':=h') λo e=>fr _ _ ⋯ e).put ⋯ d.nm (.int w.length);simp(disch:=omega) [i4,tw];refine⟨_,iw,k _ ⟨λi ob a1 a2 a4 a5 e=>aG (fr _ _ a4<|xA _ _ e)<|Va a5,by rw[U2];omega⟩ ⟨?_,?_,?_,?_,?_⟩⟩
  ·let⟨fs,a,b⟩:=uA.ins;show⟨fs,aG (fr _ _ ⋯ a) ⋯,b⟩
  ·show uA.un.keep λo e=>aG (fr _ _ ⋯ e) ⋯
  ·let⟨f,t⟩:=uA.pl;show⟨f,(t.keep λo e=>aG (fr _ _ ⋯ e) ⋯).more<|Vb _⟩
  ·show((tk.keep λo e=>aG e ⋯).more ⋯).to λx=>(NR h0 hL x).symm
  ·refine t2.to λx=>?_
   change(if x=d.nm then _ else slF s.lf x)=((if x=d.nm then a_ (t,L) else s.lf x).map λx=>.int x.2.length)
   by_cases c:x=d.nm
   ·rw[if_pos c,if_pos c]
    change _=a_ (PV.int L.length)
    rw[lL]
   ·rw[if_neg c,if_neg c];rfl
def Tk.look{κ:Type}[Yv 0]{ts:κ->X9 0}[K:KO ts]{f:κ->y_ PV}(t:Yt f):∃kvs,bJ h n=a_ kvs/\∀x,aP kvs (.tup<|ts x)=f x:=by let⟨E,a,_,_,e⟩:=t;show⟨_,a,λx=>by rw[kX,e]⟩
abbrev NF(lf:Nm->y_ (Nm×x_ Pl)):Prop:=∀w t L,lf w=a_ (t,L)->L.Nodup/\(∀p∈L,bX p=w)/\L.length<=12
def NF.cut(h:NF lf)(t:Nm)(g:x_ Pl):NF (cP t g lf):=λw t' L e=>by
 let⟨⟨t1,L1⟩,e1,e2⟩:=UI.mp e;let⟨a,b,c⟩:=h w t1 L1 e1;dsimp only at e2;split at e2
 ·cases e2
  show⟨XT.nodup a,λp hp=>b p (WJ.mp hp).1,U1 (WZ _ _) c⟩
 ·cases e2
  show⟨a,b,c⟩
def Ec(nd:L.Nodup){p:Pl}(hp:p∈L):(bV [p] L).length+1=L.length:=by
 induction L with
 |nil=>cases hp
 |cons x L ih=>
  rw[VC]at nd;unfold bV at ih⊢;rw[Xm];by_cases c:x=p
  ·subst c;rw[if_neg<|by simp];have:L.filter (λp=>decide (p∉[x]))=L:=by rw[XS];intro q hq;simp;show λz=>nd.1 (z▸hq)
   rw[this];simp
  ·rw[if_pos<|by simp[c]];have:=ih nd.2<|(UF.mp hp).resolve_left λz=>c z.symm;simp at this⊢;show this
def AV{p:Pl}(hp:p∉L):bV [p] L=L:=by unfold bV;rw[XS];intro q hq;simp;show λz=>hp<|z▸hq
structure Hit(lf:Nm->y_ (Nm×x_ Pl))(t:Nm)(p:Pl)(w:Nm)(L:x_ Pl):Prop where
 e:lf w=some (t,L)
 m:p∈L
 l:bX p=w
section
variable{t w:Nm}{p:Pl}(N:NF lf)
include N
def Hit.other(H:Hit lf t p w L)(hx:x≠w):cP t [p] lf x=lf x:=by
 unfold cP;cases e:lf x with
 |none=>rfl
 |some y=>
  change a_ (if y.1=t then(y.1,bV [p] y.2) else y)=a_ y
  have:p∉y.2:=λz=>hx<|((N x y.1 y.2 e).2.1 p z).symm.trans H.l;split
  ·rw[AV this]
  ·rfl
omit N in
def Hit.own(H:Hit lf t p w L):cP t [p] lf w=a_ (t,bV [p] L):=by
 unfold cP;rw[H.e]
 change a_ (if t=t then _ else _)=_
 rw[X2 0]
def Hit.wr(H:Hit lf t p w L)(x:Nm×Pl):dnN (wrF lf) (t,p) x=wrF (cP t [p] lf) x:=by
 change(if x=(t,p) then b_ else wrF lf x)=_
 unfold wrF;by_cases c:bX x.2=w
 ·rw[c,H.own,H.e];by_cases c2:x=(t,p)
  ·rw[if_pos c2];refine(if_neg ?_).symm;rintro⟨_,z⟩;rw[c2]at z;have:=(WJ.mp z).2;simp at this
  ·rw[if_neg c2];by_cases c3:t=x.1/\x.2∈L
   ·have:t=x.1/\x.2∈bV [p] L:=⟨c3.1,WJ.mpr ⟨c3.2,by simp;show λz=>c2<|Prod.ext c3.1.symm z⟩⟩
    change(if t=x.1/\x.2∈L then _ else _)=if t=x.1/\x.2∈bV [p] L then _ else _
    rw[if_pos c3,if_pos this]
   ·change(if t=x.1/\x.2∈L then _ else _)=if t=x.1/\x.2∈bV [p] L then _ else _
    rw[if_neg c3,if_neg λz=>c3 ⟨z.1,(WJ.mp z.2).1⟩]
 ·rw[H.other N c,if_neg λz=>c (by rw[z];show H.l)]
def Hit.sl(H:Hit lf t p w L)(x:Nm):upN (slF lf) w (.int<|(L.length:Int)-1) x=slF (cP t [p] lf) x:=by
 change(if x=w then _ else slF lf x)=_
 unfold slF;by_cases c:x=w
 ·rw[if_pos c,c,H.own];have:=Ec (N w t L H.e).1 H.m
  change a_ (PV.int _)=a_ (PV.int _)
  congr 2
  change(L.length:Int)-1=((bV [p] L).length:Int)
  omega
 ·rw[if_neg c,H.other N c]
def Hit.u(H:Hit lf t p w L)(U:Nm->y_ Nm)(nm x:Nm):iK t [p] lf U nm x=if x=w/\L.length=1 then a_ nm else U x:=by
 unfold iK;by_cases c:x=w
 ·rw[c,H.e];have:=Ec (N w t L H.e).1 H.m;let ne:L.isEmpty=false:=by cases e:L with|nil=>rw[e]at this;simp at this|cons a r=>rfl
  let h1:qU t [p] (t,L)=decide (L.length=1):=by unfold qU;simp only[decide_true,Bool.true_and,ne,Bool.not_false];rw[Wc,decide_eq_true_iff,List.isEmpty_iff,<-List.length_eq_zero_iff];omega
  change(if qU t [p] (t,L)=true then _ else _)=_
  rw[h1];by_cases c2:L.length=1
  ·rw[if_pos<|decide_eq_true c2,if_pos ⟨rfl,c2⟩]
  ·rw[if_neg<|ke c2,if_neg λz=>c2 z.2]
 ·rw[if_neg λz=>c z.1];cases e:lf x with
  |none=>rfl
  |some y=>
   let np:p∉y.2:=λz=>c<|((N x y.1 y.2 e).2.1 p z).symm.trans H.l
   change(if qU t [p] y=true then _ else _)=_
   rw[if_neg];unfold qU;rw[AV np];cases y.2.isEmpty <;> simp
def miss(h0:wrF lf (t,p)=b_):cP t [p] lf=lf/\∀U nm,iK t [p] lf U nm=U:=by
 let no:∀x y,lf x=a_ y->y.1=t->p∉y.2:=λx y e c z=>by
  let l:=(N x y.1 y.2 e).2.1 p z;let h0:(match lf (bX p) with|some y=>if y.1=t/\p∈y.2 then a_ (pv<|bX p) else b_|none=>b_)=b_:=h0
  rw[l,e]at h0;simp[c,z]at h0
 constructor
 ·funext x;unfold cP;cases e:lf x with
  |none=>rfl
  |some y=>
   change a_ (if y.1=t then(y.1,bV [p] y.2) else y)=a_ y
   split
   ·rename_i c;rw[AV<|no x y e c]
   ·rfl
 ·intro U nm;funext x;unfold iK;cases e:lf x with
  |none=>rfl
  |some y=>
   change(if qU t [p] y=true then _ else _)=_
   rw[if_neg];unfold qU;by_cases c:y.1=t
   ·rw[AV<|no x y e c];cases y.2.isEmpty <;> simp
   ·simp[c]
end
variable{A:X9 0}{x1 x3 x6:y_ PV}
def L4{s:Gs}(u:UA h lu m n s)(hm:m<=200/\n<=60)(N:NF s.lf){t:Nm}(i1:atI A 1=a_ (pv t))(p:Pl)(k:∀h' x6,Fu lu h h'->h'.length=h.length->UA h' lu (m+1) n ⟨cP t [p] s.lf,iK t [p] s.lf s.U nm⟩->E.nx [c_ lu,x1,a_<|pv nm,x3,a_<|.tup A,a_<|pl p,x6] h'):(bU [c_ lu,x1,a_<|pv nm,x3,a_<|.tup A,a_<|pl p,x6] h).W E:=by
 unfold bU;rw[aD];let⟨o,t2,pp,pn⟩:=u.wr.drop (t,p);let hD:=u.wr.dict;cases ew:wrF s.lf (t,p) with
 |none=>have ep:mL (.ref<|lu+4) [.tup [pv t,pl p],.non] h=.ok .non h:=pn ew .non;let⟨m1,m2⟩:=miss N ew;simp[u.fw,hD,i1,ep];rfl';let nn:hV .non .non h=.ok (.bl false) h:=rfl;simp[nn];refine k h _ ⟨λ_ _ _ _ _ _ e=>e,Uv _⟩ rfl ?_;rw[m1,m2];show u.more (Vb _)<|Uv _
 |some v=>
  let ep:mL (.ref<|lu+4) [.tup [pv t,pl p],.non] h=.ok v (h.set (lu+4) o):=(pp v ew).2 .non;obtain⟨w,L,H,ev⟩:∃w L,Hit s.lf t p w L/\v=pv w:=by
   let nu:(match s.lf (bX p) with|some y=>if y.1=t/\p∈y.2 then a_ (pv<|bX p) else b_|none=>b_)=a_ v:=ew
   cases e:s.lf (bX p) with
   |none=>rw[e]at nu;cases nu
   |some y=>
    rw[e]at nu;dsimp only at nu;split at nu
    ·rename_i c;cases nu
     show⟨_,y.2,⟨by rw[e,<-c.1],c.2,rfl⟩,rfl⟩
    ·cases nu
  subst ev;simp[u.fw,hD,i1,ep];let u1:∀(i:Nat) ob,i≠lu+4->h[i]?=a_ ob->(h.set (lu+4) o)[i]?=a_ ob:=λi ob hi e=>aG e<|Va hi;let l1:(h.set (lu+4) o).length=h.length:=U2 ..;generalize h.set (lu+4) o=h1 at t2 u1 l1;rfl';let nn:hV (pv w) .non h1=.ok (.bl true) h1:=rfl;rw[cI];simp[nn];rw[aD];let⟨fs,g0,gu,gp,gw,gs,gr⟩:=u.ins;let S7:aU "signs_left" (.ref lu) h1=.ok (.ref<|lu+5) h1:=bE (u1 _ _ ⋯ g0) gs;let wz:Tb h1 (lu+5) n (slF s.lf):=u.sl.keep λob e=>u1 _ _ ⋯ e;let⟨kvs,tk,lk⟩:=Tk.look wz;let⟨o5,_,yj,t5⟩:=Tk.put wz ⋯ w (.int<|(L.length:Int)-1);let yj:lR (.ref<|lu+5) (pv w) (.int<|(L.length:Int)-1) h1=a_ (h1.set (lu+5) o5):=yj;let lw:aP kvs (pv w)=d_ L.length:=by have:=lk w;unfold slF at this;rw[H.e]at this;show this
  refine NI (n:=lu+5) (y:=pv w) (i:=L.length) (j:=1) (kvs:=kvs) (h1:=h1) (h2:=h1) (by simp[S7]) (by simp) tk rfl lw (by simp) yj ?_;let u2:∀(i:Nat) ob,i≠lu+4->i≠lu+5->h[i]?=a_ ob->(h1.set (lu+5) o5)[i]?=a_ ob:=λi ob a b e=>aG (u1 i ob a e)<|Va b;let t4:Tk tsW (h1.set (lu+5) o5) (lu+4) (12*n) (wrF<|cP t [p] s.lf):=(t2.keep λob e=>aG e ⋯).to<|H.wr N;let yd:Tb (h1.set (lu+5) o5) (lu+5) n (slF<|cP t [p] s.lf):=by let q:Tb (h1.set (lu+5) o5) (lu+5) (n+1) (slF<|cP t [p] s.lf):=Tk.to t5<|H.sl N;let⟨E0,a0,b0,c0,d0⟩:=wz;have:=Tk.dom q (E0.map (·.1)) λx hx=>nG.mp (by rw[d0];unfold slF at hx⊢;rw[Wm]at hx⊢;rw[sL]at hx;show hx);rw[Uu]at this;show Tb.more this b0
  let l2:(h1.set (lu+5) o5).length=h.length:=by rw[U2];show l1
  let av:vAt (.ref<|lu+5) (pv w) (h1.set (lu+5) o5)=.ok (.int<|(L.length:Int)-1) (h1.set (lu+5) o5):=Tk.at' t5<|X2 0;generalize h1.set (lu+5) o5=h2 at u2 t4 yd l2 av;rfl';let g2:=u2 _ _ ⋯ ⋯ g0;let RW:aU "signs_left" (.ref lu) h2=.ok (.ref<|lu+5) h2:=bE g2 gs;let Tu:aU "undone" (.ref lu) h2=.ok (.ref<|lu+1) h2:=bE g2 gu;let zw:Tb h2 (lu+1) m (λx=>(s.U x).map pv):=u.un.keep λob e=>u2 _ _ ⋯ ⋯ e;let zh:∃f,Tb h2 (lu+2) n f:=let ⟨f,t⟩:=u.pl;⟨f,t.keep λob e=>u2 _ _ ⋯ ⋯ e⟩;let eU:=H.u N s.U nm;rw[cI];by_cases c:L.length=1
  ·let c':(L.length:Int)-1=0:=⋯;let⟨o1,iw,t1⟩:=zw.put ⋯ w (pv nm);rw[c']at av;simp[RW,av,Tu];refine⟨_,iw,k _ _ ⟨λi ob a1 a2 a4 a5 e=>aG (u2 _ _ a4 a5 e)<|Va a1,by rw[U2];omega⟩ (by rw[U2];show l2) ⟨⟨fs,aG g2 ⋯,gu,gp,gw,gs,gr⟩,t1.to λx=>?_,let ⟨f,t⟩:=zh;⟨f,t.keep λob e=>aG e ⋯⟩,t4.keep λob e=>aG e ⋯,yd.keep λob e=>aG e ⋯⟩⟩
   change(if x=w then a_ (pv nm) else(s.U x).map pv)=(iK t [p] s.lf s.U nm x).map pv
   rw[eU];by_cases z:x=w
   ·rw[if_pos z,if_pos ⟨z,c⟩];rfl
   ·rw[if_neg z,if_neg λy=>z y.1]
  ·let c':¬ (L.length:Int)-1=0:=⋯;simp[RW,av,c'];refine k _ _ ⟨λi ob a1 a2 a4 a5 e=>u2 _ _ a4 a5 e,⋯⟩ l2 ⟨⟨fs,g2,gu,gp,gw,gs,gr⟩,(zw.to λx=>?_).more<|Vb _,zh,t4,yd⟩
   change(s.U x).map pv=(iK t [p] s.lf s.U nm x).map pv
   rw[eU,if_neg λy=>c y.2]
def Fu.trans{h2:PH}(a:Fu lu h h1)(b:Fu lu h1 h2):Fu lu h h2:=⟨λi o p q r s e=>b.1 i o p q r s<|a.1 i o p q r s e,U1 a.2 b.2⟩
def L5{s:Gs}(u:UA h lu m n s)(hm:m<=100/\n<=60)(N:NF s.lf){d:Dd}{t:Nm}(ea:d.act=.cut t g)(lg:g.length<=40)(k:∀h',Fu lu h h'->UA h' lu (m+40) n ⟨cP t g s.lf,iK t g s.lf s.U d.nm⟩->Q .non h'):(cM [.ref lu,dP d] h).W Q:=by
 let i1:atI (X8 0) 1=a_ (pv t):=by rw[ea];show aK (i:=1) rfl
 let i2:atI (X8 0) 2=a_ (.tup<|g.map pl):=by rw[ea];show aK (i:=2) rfl
 refine bG ?_;unfold eJ;rw[aD];simp;refine⟨[c_ lu,a_<|dP d,a_<|X_ 0,a_<|sv d.seen,a_<|.tup<|X8 0,b_,b_],by simp[dP],?_⟩;rfl';generalize aT d.act=A at i1 i2;refine CP (xs:=g.map pl) (λr δ h'=>r<=g.length/\Fu lu h h'/\UA h' lu (m+r) n ⟨cP t (g.take r) s.lf,iK t (g.take r) s.lf s.U d.nm⟩/\∃x5 x6,δ=[c_ lu,a_<|dP d,a_<|X_ 0,a_<|sv d.seen,a_<|.tup A,x5,x6]) (.inl<|by simp[i2]) ⟨U5 _,⟨λ_ _ _ _ _ _ e=>e,Uv _⟩,by rw[List.take_zero,IJ,IK];show u,_,_,rfl⟩ ?_ ?_
 ·rintro r x δ h' hx ⟨hr,fr,ur,x5,x6,rfl⟩;rw[UD]at hx;let⟨p,hp,rfl⟩:=UI.mp hx;let j6:=(SC.mp hp).1;let e1:g.take (r+1)=g.take r++[p]:=by rw[V5,hp];rfl
  refine⟨[c_ lu,a_<|dP d,a_<|X_ 0,a_<|sv d.seen,a_<|.tup A,a_<|pl p,x6],by simp,?_⟩;refine L4 ur ⋯ (N.cut t _) i1 p λh2 y6 f2 _ u2=>?_;refine⟨j6,fr.trans f2,?_,_,_,rfl⟩;rw[e1,<-IL,<-IM];show u2
 ·rintro δ h' ⟨hr,fr,ur,x5,x6,rfl⟩;rw[Uu]at ur;rw[WU]at ur;show k h' fr<|ur.more ⋯ (Uv _)
def IQ:∀w:Str,w="write" \/ w="cut" \/ w="mark" \/ w="clear" -> w≠"make" /\ ¬ (w="move" \/ w="drop")/\w≠"choose" /\ w≠"put" /\ w≠"take" := by rintro w (rfl|rfl|rfl|rfl) <;> decide +kernel
def IR{s:Gs}(u:UA h lu m n s)(hl:lu+5<h.length)(hm:m<=100/\n<=60)(N:NF s.lf){d:Dd}(D:Wf d)(h0:s.lf d.nm=b_)(ni:idD P d=false)(k:∀h',Fu lu h h'->UA h' lu (m+40) (n+1) (gst P s d)->Q .non h'):(cG [.ref lu,dP d] h).W Q:=by
 let ha:=D.act;unfold gst at k;rw[if_neg (by rw[ni];show UH)]at k;refine bG ?_;unfold iF;rw[aD];simp;refine⟨[c_ lu,a_<|dP d,a_<|X_ 0,a_<|sv d.seen,a_<|.tup<|X8 0],by simp[dP],?_⟩;rfl';let⟨fs,g0,g1,g2,g3,g4,g5,g6,g7⟩:=u.ins;let⟨w1,w2,w3,w4,w5,w6⟩:=wdT;cases ea:d.act with
 |make z=>
  rw[ea]at k;let i0:atI (X8 0) 0=a_ (.str "make"):=by rw[ea];show aK (i:=0) rfl
  rw[<-ea];let⟨f,t⟩:=u.pl;let⟨o,hp,t2⟩:=t.put ⋯ d.nm (X_ 0);generalize aT d.act=A at i0;simp[i0,u.fp];refine⟨_,hp,k _ ⟨λi ob _ a2 _ _ e=>aG e<|Va a2,by rw[U2];show Uv _⟩ ?_⟩;let q:=u.more (m':=m+40) (n':=n+1) ⋯ ⋯;show⟨⟨fs,aG g0 ⋯,g1,g2,g3,g4,g5,g6,g7⟩,q.un.keep λob e=>aG e ⋯,⟨_,t2⟩,q.wr.keep λob e=>aG e ⋯,q.sl.keep λob e=>aG e ⋯⟩
 |write t us sd w=>
  rw[ea]at k;let i0:atI (X8 0) 0=a_ (.str "write"):=by rw[ea];show aK (i:=0) rfl
  let⟨a1,a2,a3,a4,a5⟩:=IQ "write"<|.inl rfl;let mt:=bB "hear_write" 1 jG (aA (mV 1) aC) [c_ lu,a_<|dP d,a_<|X_ 0,a_<|sv d.seen,a_<|.tup<|X8 0] h (mV 0) bT (by simp) g0 (by simp[jG]) g6;rw[<-ea];generalize aT d.act=A at i0 mt;simp[i0,a1,inM a2,a3,a4,a5,mt];show Fp u hl hm.2 ea ha h0 λh' f1 u1=>k h' f1<|u1.more ⋯ (Uv _)
 |cut t g=>
  rw[ea]at k ha;let i0:atI (X8 0) 0=a_ (.str "cut"):=by rw[ea];show aK (i:=0) rfl
  let⟨a1,a2,a3,a4,a5⟩:=IQ "cut"<|.inr<|.inl rfl;let mt:=bB "hear_cut" 1 mT (aA (mV 1) aC) [c_ lu,a_<|dP d,a_<|X_ 0,a_<|sv d.seen,a_<|.tup<|X8 0] h (mV 0) cM (by simp) g0 (by simp[mT]) g7;rw[<-ea];generalize aT d.act=A at i0 mt;simp[i0,a1,inM a2,a3,a4,a5,w1,mt];show L5 u hm N ea ha.1 λh' f1 u1=>k h' f1<|u1.more (Uv _) ⋯
 |mk w t x y=>
  rw[ea]at k ha;let i0:atI (X8 0) 0=a_ (.str w):=by rw[ea];show aK (i:=0) rfl
  let⟨a1,a2,a3,a4,a5⟩:=IQ w (by rcases ha with rfl|rfl <;> simp);let a6:¬ w="write" /\ ¬ w="cut" := by
   rcases ha with rfl|rfl
   ·show⟨w2,w3⟩
   ·show⟨w4,w5⟩
  rw[<-ea];generalize aT d.act=A at i0;simp[i0,a1,inM a2,a3,a4,a5,a6];show k h ⟨λ_ _ _ _ _ _ e=>e,Uv _⟩<|u.more ⋯ ⋯
structure Bd(a0 l lt lm ll lu lF:Nat):Prop where
 lo:a0<=lm/\a0<=ll/\a0<=lu
 hi:l<lu/\lt<lu/\lm<lu/\ll<lu
 lF:lu+5<lF
abbrev idV:PV:=.tup [.str "idle"]
abbrev kZ:PV:=.tup [.str "stands"]
structure PL(h:PH)(l lt lm lf ll lu lF:Nat)(os:x_ Dd)(q:Nat)(h':PH):Prop where
 x:Ext h h'
 fs:FS h' l lt lm lf ll (lF+1) q (os.take q)
 un:UA h' lu q q (aM os q)
 fd:∃F,Tb h' lF q F/\(∀i d,i<q->os[i]?=some d->F d.nm=if idD (os.take i) d=true then some idV else none)/\∀x,x∉(os.take q).map (·.nm)->F x=none
def TX.keep(t:TX h b n a)(k:∀(i:Nat) o,b<=i->h[i]?=a_ o->h'[i]?=a_ o):TX h' b n a:=by let⟨p,q,r,⟨f1,t1⟩,s,S,bs,m⟩:=t;show⟨p,k _ _ p q,k _ _ ⋯ r,⟨f1,t1.keep λo e=>k _ _ ⋯ e⟩,s,S,bs,m.keep λi o hi e=>k _ _ (by rcases hi with rfl|rfl <;> omega) e⟩
def FS.keep{lt lf:Nat}(f:X6 n P)(k:∀(i:Nat) o,i=l\/i=lt\/i=lm\/i=ll\/b<=i->h[i]?=a_ o->h'[i]?=a_ o)(hl:h.length<=h'.length):FS h' l lt lm lf ll b n P:=⟨k _ _ (.inl rfl) f.fo,k _ _ (.inr<|.inl rfl) f.ti,let ⟨a,t,c⟩:=f.md;⟨a,t.keep λo e=>k _ _ (.inr<|.inr<|.inl rfl) e,c⟩,let ⟨a,t,c⟩:=f.lv;⟨a,t.keep λo e=>k _ _ (.inr<|.inr<|.inr<|.inl rfl) e,λx=>(c x).imp id λ⟨c,p,q,r⟩=>⟨c,p,q,r.keep λi o hi e=>k _ _ (.inr<|.inr<|.inr<|.inr hi) e⟩⟩,f.ne,f.hi,U1 f.bl hl⟩
def nUs:¬ (UB "Undoing")=UB "Text" /\ ¬ (UB "Undoing")=UB "Tree" /\ ¬ (UB "Undoing")=UB "Folding" := by refine⟨?_,?_,?_⟩ <;> decide +kernel
def nFs:¬ (UB "Folding")=UB "Text" /\ ¬ (UB "Folding")=UB "Tree" := by refine⟨?_,?_⟩ <;> decide +kernel
def tbF:cY "Folding" = a_ cX:=by let⟨a,b⟩:=nFs;simp[cY,a,b]
def tbU:cY "Undoing" = a_ cG:=by let⟨a,b,c⟩:=nUs;simp[cY,a,b,c]
variable{x5 x7 x8 x9:y_ PV}
def L6(nd:(os.map (·.nm)).Nodup)(wf:∀d∈os,Wf d)(ln:os.length<=50){lt lf lF:Nat}(B:Bd h.length l lt lm ll lu lF){q:Nat}(p:PL h l lt lm lf ll lu lF os q h'){d:Dd}(hd:os[q]?=a_ d)(k:∀x8 h2,PL h l lt lm lf ll lu lF os (q+1) h2->E.nx [c_ n,c_ l,c_ lu,c_ lF,a_<|dP d,a_<|X_ 0,a_<|sv d.seen,a_<|.tup<|X8 0,a_ x8,x9] h2):(cN [c_ n,c_ l,c_ lu,c_ lF,a_<|dP d,x5,x6,x7,x8,x9] h').W E:=by
 let⟨x,fs,u,F,tF,eF,oF⟩:=p;let⟨lo,hi,hF⟩:=B;let hq:q<os.length:=(SC.mp hd).1;let⟨tk,hn⟩:=AU nd hd;let D:=wf d<|UP hd;let I:=sM nd wf q ⋯;let I1:=sM nd wf (q+1) ⋯;let l0:(Q_ q).lf d.nm=b_:=by
  cases e:(Q_ q).lf d.nm with
  |none=>rfl
  |some v=>exact(hn<|I.x _ (by rw[e];rfl)).elim
 unfold cN;rw[aD];simp;refine⟨[c_ n,c_ l,c_ lu,c_ lF,a_<|dP d,a_<|X_ 0,a_<|sv d.seen,a_<|.tup<|X8 0,x8,x9],by simp[dP],?_⟩;rfl';rw[aD];let mh:=bB "hear" 1 cY (aA (mV 4) aC) [c_ n,c_ l,c_ lu,c_ lF,a_<|dP d,a_<|X_ 0,a_<|sv d.seen,a_<|.tup<|X8 0,x8,x9] h' (mV 1) cX (by simp) fs.fo tbF rfl;simp[mh];refine II fs ⋯ D (λe he=>(wf e<|XI he).rt) λh1 k1 f1=>?_;rw[<-tk]at f1;rfl';rw[cI];let x1:X5 h1:=λi o e=>have hh:=(SC.mp e).1;k1.lo i o ⋯ ⋯ ⋯ (x i o e);let u1:UA h1 lu q q (Q_ q):=u.keep λi o a b e=>k1.lo i o ⋯ ⋯ ⋯ e;let t1:Tb h1 lF q F:=tF.keep λo e=>k1.lo _ o ⋯ ⋯ ⋯ e;let bl:=f1.bl;let fd:∀(h2:PH)(F':Nm->y_ PV),Tb h2 lF (q+1) F'->(F'=if idD (os.take q) d=true then upN F d.nm idV else F)->∃F,Tb h2 lF (q+1) F/\(∀i e,i<q+1->os[i]?=a_ e->F e.nm=if idD (os.take i) e=true then a_ idV else b_)/\∀x,x∉(os.take<|q+1).map (·.nm)->F x=b_:=λh2 F' t' e'=>by
  refine⟨F',t',λi e hi he=>?_,λy hy=>?_⟩
  ·rcases Nat.lt_or_ge i q with z|z
   ·let ne:¬ e.nm=d.nm:=λw=>by have:=(xH nd he hd w).1;omega
    have:F' e.nm=F e.nm:=by
     rw[e'];split
     ·change(if e.nm=d.nm then _ else F e.nm)=_
      rw[if_neg ne]
     ·rfl
    rw[this];show eF i e z he
   ·have:i=q:=⋯;subst this;rw[hd]at he;cases he
    rw[e'];split
    ·change(if d.nm=d.nm then _ else _)=_
     rw[X2 0]
    ·show oF _ hn
  ·rw[tk,UZ,UN,not_or]at hy;rw[e'];split
   ·change(if y=d.nm then _ else F y)=_
    rw[if_neg<|λz=>hy.2<|by simp[z]];show oF y hy.1
   ·show oF y hy.1
 let gs:=nH hd;cases ei:idD (os.take q) d with
 |true=>
  let e1:lM (os.take q) d="idle" := by unfold lM;rw[ei];rfl
  rw[e1];let n1:¬ (UB "idle")=UB "lost" := by decide +kernel
  let⟨o,hp,t2⟩:=t1.put ⋯ d.nm idV;let jq:eQ (.ref lF) (X_ 0) (.tup [.str "idle"]) h1=a_ (h1.set lF o):=hp;let g1:Q_ (q+1)=Q_ q:=by rw[gs];unfold gst;rw[if_pos ei]
  let kp:∀(i:Nat) ob,i≠lF->h1[i]?=a_ ob->(h1.set lF o)[i]?=a_ ob:=λi ob a e=>aG e<|Va a;simp[n1,jq];refine k _ _ ⟨x1.setN ⋯,f1.keep (λi ob a e=>kp _ _ ⋯ e) (by rw[U2];show Uv _),?_,fd _ _ t2<|by rw[ei,X2 0]⟩;rw[g1];show(u1.keep λi ob a b e=>kp _ _ ⋯ e).more (Vb _) (Vb _)
 |false=>
  let e1:lM (os.take q) d="done" := by unfold lM;rw[ei];rfl
  rw[e1];let n1:¬ (UB "done")=UB "lost" := by decide +kernel
  let n2:¬ (UB "done")=UB "idle" := by decide +kernel
  let⟨fsl,i1,_,_,_,_,i5,_⟩:=u1.ins;let mu:=bB "hear" 1 cY (aA (mV 4) aC) [c_ n,c_ l,c_ lu,c_ lF,a_<|dP d,a_<|X_ 0,a_<|sv d.seen,a_<|.tup<|X8 0,a_<|.str "done",x9] h1 (mV 2) cG (by simp) i1 tbU i5;simp[n1,n2,mu];refine IR (P:=os.take q) u1 ⋯ ⋯ I.nd D l0 ei λh2 k2 u2=>?_;rw[<-gs]at u2;refine k _ _ ⟨λi o e=>have hh:=(SC.mp e).1;k2.1 i o ⋯ ⋯ ⋯ ⋯ (x1 _ _ e),f1.keep (λi o a e=>k2.1 i o ⋯ ⋯ ⋯ ⋯ e) k2.2,?_,fd _ F ((t1.keep λo e=>k2.1 _ o ⋯ ⋯ ⋯ ⋯ e).more ⋯)<|by rw[ei,if_neg UH]⟩;have:=u2.dom ((os.take<|q+1).map (·.nm)) λw hw=>I1.x w<|I1.u w hw;rw[Uu,VE,Wy ⋯]at this;show this
unseal Fl.W in
def NS{b:Bool}{m:Me}{x:PV}{d:Nat}(I:Nat->Ev->PH->Prop)(e:m δ h=.ok x h1)(ew:wkI b x h1=a_ (d,o,xs))(hd:wG h[d]?=true)(h0:I 0 δ (h1.set d<|.fz o))(keep:∀q δ h,I q δ h->h[d]?=a_ (.fz o))(step:∀(q:Nat) y δ h,xs[q]?=a_ y->I q δ h->∃δ1,tg y δ=a_ δ1/\(body δ1 h).W { nx:=I<|q+1,ct:=I<|q+1,rt:=λ_ _=>False,bk:=λ_ _=>False})(fin:∀δ h,I xs.length δ h->E.nx δ (h.set d o)):(rS b m (bR (wH b m) tg body) δ h).W E:=by
 let go:(eY (λ_=>true) tg body xs δ (h1.set d (.fz o))).W { nx:=λδ h=>I xs.length δ h,rt:=λ_ _=>False,bk:=λ_ _=>False,ct:=λ_ _=>False}:=lZ I _ 0 δ _ h0 (λq y δ h _ hx hi=>⟨rfl,by
  let⟨δ1,t1,w1⟩:=step q y δ h (ke hx) hi;refine⟨δ1,t1,?_⟩;cases eb:body δ1 h with
  |nx δ2 h2=>rw[eb]at w1;show w1
  |ct δ2 h2=>rw[eb]at w1;show w1
  |bk δ2 h2=>rw[eb]at w1;show w1.elim
  |rt p h2=>rw[eb]at w1;show w1
  |exc=>rw[eb]at w1;show w1
  |bad=>rw[eb]at w1;show w1⟩) (λδ h hi=>⟨rfl,ke hi⟩)
 unfold rS;rw[Ny e ew hd];dsimp only;unfold bR;rw[Hv e ew,Rs.fl_ok];cases el:eY (λ_=>true) tg body xs δ (h1.set d<|.fz o) with
 |nx δ2 h2=>rw[el]at go;let g:I xs.length δ2 h2:=go;let g2:=keep _ _ _ g;simp only[nQ,mJ,g2];show fin δ2 h2 g
 |ct δ2 h2=>rw[el]at go;show go.elim
 |bk δ2 h2=>rw[el]at go;show go.elim
 |rt p h2=>rw[el]at go;show go.elim
 |exc=>rw[el]at go;show go.elim
 |bad=>rw[el]at go;show go.elim
abbrev Di(v:PV):PV:=.tup [.str "outdone",v]
abbrev laid(E:x_ (Nm×PV))(F:Nm->y_ PV)(x:Nm):y_ PV:=match fnd E x with
 |some v=>a_ (Di v)
 |none=>F x
variable{F:Nm->y_ PV}{e:Nm×PV}
def Fq{E:x_ (Nm×PV)}(h:e.1∉E.map (·.1)):laid (E++[e]) F=upN (laid E F) e.1 (Di e.2):=by
 funext x
 change(match fnd (E++[e]) x with|some v=>a_ (Di v)|none=>F x)=if x=e.1 then a_ (Di e.2) else match fnd E x with|some v=>a_ (Di v)|none=>F x
 rw[E9];by_cases z:x=e.1
 ·have:fnd E x=b_:=by
   cases e2:fnd E x with
   |none=>rfl
   |some v=>exact(h<|z▸nG.mp (by rw[e2];rfl)).elim
  rw[if_pos z,this,iH,if_pos z.symm];rfl
 ·rw[if_neg z,iH,if_neg<|λw=>z w.symm];cases fnd E x <;> rfl
set_option tactic.hygienic true in
def xI(e:bJ h n=a_ kvs):∃o,h[n]?=a_ o/\wG (a_ o)=true/\jB o=a_ (kvs.map λkv=>.tup [kv.1,kv.2]):=by
 unfold bJ at e;split at e
 ·rename_i k hk;cases e;show⟨_,hk,rfl,rfl⟩
 ·rename_i hk;cases e;show⟨_,hk,rfl,rfl⟩
 ·cases e
abbrev tW(os:x_ Dd)(i:Nat)(d:Dd):PV:=if idD (os.take i) d=true then idV else match(Q_ os.length).U d.nm with
 |some y=>Di (pv y)
 |none=>.tup [.str "stands"]
def Qd(nd:(os.map (·.nm)).Nodup)(wf:∀d∈os,Wf d)(ln:os.length<=50)(g:h[n]?=a_ (.lst<|os.map dP))(k:∀lF c F h',X5 h'->Tb h' lF c F->(∀i d,os[i]?=a_ d->(F d.nm).getD (.tup [.str "stands"])=tW os i d)->Q (.ref lF) h'):(fM [.ref n] h).W Q:=by
 refine bG ?_;unfold fK;rw[aD];let e0:=IB h;let xE:X5 (h++[MO.lst []]++[MO.lst []]):=(z_ _).trans<|z_ _;let ga:(h++[MO.lst []]++[MO.lst []])[h.length]?=a_ (.lst []):=z_ _ _ _ aF;let gb:(h++[MO.lst []]++[MO.lst []])[h.length+1]?=a_ (.lst []):=by
  have:h.length+1=(h++[MO.lst []]).length:=by simp
  rw[this];show aF
 generalize h++[MO.lst []]++[MO.lst []]=hE at e0 xE ga gb;rw[Bw];refine sJ (ps:=[.tup [.ref h.length,.ref<|h.length+1]]) (h1:=hE) (by simp[e0]) rfl ?_;refine IA (h0:=hE) (z_ _) aF (z_ _ _ _ ga) (z_ _ _ _ gb) λlt lm lf ll h1 x1 b1 b3 f1=>⟨rfl,now ?_⟩;rw[aD,Bw];let lE:=xE.len;let⟨m1,m2,m3,m4⟩:=f1.hi;let l1:=x1.len;refine IP λh2 x2 l2 u2=>now ?_;rw[aD];simp;let x3:Ext h2 (h2++[MO.dK []]):=z_ _;let t3:Tb (h2++[MO.dK []]) h2.length 0 (λ_=>b_):=Tb.nil aF;let B:Bd h.length hE.length lt lm ll h1.length h2.length:=⟨⋯,⟨m1,m2,m3,m4⟩,⋯⟩;let p0:PL h hE.length lt lm lf ll h1.length h2.length os 0 (h2++[MO.dK []]):=⟨xE.trans<|x1.trans<|x2.trans x3,f1.base (x2.trans x3) ⋯ (by simp),u2.keep λi o _ _ e=>x3 _ _ e,_,t3,(λi d hi=>absurd hi<|Nat.not_lt_zero _),λ_ _=>rfl⟩;generalize h2.length=lF at t3 B p0;generalize h2++[MO.dK []]=h3 at t3 p0 x3;generalize h1.length=lu at B p0;generalize hE.length=l at B p0;clear u2 l2 x3 t3 x2 m1 m2 m3 m4 f1 x1;rfl';rw[aD];refine iX (n:=n) (xs:=os.map dP) (h1:=h3) (λq δ h'=>PL h l lt lm lf ll lu lF os q h'/\∃x4 x5 x6 x7 x8 x9,δ=[c_ n,c_ l,c_ lu,c_ lF,x4,x5,x6,x7,x8,x9]) (by simp) (p0.x _ _ g) ⟨p0,_,_,_,_,_,_,rfl⟩ (λq δ h' _ i=>i.1.x _ _ g) ?_ ?_
 ·rintro q y δ h' hy ⟨p,x4,x5,x6,x7,x8,x9,rfl⟩;rw[UD]at hy;let⟨d,hd,rfl⟩:=UI.mp hy;show⟨_,rfl,L6 nd wf ln B p hd λx8 h2 p2=>⟨p2,_,_,_,_,_,_,rfl⟩⟩
 ·rintro δ h' ⟨p,x4,x5,x6,x7,x8,x9,rfl⟩;rw[Uu]at p;let⟨x,fs,u,F,tF,eF,oF⟩:=p;let L1:=sM nd wf os.length<|Uv _;let⟨lo,hi,hF⟩:=B;rfl';rw[aD];let⟨E,tE,lE,j7,eE⟩:=u.un;let⟨o,ho,hd,hit⟩:=xI tE;let e0:uC bH dW (mUn (aU "undone")<|mV 2) [c_ n,c_ l,c_ lu,c_ lF,x4,x5,x6,x7,x8,x9] h'=.ok (.ref h'.length) (h'++[.vw 0<|lu+1]):=by simp[u.fu,u.un.dict,wI ho hd]
  let y1:Ext h' (h'++[MO.vw 0<|lu+1]):=z_ _;let kz:=y1 _ _ ho;let wk:=Hu aF kz hit;let t1:=tF.ext y1;let xx:=x.trans y1;rw[Vk]at wk;generalize h'.length=lv at e0 wk;generalize h'++[MO.vw 0<|lu+1]=h1 at e0 wk y1 kz t1 xx;refine NS (d:=lu+1) (o:=o) (xs:=E.map λe=>.tup [pv e.1,e.2]) (h1:=h1) (λq δ h2=>(∀(i:Nat) o,i≠lF->i≠lu+1->h1[i]?=a_ o->h2[i]?=a_ o)/\h2[lu+1]?=a_ (.fz o)/\Tb h2 lF (os.length+q) (laid (E.take q) F)/\∃x5 x9,δ=[c_ n,c_ l,c_ lu,c_ lF,x4,x5,x6,x7,x8,x9]) e0 wk (by rw[ho];show hd) ⟨λi o _ a e=>aG e<|Va a,cD kz,t1.keep λo e=>aG e ⋯,_,_,rfl⟩ (λq δ h i=>i.2.1) ?_ ?_
  ·rintro q y δ h2 hy ⟨fr,gz,tq,x5,x9,rfl⟩;rw[UD]at hy;let⟨e,he,rfl⟩:=UI.mp hy;let hq:q<E.length:=(SC.mp he).1;let e1:E.take (q+1)=E.take q++[e]:=by rw[V5,he];rfl
   let nE:e.1∉(E.take q).map (·.1):=λz=>by rw[<-List.take_append_drop (q+1) E,e1,UZ,UZ,V4,V4]at j7;show j7.1.2.2 e.1 z e.1 (by simp) rfl
   refine⟨_,by simp;rfl,?_⟩;unfold eN;let⟨ob,hp,t2⟩:=tq.put ⋯ e.1 (Di e.2);rw[<-Fq nE,<-e1]at t2;let jq:eQ (.ref lF) (pv e.1) (.tup [.str "outdone",e.2]) h2=a_ (h2.set lF ob):=hp;simp[jq];show⟨λi o a b e=>aG (fr i o a b e)<|Va a,aG gz ⋯,t2⟩
  ·rintro δ h2 ⟨fr,gz,tq,x5,x9,rfl⟩;rw[Uu,WU]at tq;rfl';simp;let kk:∀(i:Nat) ob,i≠lF->h1[i]?=a_ ob->(h2.set (lu+1) o)[i]?=a_ ob:=λi ob a e=>by
    by_cases z:i=lu+1
    ·subst z;rw[kz]at e;cases e
     show cD gz
    ·show aG (fr i ob a z e) (Va z)
   refine k lF _ _ _ (λi o e=>have hh:=(SC.mp e).1;kk _ _ ⋯ (xx _ _ e)) (tq.keep λo e=>aG e ⋯) λi d hd=>?_;let hi:=(SC.mp hd).1;let e2:=eF i d hi hd;unfold laid tW;rw[eE];dsimp only;cases ei:idD (os.take i) d with
   |true=>
    rw[ei]at e2;let l0:=L1.ni i d hi hd ei;let u0:(Q_ os.length).U d.nm=b_:=by
     cases e:(Q_ os.length).U d.nm with
     |none=>rfl
     |some v=>have:=L1.u d.nm (by rw[e];rfl);rw[l0]at this;cases this
    rw[u0];simp[e2]
   |false=>
    rw[ei]at e2;cases(Q_ os.length).U d.nm with
    |none=>simp[e2,kZ]
    |some y=>simp
def IS{ds:x_ Dd}(D:Dl os ds)(g:h[n]?=a_ (.lst<|ds.map dP))(k:∀l vs h',X5 h'->h'[l]?=a_ (.lst vs)->vs.length=os.length->(∀(i:Nat) d,os[i]?=a_ d->vs[i]?=a_ (.tup [X_ 0,tW os i d]))->Q (.ref l) h'):(AN [.ref n] h).W Q:=by
 refine bG ?_;unfold AM;rw[aD];simp;refine Ik D g λl1 h1 x1 g1=>?_;refine Qd D.nd D.wf D.ln g1 λlF c F h2 x2 t2 ft=>?_;rfl';rw[aD];let gn:=(x1.trans x2) _ _ g;let⟨v,h3,e3,l3,rfl,x3,g3⟩:=iW<|Il D gn (Q:=λv h3=>∃l3,v=.ref l3/\Ext h2 h3/\h3[l3]?=a_ (.lst [])) λl3 h3 a b=>⟨l3,rfl,a,b⟩;refine AR (n:=l3) (h1:=h3) (by simp[e3]) g3<|now ?_;let⟨v,h4,e4,l4,rfl,x4,g4⟩:=iW<|Dh D (x3 _ _ gn) (Q:=λv h4=>∃l4,v=.ref l4/\Ext h3 h4/\h4[l4]?=a_ (.lst<|os.map dP)) λl3 h3 a b c=>⟨l3,rfl,a,c⟩;let t4:=t2.ext<|x3.trans x4;let hc:=eZ (js:=[b_,a_ 1]) (tg:=gN 0) (tst:=lQ) (elt:=aZ<|aA (i_ (mV 0)<|o_ 0)<|aA (mMt bH qA (mV 1)<|aA (i_ (mV 0)<|o_ 0)<|aA (aZ<|aA (mC<|.str "stands") aC) aC) aC) (m:=aN 1 eO<|aA (mV 0) aC) (δ:=[c_ n,c_ lF,b_,b_]) (h:=h3) (h1:=h4) (n:=l4) (ys:=os) (emb:=dP) (λd=>a_<|.tup [X_ 0,(F d.nm).getD<|.tup [.str "stands"]]) (by simp[e4]) g4 (by have:=D.ln;omega)
  (λd hd=>⟨_,rfl,λh5 hx=>⟨rfl,by simp[gP,dP0,(t4.ext hx).dict,(t4.ext hx).get]⟩⟩)
 rw[filterMap_some]at hc;simp[hc];refine k _ _ _ (x1.trans<|x2.trans<|x3.trans<|x4.trans<|z_ _) aF (by simp) λi d hi=>?_;rw[UD,hi,<-ft i d hi];rfl
def xJ{d:Dd}{t:Nm}{u:Pl}(ea:d.act=.write t u s w)(ha:KdA d.act)(h:PH):jL [dP d] h=.ok (.ref h.length) (h++[.lst<|(plN d u s w).map pl]):=by
 rw[ea]at ha;let⟨a1,a2,a3,_⟩:=ha;let i2:atI (X8 0) 2=a_ (pl u):=by rw[ea];show aK (i:=2) rfl
 let i3:atI (X8 0) 3=d_ s:=by rw[ea];show aK (i:=3) rfl
 let i4:atI (X8 0) 4=a_ (.str w):=by rw[ea];show aK (i:=4) rfl
 let q:(jL [dP d] h).W λp h'=>p=.ref h.length/\h'=h++[.lst<|(plN d u s w).map pl]:=by
  refine bG ?_;unfold wO;rw[aD];simp;refine⟨[a_<|dP d,a_<|X_ 0,a_<|sv d.seen,a_<|.tup<|X8 0,b_,b_],by simp[dP],?_⟩;rfl';generalize aT d.act=A at i2 i3 i4;rw[aD];let e0:aY (pl u) (.tup [.tup [.int s,.str d.nm.1,.int d.nm.2,.int 0]]) h=.ok (pl<|nK u s d.nm.1 d.nm.2 0) h:=by simp(disch:=first|omega|(simp;omega)) [pl,stp,nK]
  simp[i2,i3,pv0,pv1,e0];rfl';rw[aD];refine GM (lo:=1) (j:=w.length) (λq δ h'=>h'=h++[.lst<|(iJ u s d.nm.1 d.nm.2<|q+1).map pl]/\∃x5,δ=[a_<|dP d,a_<|X_ 0,a_<|sv d.seen,a_<|.tup A,c_ h.length,x5]) ?_ ?_ ?_ ?_ ?_
  ·simp(disch:=omega) [i4]
  ·omega
  ·show⟨rfl,_,rfl⟩
  ·rintro q δ h' hq ⟨rfl,x5,rfl⟩;let e1:(h++[MO.lst<|(iJ u s d.nm.1 d.nm.2<|q+1).map pl])[h.length]?=a_ (.lst<|(iJ u s d.nm.1 d.nm.2<|q+1).map pl):=aF;let e4:=xF (u:=u) (s:=s) (hd:=d.nm.1) (n:=d.nm.2) (m:=q+1);let e2:atI ((iJ u s d.nm.1 d.nm.2<|q+1).map pl) (-1)=a_ (pl<|nK u s d.nm.1 d.nm.2 q):=by rw[sI,UZ];show BA
   let e3:=jQ (u:=u) (s:=s) (hd:=d.nm.1) (n:=d.nm.2) q;simp(disch:=first|omega|(simp;omega)) [oI,kC e1,cZ e1,e2,dX e1,pl,pv0,pv1]
   rw[sI (m:=q+1)];simp[nK,pl,stp];omega
  ·rintro δ h' ⟨rfl,x5,rfl⟩;rfl';simp;have:w.length-1+1=w.length:=⋯;rw[this];rfl
 let⟨p,h',e,rfl,rfl⟩:=iW q;show e
def LA(p:Pl):(pl p).pl 39=true:=by
 change(p.map stp).all (PV.pl 38)=true
 rw[Xu];show UK.mpr λy _=>rfl
def AW(g:x_ Pl):(g.map pl).all (PV.pl 39)=true:=by rw[Xu,UK];intro r _;show LA r
def Ed{p:Pl}:pl p∈g.map pl↔p∈g:=by rw[UO];show⟨λ⟨q,hq,e⟩=>AO e▸hq,λh=>⟨p,h,rfl⟩⟩
def NT(p:Pl)(g:x_ Pl)(h:PH):iV (pl p) (.tup<|g.map pl) h=.ok (.bl<|decide (p∉g)) h:=by
 rw[vS (LA p)<|AW g];congr 2;by_cases c:p∈g
 ·simp[c,Ed.mpr c]
 ·have:pl p∉g.map pl:=λz=>c<|Ed.mp z;simp[c,this]
def LC{os:x_ Dd}(nd:(os.map (·.nm)).Nodup)(wf:∀d∈os,Wf d):∀q,q<=os.length->∀w t L,(Q_ q).lf w=a_ (t,L)->mkP (os.take q) t=true
 |0,_,_,_,_,h=>nomatch h
 |q+1,hq,w,t,L,h=>by
  obtain⟨d,hd⟩:∃d,os[q]?=a_ d:=⟨_,Vl ⋯⟩;let tk:os.take (q+1)=os.take q++[d]:=by rw[V5,hd];rfl
  let ih:=LC nd wf q ⋯;let up:∀t,mkP (os.take q) t=true->mkP (os.take<|q+1) t=true:=λt z=>by rw[tk,qT,z];rfl
  rw[nH hd]at h;unfold gst at h;by_cases ei:idD (os.take q) d=true
  ·rw[if_pos ei]at h;show up _<|ih w t L h
  ·rw[if_neg ei]at h;cases ea:d.act with
   |make z=>rw[ea]at h;show up _<|ih w t L h
   |mk w' t' x y=>rw[ea]at h;show up _<|ih w t L h
   |write t' u sd w'=>
    rw[ea]at h;let h:(if w=d.nm then a_ (t',plN d u sd w') else(Q_ q).lf w)=a_ (t,L):=h;by_cases c:w=d.nm
    ·rw[if_pos c]at h;cases h
     unfold idD at ei;rw[ea]at ei;show up _ (by simpa[thA] using ei)
    ·rw[if_neg c]at h;show up _<|ih w t L h
   |cut t' g=>
    rw[ea]at h;let⟨⟨t1,L1⟩,e1,e2⟩:=UI.mp h;have:t1=t:=by dsimp only at e2;split at e2 <;> cases e2 <;> rfl
    rw[<-this];show up _<|ih w t1 L1 e1
abbrev SD(h:PH)(a c:Nat)(x:Nm)(lf:Nm->y_ (Nm×x_ Pl)):Prop:=∃G:Nm->y_ Nat,Tb h a c (λw=>(G w).map PV.ref)/\∀w,(G w=b_/\∀L,lf w=a_ (x,L)->L=[])\/∃l L,G w=a_ l/\lf w=a_ (x,L)/\L≠[]/\h[l]?=a_ (.lst<|L.map pl)
def SD.keep(s:SD h a c x lf)(k1:∀o,h[a]?=a_ o->h'[a]?=a_ o)(k2:∀(i:Nat) xs,h[i]?=a_ (.lst xs)->h'[i]?=a_ (.lst xs)):SD h' a c x lf:=let ⟨G,t,r⟩:=s;⟨G,t.keep k1,λw=>(r w).imp id λ⟨l,L,p,q,y,z⟩=>⟨l,L,p,q,y,k2 _ _ z⟩⟩
variable{zg:Nm->y_ (Nm×x_ Pl)}
def SD.to(s:SD h a c x lf)(e:∀w L,zg w=a_ (x,L)↔lf w=a_ (x,L)):SD h a c x zg:=let ⟨G,t,r⟩:=s;⟨G,t,λw=>(r w).imp (λ⟨p,q⟩=>⟨p,λL z=>q L<|(e w L).mp z⟩) λ⟨l,L,p,q,y,z⟩=>⟨l,L,p,(e w L).mpr q,y,z⟩⟩
def SD.more(s:SD h a c x lf)(hc:c<=c'):SD h a c' x lf:=let ⟨G,t,r⟩:=s;⟨G,t.more hc,r⟩
def SD.dom(s:SD h a c x lf)(N:x_ Nm)(hN:∀w,(lf w).isSome=true->w∈N):SD h a N.length x lf:=by
 let⟨G,t,r⟩:=s;refine⟨G,t.dom N λw hw=>?_,r⟩;rw[Wm]at hw;rcases r w with⟨e,_⟩|⟨l,L,_,e,_⟩
 ·rw[e]at hw;cases hw
 ·show hN w (by rw[e];rfl)
abbrev nU(y:Nm):PV:=.tup [.str "outdone",pv y]
def lH{α β:Type}(p:α->Bool)(f:α->β):∀xs:x_ α,xs.filterMap (λx=>if p x=true then a_ (f x) else b_)=(xs.filter p).map f
 |[]=>rfl
 |x::xs=>by let ih:=lH p f xs;cases e:p x <;> simp[e,ih]
def L7(e9:uB δ 9=c_ l)(e6:uB δ 6=a_ (.tup A))(i2:atI A 2=a_ (.tup<|g.map pl))(gl:h[l]?=a_ (.lst<|L.map pl))(lL:L.length<=1000):bZ [b_,a_ 6] (aR<|mV 9) (gN 0) (aO<|aB bD (mV 0)<|i_ (mV 1)<|o_ 2) (mV 0) δ h=.ok (.ref h.length) (h++[.lst<|(bV g L).map pl]):=by
 let hc:=eZ (m:=mV 9) (n:=l) (js:=[b_,a_ 6]) (tg:=gN 0) (tst:=aO<|aB bD (mV 0)<|i_ (mV 1)<|o_ 2) (elt:=mV 0) (δ:=δ) (h:=h) (h1:=h) (ys:=L) (emb:=pl)
  (λp=>if decide (p∉g)=true then a_ (pl p) else b_) (by simp[e9]) gl ⋯ (λp hp=>⟨[a_ (pl p),a_ (.tup A)],by simp[gP,e6],λh3 hx=>by
   let n1:=NT p g h3;by_cases c:p∈g
   ·rw[decide_eq_false<|not_not_intro c]at n1;simp[i2,n1,c]
   ·rw[decide_eq_true c]at n1;simp[i2,n1,c]⟩)
 rw[lH (λp=>decide (p∉g)) pl]at hc;show hc
abbrev StW(h:PH)(x:Nm)(G:Nm->y_ Nat)(lf:Nm->y_ (Nm×x_ Pl))(w:Nm):Prop:=(G w=b_/\∀L,lf w=a_ (x,L)->L=[])\/∃l L,G w=a_ l/\lf w=a_ (x,L)/\L≠[]/\h[l]?=a_ (.lst<|L.map pl)
variable{G G':Nm->y_ Nat}
def StW.keep{w:Nm}(s:StW h x G lf w)(e:G' w=G w)(k2:∀(i:Nat) xs,h[i]?=a_ (.lst xs)->h'[i]?=a_ (.lst xs)):StW h' x G' lf w:=by unfold StW;rw[e];show s.imp id λ⟨l,L,p,q,y,z⟩=>⟨l,L,p,q,y,k2 _ _ z⟩
abbrev jR(t:Nm)(g:x_ Pl)(lf:Nm->y_ (Nm×x_ Pl))(w:Nm):Bool:=match lf w with
 |some x=>qU t g x
 |none=>false
variable{U:Nm->y_ Nm}
def IT{t:Nm}{w:Nm}:iK t g lf U nm w=if jR t g lf w=true then a_ nm else U w:=by unfold iK jR;cases lf w <;> rfl
structure DW(h:PH)(a ld c cd:Nat)(t nm:Nm)(g:x_ Pl)(lf:Nm->y_ (Nm×x_ Pl))(G:Nm->y_ Nat)(D:Nm->y_ PV)(E:x_ (Nm×PV))(r:Nat)(h':PH):Prop where
 fr:∀(i:Nat) o,i≠a->i≠ld->h[i]?=some o->h'[i]?=some o
 st:∃G',Tb h' a (c+r) (λw=>(G' w).map PV.ref)/\(∀w,w∉(E.take r).map (·.1)->G' w=G w/\StW h' t G' lf w)/\∀w,w∈(E.take r).map (·.1)->StW h' t G' (cP t g lf) w
 du:Tb h' ld (cd+r) (λw=>if w∈(E.take r).map (·.1)/\jR t g lf w=true then some (nU nm) else D w)
def AX(G:Nm->y_ Nat)(w:Nm)(l:Nat):upN (λw=>(G w).map PV.ref) w (.ref l)=λx=>(upN G w l x).map PV.ref:=by
 funext x
 change(if x=w then a_ _ else(G x).map _)=(if x=w then a_ l else G x).map _
 split <;> rfl
def L8(G:Nm->y_ Nat)(w:Nm):dnN (λw=>(G w).map PV.ref) w=λx=>(dnN G w x).map PV.ref:=by
 funext x
 change(if x=w then b_ else(G x).map _)=(if x=w then b_ else G x).map _
 split <;> rfl
def map_nil:L.map pl=[]↔L=[]:=Xj
variable{K:FE}{cd ld r:Nat}{x0 x2:y_ PV}
def IU{t:Nm}(N:NF lf){D:Nm->y_ PV}{E:x_ (Nm×PV)}(j7:(E.map (·.1)).Nodup)(hE:∀e∈E,∃l,e.2=.ref l/\G e.1=a_ l)(ne:a≠ld)(hc:c<=60/\cd<=60/\E.length<=60)(w:DW h a ld c cd t nm g lf G D E r h')(he:E[r]?=a_ e)(i2:atI A 2=a_ (.tup<|g.map pl))(k:∀h2,DW h a ld c cd t nm g lf G D E (r+1) h2->K.nx [x0,c_ ld,x2,x3,a_<|pv nm,x5,a_<|.tup A,c_ a,a_<|pv e.1,a_ e.2] h2):(qJ [x0,c_ ld,x2,x3,a_<|pv nm,x5,a_<|.tup A,c_ a,a_<|pv e.1,a_ e.2] h').W K:=by
 let⟨fr,⟨G1,t1,o1,n1⟩,du⟩:=w;let hr:=(SC.mp he).1;let tk:E.take (r+1)=E.take r++[e]:=by rw[V5,he];rfl
 let nE:e.1∉(E.take r).map (·.1):=λz=>by rw[<-List.take_append_drop (r+1) E,tk,UZ,UZ,V4,V4]at j7;show j7.1.2.2 e.1 z e.1 (by simp) rfl
 let⟨l,el,eG⟩:=hE e<|UP he;let⟨Su,sw⟩:=o1 e.1 nE;obtain⟨L,eL,nL,gl⟩:∃L,lf e.1=a_ (t,L)/\L≠[]/\h'[l]?=a_ (.lst<|L.map pl):=by
  rcases sw with⟨z,_⟩|⟨l',L,z,p,q,y⟩
  ·rw[Su,eG]at z;cases z
  ·rw[Su,eG]at z;cases z
   show⟨L,p,q,y⟩
 let lL:=(N e.1 t L eL).2.2;let cw:cP t g lf e.1=a_ (t,bV g L):=by unfold cP;rw[eL];show congrArg a_<|X2 0
 let hw:jR t g lf e.1=(bV g L).isEmpty:=by
  unfold jR;rw[eL];have:L.isEmpty=false:=by cases e:L with|nil=>exact(nL e).elim|cons a r=>rfl
  simp[qU,this]
 rw[el];unfold qJ;rw[aD];let le:=L7 (δ:=[x0,c_ ld,x2,x3,a_<|pv nm,x5,a_<|.tup A,c_ a,a_<|pv e.1,c_ l]) (g:=g) (by simp) (by simp) i2 gl ⋯;let la:=t1.lt;let TH:=du.lt;let xA:Ext h' (h'++[MO.lst<|(bV g L).map pl]):=z_ _;let gA:(h'++[MO.lst<|(bV g L).map pl])[h'.length]?=a_ (.lst<|(bV g L).map pl):=aF;let lA:(h'++[MO.lst<|(bV g L).map pl]).length=h'.length+1:=by simp
 generalize h'++[MO.lst<|(bV g L).map pl]=hA at le xA gA lA;let⟨o2,ie,t2⟩:=(t1.ext xA).put ⋯ e.1 (.ref h'.length);rw[AX]at t2;rw[Nr,le,rH];simp;refine⟨_,ie,now ?_⟩;let fB:∀(i:Nat) o,i≠a->h'[i]?=a_ o->(hA.set a o2)[i]?=a_ o:=λi o hi e=>aG (xA _ _ e)<|Va hi;let gB:(hA.set a o2)[h'.length]?=a_ (.lst<|(bV g L).map pl):=aG gA ⋯;let lB:(hA.set a o2).length=h'.length+1:=by rw[U2];show lA
 generalize hA.set a o2=hB at t2 fB gB lB;let av:=t2.at' (x:=e.1) (v:=.ref h'.length) (by change(if e.1=e.1 then a_ h'.length else G1 e.1).map _=_;rw[X2 0];rfl);let xC:Ext hB (hB++[MO.lst []]):=z_ _;let gC:(hB++[MO.lst []])[hB.length]?=a_ (.lst []):=aF;let lC:(hB++[MO.lst []]).length=hB.length+1:=by simp
 rw[cI];simp[av];generalize hB++[MO.lst []]=hC at xC gC lC;let eq:=Ak (xC _ _ gB) gC (AW _) rfl;rw[eq];let ls:∀(hZ:PH),(∀(i:Nat) o,i≠a->i≠ld->hC[i]?=a_ o->hZ[i]?=a_ o)->∀(i:Nat) xs,h'[i]?=a_ (.lst xs)->hZ[i]?=a_ (.lst xs):=λhZ f i xs q=>f _ _ (t1.ne_lst q) (du.ne_lst q)<|xC _ _<|fB _ _ (t1.ne_lst q) q;let old:∀(hZ:PH)(G2:Nm->y_ Nat),(∀(i:Nat) o,i≠a->i≠ld->hC[i]?=a_ o->hZ[i]?=a_ o)->(∀x,x≠e.1->G2 x=G1 x)->StW hZ t G2 (cP t g lf) e.1->(∀w,w∉(E.take<|r+1).map (·.1)->G2 w=G w/\StW hZ t G2 lf w)/\∀w,w∈(E.take<|r+1).map (·.1)->StW hZ t G2 (cP t g lf) w:=λhZ G2 f q own=>by
  rw[tk,UZ];refine⟨λw hw=>?_,λw hw=>?_⟩
  ·rw[UN,not_or]at hw;let c1:w≠e.1:=λz=>hw.2 (by simp[z]);let⟨p1,p2⟩:=o1 w hw.1;show⟨by rw[q w c1,p1],p2.keep (q w c1)<|ls hZ f⟩
  ·by_cases c1:w=e.1
   ·rw[c1];show own
   ·rcases UN.mp hw with hw|hw
    ·show(n1 w hw).keep (q w c1) (ls hZ f)
    ·show(c1<|ke hw).elim
 let z6:∀w,(if w∈(E.take<|r+1).map (·.1)/\jR t g lf w=true then a_ (nU nm) else D w)=if w=e.1/\(bV g L).isEmpty=true then a_ (nU nm) else if w∈(E.take r).map (·.1)/\jR t g lf w=true then a_ (nU nm) else D w:=λw=>by
  rw[tk,UZ];by_cases c1:w=e.1
  ·subst c1;rw[hw];cases(bV g L).isEmpty <;> simp
  ·have:(w∈(E.take r).map (·.1)++[e].map (·.1))↔w∈(E.take r).map (·.1):=by rw[UN];show⟨λz=>z.resolve_right λy=>c1<|ke y,.inl⟩
   rw[if_neg (λz:w=e.1/\_=>c1 z.1)];by_cases c2:w∈(E.take r).map (·.1)
   ·by_cases c3:jR t g lf w=true
    ·rw[if_pos ⟨this.mpr c2,c3⟩,if_pos ⟨c2,c3⟩]
    ·rw[if_neg λz=>c3 z.2,if_neg λz=>c3 z.2]
   ·rw[if_neg λz=>c2<|this.mp z.1,if_neg λz=>c2 z.1]
 let z8:Tb hC ld (cd+r) (λw=>if w∈(E.take r).map (·.1)/\jR t g lf w=true then a_ (nU nm) else D w):=du.keep λo q=>xC _ _<|fB _ _ (Va ne) q;let tC:=t2.ext xC;by_cases cz:bV g L=[]
 ·rw[decide_eq_true<|map_nil.mpr cz];let ce:(bV g L).isEmpty=true:=by rw[cz];rfl
  let⟨o3,lq,t3⟩:=z8.put ⋯ e.1 (nU nm);let lq:eQ (.ref ld) (pv e.1) (.tup [.str "outdone",pv nm]) hC=a_ (hC.set ld o3):=lq;let tD:Tb (hC.set ld o3) a (c+r+1) _:=tC.keep λo q=>aG q<|Va ne;simp[aD,lq];rfl';let lD:(hC.set ld o3).length=hC.length:=U2 ..;let fD:∀(i:Nat) o,i≠ld->hC[i]?=a_ o->(hC.set ld o3)[i]?=a_ o:=λi o hi q=>aG q<|Va hi;generalize hC.set ld o3=hD at t3 tD fD lD;let⟨o4,t4,pp,_⟩:=Tk.drop tD e.1;let pt:mK (.ref a) [pv e.1] hD=.ok (.ref h'.length) (hD.set a o4):=(pp (.ref h'.length) (by change(if e.1=e.1 then a_ h'.length else G1 e.1).map _=_;rw[X2 0];rfl)).1;let t4:Tb (hD.set a o4) a (c+r+1) (dnN (λx=>(upN G1 e.1 h'.length x).map PV.ref) e.1):=t4;rw[L8]at t4;simp[tD.dict,pt];let fZ:∀(i:Nat) o,i≠a->i≠ld->hC[i]?=a_ o->(hD.set a o4)[i]?=a_ o:=λi o p q z=>aG (fD _ _ q z)<|Va p;rw[<-el];refine k _ ⟨λi o p q z=>fZ _ _ p q<|xC _ _<|fB _ _ p<|fr _ _ p q z,⟨_,t4,?_⟩,(t3.keep λo q=>aG q ne).to λx=>?_⟩
  ·refine old _ _ fZ (λx hx=>?_) (.inl ⟨X2 0,λL' z=>?_⟩)
   ·change(if x=e.1 then b_ else if x=e.1 then _ else G1 x)=G1 x
    rw[if_neg hx,if_neg hx]
   ·rw[cw]at z;cases z
    show cz
  ·change(if x=e.1 then a_ (nU nm) else _)=_
   rw[z6 x];by_cases c1:x=e.1
   ·rw[if_pos c1,if_pos ⟨c1,ce⟩]
   ·rw[if_neg c1,if_neg λz=>c1 z.1]
 ·rw[decide_eq_false λz=>cz<|map_nil.mp z];let ce:¬ (bV g L).isEmpty=true:=λz=>cz<|List.isEmpty_iff.mp z;simp;rw[<-el];refine k _ ⟨λi o p q z=>xC _ _<|fB _ _ p<|fr _ _ p q z,⟨_,tC,?_⟩,(z8.more<|Vb _).to λx=>?_⟩
  ·refine old _ _ (λ_ _ _ _ z=>z) (λx hx=>if_neg hx) (.inr ⟨h'.length,bV g L,X2 0,cw,cz,xC _ _ gB⟩)
  ·rw[z6 x,if_neg λz:x=e.1/\_=>ce z.2]
def L9{t:Nm}(N:NF lf)(s:SD h a c t lf){D:Nm->y_ PV}(du:Tb h ld cd D)(ne:a≠ld)(hc:c<=60/\cd<=60)(i2:atI A 2=a_ (.tup<|g.map pl))(k:∀h' x8 x9,(∀(i:Nat) o,i≠a->i≠ld->h[i]?=a_ o->h'[i]?=a_ o)->SD h' a (c+60) t (cP t g lf)->Tb h' ld (cd+60) (λw=>if jR t g lf w=true then a_ (nU nm) else D w)->K.nx [x0,c_ ld,x2,x3,a_<|pv nm,x5,a_<|.tup A,c_ a,x8,x9] h'):
  (bR (aR<|mCB kK<|aA (uC bH dW<|mV 7) aC) (gTp 2<|gCn (gN 8)<|gCn (gN 9) gNl) qJ [x0,c_ ld,x2,x3,a_<|pv nm,x5,a_<|.tup A,c_ a,x8,x9] h).W K:=by
 let⟨G,tG,rG⟩:=s;let⟨E,tE,lE,j7,eE⟩:=id tG;let eE:∀x,fnd E x=(G x).map PV.ref:=eE;let⟨o,ho,hd,hit⟩:=xI tE;rw[Vk]at hit;let hD:=tG.dict;let x1:X5 (h++[MO.vw 0 a]):=z_ _;let lj:=Fd (aF (h:=h) (o:=MO.vw 0 a)) (x1 _ _ ho) hit (by rw[Uu];omega);let e0:uC bH dW (mV 7) [x0,c_ ld,x2,x3,a_<|pv nm,x5,a_<|.tup A,c_ a,x8,x9] h=.ok (.ref h.length) (h++[.vw 0 a]):=by simp[hD,wI ho hd]
 let Uc:Ext (h++[MO.vw 0 a]) (h++[MO.vw 0 a]++[MO.lst<|E.map λe=>.tup [pv e.1,e.2]]):=z_ _;let gl:(h++[MO.vw 0 a]++[MO.lst<|E.map λe=>.tup [pv e.1,e.2]])[(h++[MO.vw 0 a]).length]?=a_ (.lst<|E.map λe=>.tup [pv e.1,e.2]):=aF;let lj:kK [.ref h.length] (h++[MO.vw 0 a])=.ok (.ref (h++[MO.vw 0 a]).length) (h++[MO.vw 0 a]++[MO.lst<|E.map λe=>.tup [pv e.1,e.2]]):=lj;let xx:=x1.trans Uc;let e1:mCB kK (aA (uC bH dW<|mV 7) aC) [x0,c_ ld,x2,x3,a_<|pv nm,x5,a_<|.tup A,c_ a,x8,x9] h=.ok (.ref (h++[MO.vw 0 a]).length) (h++[MO.vw 0 a]++[MO.lst<|E.map λe=>.tup [pv e.1,e.2]]):=by rw[GH,By,e0,Rs.bind_ok,DH,Rs.bind_ok,Rs.bind_ok];show lj
 let lv:h.length<(h++[MO.vw 0 a]).length:=by simp
 generalize (h++[MO.vw 0 a]).length=n at e1 gl lv;generalize h++[MO.vw 0 a]++[MO.lst<|E.map λe=>.tup [pv e.1,e.2]]=hA at e1 gl xx;let la:=tG.lt;let TH:=du.lt;let hE:∀e∈E,∃l,e.2=.ref l/\G e.1=a_ l:=λe he=>by have:=eE e.1;rw[NK j7 he]at this;let⟨l,p,q⟩:=UI.mp this.symm;show⟨l,q.symm,p⟩
 refine iX (n:=n) (xs:=E.map λe=>.tup [pv e.1,e.2]) (h1:=hA) (λr δ h'=>r<=E.length/\DW hA a ld c cd t nm g lf G D E r h'/\∃x8 x9,δ=[x0,c_ ld,x2,x3,a_<|pv nm,x5,a_<|.tup A,c_ a,x8,x9]) e1 gl ⟨U5 _,⟨λ_ _ _ _ e=>e,⟨G,tG.ext xx,λw _=>⟨rfl,(rG w).imp id λ⟨l,L,p,q,y,z⟩=>⟨l,L,p,q,y,xx _ _ z⟩⟩,λw hw=>by simp at hw⟩,(du.ext xx).to λw=>by simp⟩,_,_,rfl⟩ (λq δ h' _ i=>i.2.1.fr _ _ ⋯ ⋯ gl) ?_ ?_
 ·rintro r y δ h' hy ⟨hr,w,y8,y9,rfl⟩;rw[UD]at hy;let⟨e,he,rfl⟩:=UI.mp hy;let j6:=(SC.mp he).1;refine⟨[x0,c_ ld,x2,x3,a_<|pv nm,x5,a_<|.tup A,c_ a,a_<|pv e.1,a_ e.2],by simp,?_⟩;show IU N j7 hE ne ⋯ w he i2 λh2 w2=>⟨j6,w2,_,_,rfl⟩
 ·rintro δ h' ⟨hr,w,y8,y9,rfl⟩;rw[Uu]at w;let⟨fr,⟨G',t',o',n'⟩,Sv⟩:=w;rw[WU]at o' n' Sv;let nk:∀w,w∉E.map (·.1)->∀L,lf w=a_ (t,L)->L=[]:=λw hw L z=>by
   rcases rG w with⟨_,q⟩|⟨l,L',p,_⟩
   ·show q L z
   ·have:=eE w;rw[p]at this;show(hw<|nG.mp (by rw[this];rfl)).elim
  refine k h' _ _ (λi o p q e=>fr _ _ p q<|xx _ _ e) ⟨G',t'.more ⋯,λw=>?_⟩<|(Sv.more ⋯).to λw=>?_
  ·by_cases c1:w∈E.map (·.1)
   ·show n' w c1
   ·let⟨p,q⟩:=o' w c1;refine .inl ⟨?_,λL z=>?_⟩
    ·rcases q with⟨q,_⟩|⟨l,L,_,z,zL,_⟩
     ·show q
     ·show(zL<|nk w c1 L z).elim
    ·let⟨⟨t1,L1⟩,e1,e2⟩:=UI.mp z;dsimp only at e2;split at e2
     ·rename_i ct;cases e2
      rw[nk w c1 L1<|by rw[e1]];rfl
     ·rename_i ct;cases e2
      show(ct rfl).elim
  ·by_cases c2:jR t g lf w=true
   ·let c1:w∈E.map (·.1):=Classical.byContradiction λz=>by
     have:=nk w z;unfold jR at c2;cases e:lf w with
     |none=>rw[e]at c2;cases c2
     |some y=>rw[e]at c2;unfold qU at c2;simp only[UQ,decide_eq_true_eq,Bool.not_eq_true']at c2;have:=this y.2 (by rw[e,<-c2.1]);rw[this]at c2;show absurd c2.2.1 (by decide)
    rw[if_pos ⟨c1,c2⟩,if_pos c2]
   ·rw[if_neg λz=>c2 z.2,if_neg c2]
abbrev zV(os:x_ Dd)(q i:Nat)(d:Dd):PV:=if idD (os.take i) d=true then idV else match(Q_ q).U d.nm with
 |some y=>nU y
 |none=>kZ
structure DO(h:PH)(os:x_ Dd)(q:Nat)(h':PH):Prop where
 x:Ext h h'
 du:∃D,Tb h' h.length q D/\(∀i d,i<q->os[i]?=some d->D d.nm=some (zV os q i d))/\∀x,(D x).isSome=true->x∈(os.take q).map (·.nm)
 lf:∃A:Nm->y_ Nat,Tb h' (h.length+1) q (λx=>(A x).map PV.ref)/\(∀x,(A x).isSome=mkP (os.take q) x)/\(∀x y a,A x=some a->A y=some a->x=y)/\∀x a,A x=some a->h.length+2<=a/\SD h' a q x (aM os q).lf
abbrev DI(h:PH)(os:x_ Dd)(n:Nat)(q:Nat)(δ:Ev)(h':PH):Prop:=DO h os q h'/\∃x3 x4 x5 x6 x7 x8 x9,δ=[c_ n,c_ h.length,c_<|h.length+1,x3,x4,x5,x6,x7,x8,x9]
def La(h:mkP P x=true):x∈P.map (·.nm):=by let⟨d,hd,z⟩:=List.any_eq_true.mp h;rw[UQ]at z;show UO.mpr ⟨d,hd,of_decide_eq_true z.2⟩
variable{D':Nm->y_ PV}
def qV(nd:(os.map (·.nm)).Nodup){q:Nat}{d:Dd}(hd:os[q]?=a_ d){D:Nm->y_ PV}(eD:∀i d,i<q->os[i]?=a_ d->D d.nm=a_ (zV os q i d))(oD:∀x,(D x).isSome=true->x∈(os.take q).map (·.nm))(t:Tb h n c D')(eU:∀x,(Q_<|q+1).U x=(Q_ q).U x)(u0:(Q_ q).U d.nm=b_)(e':D'=upN D d.nm (if idD (os.take q) d=true then idV else kZ)):∃D,Tb h n (q+1) D/\(∀i d,i<q+1->os[i]?=a_ d->D d.nm=a_ (zV os (q+1) i d))/\∀x,(D x).isSome=true->x∈(os.take<|q+1).map (·.nm):=by
 let hq:=(SC.mp hd).1;let⟨tk,ny⟩:=AU nd hd;let od:∀x,(D' x).isSome=true->x∈(os.take<|q+1).map (·.nm):=λx hx=>by
  rw[e']at hx;let hx:(if x=d.nm then a_ _ else D x).isSome=true:=hx;rw[tk,UZ];by_cases c:x=d.nm
  ·rw[c];show Ut _ (by simp)
  ·rw[if_neg c]at hx;show U8 _<|oD x hx
 let t2:=t.dom _ od;rw[Uu,VE,Wy ⋯]at t2;refine⟨D',t2,λi e hi he=>?_,od⟩;rw[e']
 change(if e.nm=d.nm then a_ _ else D e.nm)=_
 unfold zV;rw[eU];rcases Nat.lt_or_ge i q with z|z
 ·rw[if_neg λw=>by have:=(xH nd he hd w).1;omega];show eD i e z he
 ·have:i=q:=⋯;subst this;rw[hd]at he;cases he
  rw[X2 0,u0]
def IV(nd:(os.map (·.nm)).Nodup)(wf:∀d∈os,Wf d)(ln:os.length<=50){q:Nat}(p:DI h os n q δ h'){d:Dd}(hd:os[q]?=a_ d)(kn:∀δ h2,DI h os n (q+1) δ h2->K.nx δ h2)(kc:∀δ h2,DI h os n (q+1) δ h2->K.ct δ h2):(qK (δ.set 3<|a_<|dP d) h').W K:=by
 let⟨⟨x,⟨D,tD,eD,oD⟩,⟨A,tA,mA,jA,sA⟩⟩,x3,x4,x5,x6,x7,x8,x9,rfl⟩:=p;let hq:=(SC.mp hd).1;let⟨tk,ny⟩:=AU nd hd;let W:=wf d<|UP hd;let I:=sM nd wf q ⋯;let I1:=sM nd wf (q+1) ⋯;let gs:=nH hd;let l0:(Q_ q).lf d.nm=b_:=by
  cases e:(Q_ q).lf d.nm with
  |none=>rfl
  |some v=>exact(ny<|I.x _ (by rw[e];rfl)).elim
 let u0:(Q_ q).U d.nm=b_:=by
  cases e:(Q_ q).U d.nm with
  |none=>rfl
  |some v=>have:=I.u d.nm (by rw[e];rfl);rw[l0]at this;cases this
 let xl:=x.len;let lD:=tD.lt;let lA:=tA.lt
 change(qK [c_ n,c_ h.length,c_<|h.length+1,a_<|dP d,x4,x5,x6,x7,x8,x9] h').W K
 unfold qK;rw[aD];simp;refine⟨[c_ n,c_ h.length,c_<|h.length+1,a_<|dP d,a_<|X_ 0,a_<|sv d.seen,a_<|.tup<|X8 0,x7,x8,x9],by simp[dP],?_⟩;rfl';rw[aD];let⟨o1,iw,t1⟩:=tD.put ⋯ d.nm kZ;let iw:eQ (.ref h.length) (X_ 0) (.tup [.str "stands"]) h'=a_ (h'.set h.length o1):=iw;simp[iw];let f1:∀(i:Nat) o,i≠h.length->h'[i]?=a_ o->(h'.set h.length o1)[i]?=a_ o:=λi o hi e=>aG e<|Va hi;let x1:X5 (h'.set h.length o1):=x.setN<|Uv _;let l1:(h'.set h.length o1).length=h'.length:=U2 ..;generalize h'.set h.length o1=h1 at t1 f1 x1 l1;let kj:Tb h1 (h.length+1) q (λx=>(A x).map PV.ref):=tA.keep λo e=>f1 _ _ ⋯ e;let xb:∀(i:Nat) xs,h'[i]?=a_ (.lst xs)->h1[i]?=a_ (.lst xs):=λi xs e=>f1 _ _ (tD.ne_lst e) e;let ko:∀x a,A x=a_ a->h.length+2<=a/\SD h1 a q x (Q_ q).lf:=λx a e=>let ⟨p,s⟩:=sA x a e;⟨p,s.keep (λo e=>f1 _ _ ⋯ e) xb⟩;rfl';rw[aD,cI];cases et:thA d.act with
 |none=>
  obtain⟨z,ea⟩:∃z,d.act=.make z:=by cases e:d.act <;> rw[e]at et <;> first|exact⟨_,rfl⟩|cases et
  let i0:atI (X8 0) 0=a_ (.str "make"):=by rw[ea];show aK (i:=0) rfl
  let ni:idD (os.take q) d=false:=by unfold idD;rw[et]
  let g1:Q_ (q+1)=Q_ q:=by rw[gs];unfold gst;rw[ea];split <;> rfl
  let em:uG d=true:=by unfold uG;rw[ea]
  generalize aT d.act=B at i0;simp[i0,aD];let xE:Ext h1 (h1++[MO.dK []]):=z_ _;let gE:(h1++[MO.dK []])[h1.length]?=a_ (.dK []):=aF;generalize h1++[MO.dK []]=h2 at xE gE;let⟨o2,ie,t2⟩:=(kj.ext xE).put ⋯ d.nm (.ref h1.length);rw[AX]at t2;refine⟨_,ie,now ?_⟩;simp;let f2:∀(i:Nat) o,i≠h.length+1->h1[i]?=a_ o->(h2.set (h.length+1) o2)[i]?=a_ o:=λi o hi e=>aG (xE _ _ e)<|Va hi;let gZ:(h2.set (h.length+1) o2)[h1.length]?=a_ (.dK []):=aG gE ⋯;let o8:∀(i:Nat) xs,h1[i]?=a_ (.lst xs)->(h2.set (h.length+1) o2)[i]?=a_ (.lst xs):=λi xs e=>f2 _ _ (kj.ne_lst e) e;refine kc _ _ ⟨⟨(x1.trans xE).setN ⋯,qV nd hd eD oD (t1.keep λo e=>f2 _ _ ⋯ e) (λx=>by rw[g1]) u0 (by rw[ni];rfl),upN A d.nm h1.length,t2,λy=>?_,λy y' a e e'=>?_,λy a e=>?_⟩,_,_,_,_,_,_,_,rfl⟩
  ·rw[tk,qT,em]
   change(if y=d.nm then a_ h1.length else A y).isSome=_
   by_cases c:y=d.nm
   ·rw[if_pos c];simp[c]
   ·rw[if_neg c,mA];let c':¬ d.nm=y:=λz=>c z.symm;simp[c']
  ·let e:(if y=d.nm then a_ h1.length else A y)=a_ a:=e;let e':(if y'=d.nm then a_ h1.length else A y')=a_ a:=e';let lt:∀y a,A y=a_ a->a<h1.length:=λy a e=>let ⟨_,G,t,_⟩:=ko y a e;t.lt;by_cases c1:y=d.nm <;> by_cases c2:y'=d.nm
   ·rw[c1,c2]
   ·rw[if_pos c1]at e;rw[if_neg c2]at e';cases e;have:=lt _ _ e';omega
   ·rw[if_neg c1]at e;rw[if_pos c2]at e';cases e';have:=lt _ _ e;omega
   ·rw[if_neg c1]at e;rw[if_neg c2]at e';show jA _ _ _ e e'
  ·let e:(if y=d.nm then a_ h1.length else A y)=a_ a:=e;rw[g1];by_cases c:y=d.nm
   ·rw[if_pos c]at e;cases e
    refine⟨⋯,λ_=>b_,(Tb.nil gZ).more<|U5 _,λw=>.inl ⟨rfl,λL hL=>?_⟩⟩;have:=LC nd wf q ⋯ w y L hL;show(ny<|c▸La this).elim
   ·rw[if_neg c]at e;let⟨p,s⟩:=ko y a e;show⟨p,(s.keep (λo e=>f2 _ _ ⋯ e) o8).more<|Vb _⟩
 |some th=>
  let⟨i0,i1,hw,yh⟩:=IG W.act et;let n1:¬ wdA d.act="make" := λz=>(IH hw).1<|.inl z;let em:uG d=false:=by unfold uG;cases e:d.act <;> first|rfl|exact(yh _ e).elim
  let j5:∀y,mkP (os.take<|q+1) y=mkP (os.take q) y:=λy=>by rw[tk,mW em]
  let vh:=kj.hasNo th;rw[Wm,mA]at vh;let lp:∀u sd w,d.act=.write th u sd w->jL [dP d] h1=.ok (.ref h1.length) (h1++[.lst<|(plN d u sd w).map pl]):=λu sd w e=>xJ e W.act h1;let ew:∀u sd w,d.act=.write th u sd w->wdA d.act="write" := λu sd w e=>by rw[e];rfl
  let ec:∀g,d.act=.cut th g->wdA d.act="cut" /\ atI (X8 0) 2=a_ (.tup<|g.map pl):=λg e=>by rw[e];show⟨rfl,aK (i:=2) rfl⟩
  let eo:(∀u sd w,d.act≠.write th u sd w)->(∀g,d.act≠.cut th g)->¬ wdA d.act="write" /\ ¬ wdA d.act="cut" := λp1 p2=>by
   let⟨w1,w2,w3,w4,w5,w6⟩:=wdT;let ha:=W.act;cases e:d.act with
   |make z=>exact(yh _ e).elim
   |write t u sd w=>rw[e]at et;cases et;show(p1 _ _ _ e).elim
   |cut t g=>rw[e]at et;cases et;show(p2 _ e).elim
   |mk w t a b=>
    rw[e]at ha
    change ¬ w="write" /\ ¬ w="cut"
    rcases ha with rfl|rfl
    ·show⟨w2,w3⟩
    ·show⟨w4,w5⟩
  generalize wdA d.act=wd at i0 hw n1 ew ec eo;generalize aT d.act=B at i0 i1 ec;simp[i0,n1];rfl';rw[aD,cI];cases ei:mkP (os.take q) th with
  |false=>
   rw[ei]at vh;let ii:idD (os.take q) d=true:=by unfold idD;rw[et];simp[ei]
   let g1:Q_ (q+1)=Q_ q:=by rw[gs];unfold gst;rw[if_pos ii]
   let⟨o2,ie,t2⟩:=t1.put ⋯ d.nm idV;let ie:eQ (.ref h.length) (X_ 0) (.tup [.str "idle"]) h1=a_ (h1.set h.length o2):=ie;simp[i1,vh,aD,ie];rfl';simp;let f2:∀(i:Nat) o,i≠h.length->h1[i]?=a_ o->(h1.set h.length o2)[i]?=a_ o:=λi o hi e=>aG e<|Va hi;let o8:∀(i:Nat) xs,h1[i]?=a_ (.lst xs)->(h1.set h.length o2)[i]?=a_ (.lst xs):=λi xs e=>f2 _ _ (t1.ne_lst e) e;refine kc _ _ ⟨⟨x1.setN<|Uv _,qV nd hd eD oD t2 (λx=>by rw[g1]) u0 ?_,A,(kj.keep λo e=>f2 _ _ ⋯ e).more<|Vb _,λy=>by rw[mA,j5],jA,λy a e=>?_⟩,_,_,_,_,_,_,_,rfl⟩
   ·rw[ii,X2 0];funext y
    change(if y=d.nm then a_ idV else if y=d.nm then a_ kZ else D y)=if y=d.nm then a_ idV else D y
    by_cases c:y=d.nm
    ·rw[if_pos c,if_pos c]
    ·rw[if_neg c,if_neg c,if_neg c]
   ·let⟨p,s⟩:=ko y a e;rw[g1];show⟨p,(s.keep (λo e=>f2 _ _ ⋯ e) o8).more<|Vb _⟩
  |true=>
   rw[ei]at vh;let ii:¬ idD (os.take q) d=true:=by unfold idD;rw[et];simp[ei]
   let dw:Q_ (q+1)=match d.act with
     |.make _=>Q_ q
     |.write t u sd w=>⟨upN (Q_ q).lf d.nm (t,plN d u sd w),(Q_ q).U⟩
     |.cut t g=>⟨cP t g (Q_ q).lf,iK t g (Q_ q).lf (Q_ q).U d.nm⟩
     |.mk _ _ _ _=>Q_ q:=by rw[gs];unfold gst;rw[if_neg ii];all_goals (cases d.act <;> rfl)
   let fQ:idD (os.take q) d=false:=by simpa using ii
   obtain⟨a,eA⟩:∃a,A th=a_ a:=Wz.mp (by rw[mA];show ei);let⟨pa,sa⟩:=ko th a eA;let av:=kj.at' (x:=th) (v:=.ref a) (by rw[eA];rfl);simp[i1,vh];rfl';rw[aD];simp[i1,av];rfl';rw[aD,cI];let la:a<h1.length:=let ⟨G,t,_⟩:=sa;t.lt;cases ea:d.act with
   |make z=>exact(yh _ ea).elim
   |write t u sd w=>
    rw[ea]at et;cases et
    rw[ea]at dw;let dw:Q_ (q+1)=⟨upN (Q_ q).lf d.nm (th,plN d u sd w),(Q_ q).U⟩:=dw;obtain rfl:=ew u sd w ea;let lw:1<=w.length:=by have:=W.act;rw[ea]at this;show this.2.1
    let lL:(plN d u sd w).length=w.length:=qQ;let lp:=lp u sd w ea;let x2:Ext h1 (h1++[MO.lst<|(plN d u sd w).map pl]):=z_ _;let g2:(h1++[MO.lst<|(plN d u sd w).map pl])[h1.length]?=a_ (.lst<|(plN d u sd w).map pl):=aF;let nL:plN d u sd w≠[]:=λz=>by rw[z]at lL;simp at lL;omega
    generalize plN d u sd w=L at lp x2 g2 dw nL;generalize h1++[MO.lst<|L.map pl]=h2 at lp x2 g2;let⟨G,tG,rG⟩:=sa;let⟨o3,lq,t3⟩:=(tG.ext x2).put ⋯ d.nm (.ref h1.length);rw[AX]at t3;simp[i0,lp];refine⟨_,lq,now ?_⟩;rw[cI];let w9:¬ (UB "write")=UB "cut" := λz=>wdT.1 z.symm;simp[i0,w9];let f3:∀(i:Nat) o,i≠a->h1[i]?=a_ o->(h2.set a o3)[i]?=a_ o:=λi o hi e=>aG (x2 _ _ e)<|Va hi;let So:∀(i:Nat) xs,h1[i]?=a_ (.lst xs)->(h2.set a o3)[i]?=a_ (.lst xs):=λi xs e=>f3 _ _ (tG.ne_lst e) e;let g3:(h2.set a o3)[h1.length]?=a_ (.lst<|L.map pl):=aG g2 ⋯;refine kn _ _ ⟨⟨(x1.trans x2).setN ⋯,qV nd hd eD oD (t1.keep λo e=>f3 _ _ ⋯ e) (λx=>by rw[dw]) u0 (by rw[fQ];rfl),A,(kj.keep λo e=>f3 _ _ ⋯ e).more<|Vb _,λy=>by rw[mA,j5],jA,λy b e=>?_⟩,_,_,_,_,_,_,_,rfl⟩;rw[dw];by_cases c:y=th
    ·subst c;rw[eA]at e;cases e
     refine⟨pa,_,t3,λw'=>?_⟩;by_cases c2:w'=d.nm
     ·refine .inr ⟨h1.length,L,if_pos c2,if_pos c2,nL,g3⟩
     ·let e1:upN (Q_ q).lf d.nm (y,L) w'=(Q_ q).lf w':=if_neg c2;let e2:upN G d.nm h1.length w'=G w':=if_neg c2;dsimp only;rw[e2,e1];show(rG w').imp id λ⟨l,L',p,q,r,s⟩=>⟨l,L',p,q,r,So _ _ s⟩
    ·let⟨p,s⟩:=ko y b e;let nb:b≠a:=λz=>c<|jA y th a (z▸e) eA;refine⟨p,((s.keep (λo e=>f3 _ _ nb e) So).to λw' L'=>?_).more<|Vb _⟩
     change(if w'=d.nm then a_ (th,L) else(Q_ q).lf w')=a_ (y,L')↔_
     by_cases c2:w'=d.nm
     ·rw[if_pos c2,c2,l0];constructor
      ·intro z;cases z;show(c rfl).elim
      ·intro z;cases z
     ·rw[if_neg c2]
   |cut t g=>
    rw[ea]at et;cases et
    rw[ea]at dw;let dw:Q_ (q+1)=⟨cP th g (Q_ q).lf,iK th g (Q_ q).lf (Q_ q).U d.nm⟩:=dw;let⟨rfl,i2⟩:=ec g ea;let w9:=wdT.1;simp[i0,w9];rfl';rw[cI];simp[i0];refine L9 (cd:=q+1) (c:=q) I.nd sa t1 ⋯ ⋯ i2 λh2 y8 y9 f2 s2 d2=>?_;let o8:∀(i:Nat) xs,h1[i]?=a_ (.lst xs)->h2[i]?=a_ (.lst xs):=λi xs e=>f2 _ _ (let ⟨G,t,_⟩:=sa;t.ne_lst e) (t1.ne_lst e) e;let h0:jR th g (Q_ q).lf d.nm=false:=by unfold jR;rw[l0]
    let eU:∀y,(Q_<|q+1).U y=if jR th g (Q_ q).lf y=true then a_ d.nm else(Q_ q).U y:=λy=>by rw[dw];show IT
    let hx:∀y,jR th g (Q_ q).lf y=true->((Q_ q).lf y).isSome=true:=λy z=>by
     unfold jR at z;cases e:(Q_ q).lf y with
     |none=>rw[e]at z;cases z
     |some v=>rfl
    let od:∀y,(if jR th g (Q_ q).lf y=true then a_ (nU d.nm) else upN D d.nm kZ y).isSome=true->y∈(os.take<|q+1).map (·.nm):=λy z=>by
     rw[tk,UZ];by_cases c:jR th g (Q_ q).lf y=true
     ·show U8 _ (I.x y<|hx y c)
     ·rw[if_neg c]at z;by_cases c2:y=d.nm
      ·rw[c2];show Ut _ (by simp)
      ·let z:(if y=d.nm then a_ kZ else D y).isSome=true:=z;rw[if_neg c2]at z;show U8 _<|oD y z
    let t9:=d2.dom _ od;rw[Uu,VE,Wy ⋯]at t9;refine kn _ _ ⟨⟨λi o e=>have hh:=(SC.mp e).1;f2 _ _ ⋯ ⋯ (x1 _ _ e),⟨_,t9,λi e hi he=>?_,od⟩,A,(kj.keep λo e=>f2 _ _ ⋯ ⋯ e).more<|Vb _,λy=>by rw[mA,j5],jA,λy b e=>?_⟩,_,_,_,_,_,_,_,rfl⟩
    ·unfold zV;rw[eU];rcases Nat.lt_or_ge i q with z|z
     ·let ne:¬ e.nm=d.nm:=λw=>by have:=(xH nd he hd w).1;omega
      let e3:upN D d.nm kZ e.nm=a_ (zV os q i e):=by
       change(if e.nm=d.nm then _ else D e.nm)=_
       rw[if_neg ne];show eD i e z he
      by_cases c:jR th g (Q_ q).lf e.nm=true
      ·rw[if_pos c,if_pos c];have:idD (os.take i) e=false:=by
        cases e4:idD (os.take i) e with
        |false=>rfl
        |true=>have:=I.ni i e z he e4;have:=hx e.nm c;simp_all
       rw[this];rfl
      ·rw[if_neg c,if_neg c,e3];rfl
     ·have:i=q:=⋯;subst this;rw[hd]at he;cases he
      rw[h0,if_neg UH,if_neg UH,u0,fQ]
      change(if d.nm=d.nm then a_ kZ else _)=_
      rw[X2 0];rfl
    ·let sx:∀w',((cP th g (Q_ q).lf) w').isSome=true->w'∈(os.take<|q+1).map (·.nm):=λw' z=>I1.x w' (by rw[dw];show z);let Uo:((os.take<|q+1).map (·.nm)).length=q+1:=by rw[Uu,VE,Wy ⋯]
     rw[dw];by_cases c:y=th
     ·subst c;rw[eA]at e;cases e
      have:=s2.dom _ sx;rw[Uo]at this;show⟨pa,this⟩
     ·let⟨p,s⟩:=ko y b e;let nb:b≠a:=λz=>c<|jA y th a (z▸e) eA;refine⟨p,((s.keep (λo e=>f2 _ _ nb ⋯ e) o8).to λw' L'=>?_).more<|Vb _⟩
      change((Q_ q).lf w').map (λx=>if x.1=th then(x.1,bV g x.2) else x)=a_ (y,L')↔_
      cases e5:(Q_ q).lf w' with
      |none=>simp
      |some v=>
       change a_ (if v.1=th then(v.1,bV g v.2) else v)=a_ (y,L')↔_
       by_cases c5:v.1=th
       ·rw[if_pos c5];constructor
        ·intro z;cases z;show(c c5).elim
        ·intro z;cases z;show(c c5).elim
       ·rw[if_neg c5]
   |mk w t x' y'=>
    let Sd:=et;rw[ea]at dw;let dw:Q_ (q+1)=Q_ q:=dw;let⟨n2,n3⟩:=eo (λ_ _ _=>by rw[ea];nofun) λ_=>by rw[ea];nofun
    simp[i0,n2];rfl';rw[cI];simp[i0,n3];refine kn _ _ ⟨⟨x1,qV nd hd eD oD t1 (λx=>by rw[dw]) u0 (by rw[fQ];rfl),A,kj.more<|Vb _,λy=>by rw[mA,j5],jA,λy b e=>?_⟩,_,_,_,_,_,_,_,rfl⟩;let⟨p,s⟩:=ko y b e;rw[dw];show⟨p,s.more<|Vb _⟩
def NU(nd:(os.map (·.nm)).Nodup)(wf:∀d∈os,Wf d)(ln:os.length<=50)(g:h[n]?=a_ (.lst<|os.map dP))(k:∀l c D h',X5 h'->Tb h' l c D->(∀i d,os[i]?=a_ d->D d.nm=a_ (tW os i d))->Q (.ref l) h'):(HU [.ref n] h).W Q:=by
 refine bG ?_;unfold HS;rw[aD];simp;rfl';rw[aD];simp;let x0:X5 (h++[MO.dK [],MO.dK []]):=z_ _;let gt:(h++[MO.dK [],MO.dK []])[h.length]?=a_ (.dK []):=by simp
 let gb:(h++[MO.dK [],MO.dK []])[h.length+1]?=a_ (.dK []):=by simp
 generalize h++[MO.dK [],MO.dK []]=hA at x0 gt gb;rfl';rw[aD];refine iX (n:=n) (xs:=os.map dP) (h1:=hA) (DI h os n) (by simp) (x0 _ _ g) ⟨⟨x0,⟨_,Tb.nil gt,(λi d hi=>absurd hi<|Nat.not_lt_zero _),λx hx=>(nomatch hx)⟩,⟨λ_=>b_,Tb.nil gb,λ_=>rfl,(λ_ _ _ z=>nomatch z),λ_ _ z=>nomatch z⟩⟩,_,_,_,_,_,_,_,rfl⟩ (λq δ h' _ i=>i.1.x _ _ g) ?_ ?_
 ·rintro q y δ h' hy i;rw[UD]at hy;let⟨d,hd,rfl⟩:=UI.mp hy;show⟨_,rfl,IV nd wf ln i hd (λ_ _ z=>z) λ_ _ z=>z⟩
 ·rintro δ h' ⟨⟨x,⟨D,tD,eD,_⟩,_⟩,x3,x4,x5,x6,x7,x8,x9,rfl⟩;rw[Uu]at tD eD;rfl';simp;show k _ _ D h' x tD λi d hd=>eD i d ((SC.mp hd).1) hd
abbrev drawn(c k:Int):Int:=
 letI n:=(c+7919*k+1)*48271%2147483647
 n*(n/1009+69621)%2147483647
def dU(c k:Int):0<=drawn c k/\drawn c k<2147483647:=⟨Int.emod_nonneg _<|by decide,Int.emod_lt_of_pos _<|by decide⟩
@[simp]theorem Qe(c k:Int)(h:PH):bQ [.int c,.int k] h=.ok (.int<|drawn c k) h:=by simp(disch:=omega) [bQ,mFn,AB,aE,aQ,bF,drawn]
def Fs(z:Str):(Txt.slice z (a_ 1) b_).length<=z.length:=by
 by_cases c:z.length=0
 ·have:z.cps.toList=[]:=Xl (by rw[len_list];show c);let⟨⟨l⟩⟩:=z;have:l=[]:=this;subst this
  decide +kernel
 ·rw[<-len_list,Dg ⋯ ⋯,WS,len_list];omega
abbrev HI(c:Int)(h:PH)(q:Nat)(δ:Ev)(h':PH):Prop:=∃hs:x_ Str,X5 h'/\h'[h.length]?=a_ (.lst<|hs.map PV.str)/\hs.length=q/\∃x2 x3 x4 x5,δ=[d_ c,c_ h.length,x2,x3,x4,x5]
def IW(c:Int)(h:PH)(Q:PV->PH->Prop)(k:∀(hs:x_ Str) l h',X5 h'->h'[l]?=a_ (.lst<|hs.map PV.str)->hs.length=3->Q (.ref l) h'):(AD [.int c] h).W Q:=by
 refine bG ?_;unfold AC;rw[aD];simp;let x0:X5 (h++[MO.lst []]):=z_ _;let g0:(h++[MO.lst []])[h.length]?=a_ (.lst<|([]:x_ Str).map PV.str):=aF;generalize h++[MO.lst []]=hA at x0 g0;rfl';rw[aD];refine Ai (j:=3) (HI c h) (by simp) ⋯ ⟨[],x0,g0,rfl,_,_,_,_,rfl⟩ ?_ ?_
 ·rintro q δ h' hq ⟨hs,x,g,lh,x2,x3,x4,x5,rfl⟩;unfold rW;rw[aD];simp;rfl';rw[aD];let hd:=dU c<|50+q;refine Ai (j:=1+drawn c (50+q)%8) (λi δ h2=>h2=h'/\∃(w:Str)(x4:y_ PV),w.length=i/\δ=[d_ c,c_ h.length,d_ q,a_<|.str w,x4,x5]) (by simp(disch:=omega)) ⋯ ⟨rfl,_,_,rfl,rfl⟩ ?_ ?_
  ·rintro i δ h2 hi ⟨rfl,w,x4,lw,rfl⟩;unfold rT;let hd2:=dU c<|60+9*q+i;let hc:=KD (i:=drawn c (60+9*q+i)%26) ⋯ ⋯;let hl:=zQ;let h1:(⟨#[97+(drawn c (60+9*q+i)%26).toNat]⟩:Str).length=1:=rfl;let hv:vIx (.str "abcdefghijklmnopqrstuvwxyz") (.int<|drawn c (60+9*q+i)%26) h2=.ok (.str ⟨#[97+(drawn c (60+9*q+i)%26).toNat]⟩) h2:=by
    change vIx (.str HX) _ _=_
    rw[uN (by rw[zQ];omega),hc];rfl
   simp(disch:=omega) [-uN,hv];rw[C8];omega
  ·rintro δ h2 ⟨rfl,w,x4,lw,rfl⟩;rfl';rw[aD];refine Nz (x:="pqrst") (λi δ h3=>h3=h2/\∃(w:Str)(x5:y_ PV),w.length<=8+i/\δ=[d_ c,c_ h.length,d_ q,a_<|.str w,x4,x5]) (by simp) (by decide +kernel) ⟨rfl,w,_,⋯,rfl⟩ ?_ ?_
   ·rintro i cc δ h3 hc ⟨rfl,w,x5,lw,rfl⟩;refine⟨_,rfl,?_⟩;let hi:i<5:=by
     have:=(SC.mp hc).1;let e5:(UB "pqrst").cps.toList.length=5:=by decide +kernel
     omega
    unfold rV;rw[cI];let al:(hs.map PV.str).all (PV.pl 39)=true:=by rw[UK];intro y hy;let⟨t,_,rfl⟩:=UO.mp hy;rfl
    let cf:=K1 (x:=.str w) g rfl al;let sl:=Fs w;let h1:(⟨#[cc]⟩:Str).length=1:=rfl;simp[GW g,cf];split
    ·simp(disch:=omega);rw[Str.length_append];omega
    ·omega
   ·rintro δ h3 ⟨rfl,w,x5,lw,rfl⟩;rfl';let ap:=dX (p:=.str w) g (by rw[Uu];omega);rw[show hs.map PV.str++[.str w]=(hs++[w]).map PV.str by simp]at ap;simp[kC g];rw[ap,rH];show⟨hs++[w],E7 x,cD g,by simp[lh],_,_,_,_,rfl⟩
 ·rintro δ h' ⟨hs,x,g,lh,x2,x3,x4,x5,rfl⟩;rfl';let⟨zs,pz,ez⟩:=BR g ⋯;simp[ez];have:=pz.length_eq;show k zs _ _ (x.trans<|z_ _) aF ⋯
@[reducible]def al:Str:=" !#&'()*+,-./0123456789:;<=>?@ABCDEFGHIJKLMNOPQRSTUVWXYZ[]^_abcdefghijklmnopqrstuvwxyz{|}~"
def IX:(UB "").cps.toList=[]:=by decide +kernel
def NV:al.cps.toList.length=90:=by decide +kernel
def uQ:al.length=90:=by decide +kernel
def NW:∀i:Fin 90,(al.cps.toList[i.val]?).any (λc=>decide (c<128))=true:=by decide +kernel
def Qf(h0:0<=i)(h1:i<90):∃c,atI al.cps.toList i=a_ c/\c<128:=by
 rw[DK h0 (by rw[NV];show h1)];have:=NW ⟨i.toNat,⋯⟩;cases e:al.cps.toList[i.toNat]? with
 |none=>rw[e]at this;cases this
 |some c=>rw[e]at this;show⟨c,rfl,ke this⟩
def IY(c:Int)(n:Nat)(h:PH)(Q:PV->PH->Prop)(k:∀w:Str,1<=w.length->w.length<=12->Asc w->Q (.str w) h):(qH [.int c,.int n] h).W Q:=by
 refine bG ?_;unfold AE;rw[aD];simp;rfl';rw[aD];simp;rfl';rw[aD];let hd:=dU c 10;obtain⟨j,ej,j1,j2⟩:∃j:Int,aA (aB aY (o_ 1)<|aB rF (aB gY (aN 2 bQ<|aA (mV 0)<|aA (o_ 10) aC)<|o_ 12)<|mCB mI<|aA (aB vLt (mV 1)<|o_ 60) aC) aC [d_ c,d_ n,a_<|.str al,a_<|.str "",b_] h=.ok [.int j] h/\1<=j/\j<=12:=by
  by_cases z:(n:Int)<60
  ·show⟨1+drawn c 10%12,by simp(disch:=omega) [mI,z],⋯,⋯⟩
  ·show⟨1,by simp(disch:=omega) [mI,z],⋯,⋯⟩
 refine Ai (j:=j) (λq δ h'=>h'=h/\∃w x4,δ=[d_ c,d_ n,a_<|.str al,a_<|.str w,x4]/\w.length=q/\Asc w) ej ⋯ ⟨rfl,_,_,rfl,rfl,λc hc=>by rw[IX]at hc;cases hc⟩ ?_ ?_
 ·rintro q δ h' hq ⟨rfl,w,x4,rfl,hw,hlow⟩;let hd2:=dU c<|11+q;let⟨cc,hc,Sm⟩:=Qf (i:=drawn c (11+q)%90) ⋯ ⋯;let hl:=uQ;let h1:(⟨#[cc]⟩:Str).length=1:=rfl;let hv:vIx (.str al) (.int<|drawn c (11+q)%90) h'=.ok (.str ⟨#[cc]⟩) h':=by rw[uN (by rw[uQ];omega),hc];rfl
  let Ta:jJ [.str al] h'=.ok (.int 90) h':=by rw[Bz (by rw[uQ];omega),uQ];rfl
  unfold rZ;simp(disch:=omega) [-uN,-Bz,hv,Ta];refine⟨by rw[C8];omega,λd hd=>?_⟩;rw[app_list]at hd;rcases UN.mp hd with hd|hd
  ·show hlow d hd
  ·simp at hd;omega
 ·rintro δ h' ⟨rfl,w,x4,rfl,hw,hlow⟩;rfl';simp;show k w ⋯ ⋯ hlow
abbrev LB(B:Nat):Ac->Prop
 |.write _ u _ w=>u.length+w.length<=B
 |_=>True
variable{B:Nat}
def NX{d:Dd}{t:Nm}{u:Pl}(ea:d.act=.write t u s w)(lb:LB B d.act){p:Pl}(hp:p∈plN d u s w):p.length<=B:=by rw[ea]at lb;unfold plN iJ at hp;let⟨i,hi,rfl⟩:=UO.mp hp;rw[jQ];have:=List.mem_range.mp hi;let lb:u.length+w.length<=B:=lb;omega
def IZ(a:Ac):atI (aT a) 0=a_ (.str<|wdA a):=by cases a <;> exact aK (i:=0) rfl
def NY{a:Ac}(ha:KdA a)(e:wdA a="write"):∃t u s w,a=.write t u s w:=by
 let⟨w1,w2,w3,w4,w5,w6⟩:=wdT;cases a with
 |make z=>exact absurd e (show ¬ (UB "make")=UB "write" by decide +kernel)
 |write t u s w=>exact⟨_,_,_,_,rfl⟩
 |cut t g=>exact absurd e w1
 |mk w t x y=>
  let e:w="write" := e;rcases ha with rfl|rfl
  ·show absurd e w2
  ·show absurd e w4
def LD{p q:Nm}:vEq (pv p) (pv q) h=.ok (.bl<|decide (p=q)) h:=by
 rw[Aj (Ia (n:=39))<|Ia (n:=39)];congr 2;rw[decide_eq_decide];show⟨sH,λe=>by rw[e]⟩
def Dj{ds:x_ Dd}(wf:∀d∈ds,Wf d)(lb:∀d∈ds,LB B d.act)(ln:ds.length<=50)(g:h[n]?=a_ (.lst<|ds.map dP))(t:Nm)(k:∀(S:x_ Pl) l h',X5 h'->h'[l]?=a_ (.lst<|S.map pl)->(∀p∈S,p.length<=B)->S.length<=600->Q (.ref l) h'):(rY [.ref n,pv t] h).W Q:=by
 refine bG ?_;unfold rX;rw[aD];simp;let x0:X5 (h++[MO.lst []]):=z_ _;let g0:(h++[MO.lst []])[h.length]?=a_ (.lst<|([]:x_ Pl).map pl):=aF;generalize h++[MO.lst []]=hA at x0 g0;rfl';rw[aD];refine iX (n:=n) (xs:=ds.map dP) (h1:=hA) (λq δ h'=>X5 h'/\∃(S:x_ Pl)(l:Nat),h'[l]?=a_ (.lst<|S.map pl)/\(∀p∈S,p.length<=B)/\S.length<=12*q/\∃x3,δ=[c_ n,a_<|pv t,c_ l,x3]) (by simp) (x0 _ _ g) ⟨x0,[],_,g0,(λp hp=>nomatch hp),Uv _,_,rfl⟩ (λq δ h' _ i=>i.1 _ _ g) ?_ ?_
 ·rintro q y δ h' hy ⟨x,S,l,gS,bS,lS,x3,rfl⟩;rw[UD]at hy;let⟨d,hd,rfl⟩:=UI.mp hy;let md:d∈ds:=UP hd;let hq:=(SC.mp hd).1;refine⟨[c_ n,a_<|pv t,c_ l,a_<|dP d],by simp,?_⟩;let i0:=IZ d.act;unfold mM;rw[cI];by_cases c:wdA d.act="write"
  ·let⟨t',u,s,w,ea⟩:=NY (wf d md).act c;rw[c]at i0;let i1:atI (X8 0) 1=a_ (pv t'):=by rw[ea];show aK (i:=1) rfl
   let lp:=xJ ea (wf d md).act h';let lw:w.length<=12:=by have:=(wf d md).act;rw[ea]at this;show this.2.2.1
   let lL:(plN d u s w).length=w.length:=qQ;let bL:∀p∈plN d u s w,p.length<=B:=λp hp=>NX ea (lb d md) hp;by_cases c2:t'=t
   ·let x2:Ext h' (h'++[MO.lst<|(plN d u s w).map pl]):=z_ _;let g2:(h'++[MO.lst<|(plN d u s w).map pl])[h'.length]?=a_ (.lst<|(plN d u s w).map pl):=aF;generalize plN d u s w=L at lp x2 g2 lL bL;generalize h'++[MO.lst<|L.map pl]=h2 at lp x2 g2;let vp:=zI (x2 _ _ gS) g2 (by rw[Uu,Uu];omega);rw[<-UZ]at vp;simp[dP2,i0,i1,LD,c2,lp,vp];refine⟨x.trans<|x2.trans<|z_ _,S++L,_,by rw[UZ];show aF,λp hp=>?_,by rw[Vm];omega,rfl⟩;rcases UN.mp hp with hp|hp
    ·show bS p hp
    ·show bL p hp
   ·simp[dP2,i0,i1,LD,c2];show⟨x,S,l,gS,bS,⋯,rfl⟩
  ·simp[dP2,i0,c];show⟨x,S,l,gS,bS,⋯,rfl⟩
 ·rintro δ h' ⟨x,S,l,gS,bS,lS,x3,rfl⟩;rw[Uu]at lS;rfl';simp;show k S l h' x gS bS ⋯
def qW{α β:Type}(f:α->β)(xs:x_ α)(lo hi:y_ Int):cR (xs.map f) lo hi=(cR xs lo hi).map f:=by unfold cR;simp[List.map_take,List.map_drop]
def Lb{α:Type}{xs:x_ α}{i:Nat}(h0:i<=xs.length)(h1:i<=j):cR xs (a_ (i:Int)) (a_ (j:Int))=(xs.drop i).take (j-i):=by
 unfold cR;rw[DQ<|Int.natCast_nonneg i,DQ<|Int.natCast_nonneg j,VO,VO,Wy h0,List.take_eq_take_iff,WS];rcases Nat.le_total j xs.length with h|h
 ·rw[Wy h]
 ·rw[Nat.min_eq_right h,Nat.min_self,Nat.min_eq_right<|Nat.sub_le_sub_right h i]
def J1{α:Type}{xs:x_ α}{f:α->PV}(h:xs≠[]):∃x∈xs,atI (xs.map f) (i%(xs.length:Int))=a_ (f x):=by let⟨p,e,m⟩:=K3 (xs:=xs.map f) (i:=i) (by intro z;show h<|Xj.mp z);let⟨x,hx,rfl⟩:=UO.mp m;rw[Uu]at e;show⟨x,hx,e⟩
abbrev Ft(ds:x_ Dd):x_ Nm:=(ds.filter λd=>decide (wdA d.act="make")).map (·.nm)
def Lc{ds:x_ Dd}(ln:ds.length<=50)(e1:uB δ 1=c_ n)(g:h[n]?=a_ (.lst<|ds.map dP)):bZ [b_] (aR<|mV 1) (gN 0) (aO<|Yh (i_ (i_ (mV 0)<|o_ 2)<|o_ 0)<|mC<|.str "make") (i_ (mV 0)<|o_ 0) δ h=.ok (.ref h.length) (h++[.lst<|(Ft ds).map pv]):=by
 let hc:=eZ (m:=mV 1) (n:=n) (js:=[b_]) (tg:=gN 0) (tst:=aO<|Yh (i_ (i_ (mV 0)<|o_ 2)<|o_ 0)<|mC<|.str "make") (elt:=i_ (mV 0)<|o_ 0) (δ:=δ) (h:=h) (h1:=h) (ys:=ds) (emb:=dP)
  (λd=>if decide (wdA d.act="make")=true then a_ (X_ 0) else b_) (by simp[e1]) g ⋯ (λd hd=>⟨[a_ (dP d)],by simp[gP],λh3 hx=>by
   let i0:=IZ d.act;by_cases c:wdA d.act="make"
   ·simp[dP2,i0,c,dP0]
   ·simp[dP2,i0,c]⟩)
 rw[lH (α:=Dd) (λd=>decide (wdA d.act="make")) λd=>X_ 0]at hc;unfold Ft;rw[Vk];show hc
def eq_nil(g:h[n]?=a_ (.lst xs))(hp:xs.all (PV.pl 39)=true):vEq (.ref n) (.ref h.length) (h++[MO.lst []])=.ok (.bl<|decide (xs=[])) (h++[MO.lst []]):=Ak (z_ _ _ _ g) aF hp rfl
def ne_nil(g:h[n]?=a_ (.lst xs))(hp:xs.all (PV.pl 39)=true):vNe (.ref n) (.ref h.length) (h++[MO.lst []])=.ok (.bl<|!decide (xs=[])) (h++[MO.lst []]):=K2 (z_ _ _ _ g) aF hp rfl
def NZ(xs:x_ Nm):(xs.map pv).all (PV.pl 39)=true:=by rw[Xu];show UK.mpr λy _=>rfl
abbrev aW:Ms:=(aE (aQ 6 (aZ aC))
  (aE (aQ 7 (o_ 1))
  (aE (bA (tL (aO (aB vNe (mV 5) (iI aC))) (aO (aB vGt (mV 3) (o_ 2))))
   (aE (aQ 6 (i_ (mV 5) (aB gY (aN 2 bQ (aA (mV 0) (aA (o_ 4) aC))) (mCB jJ (aA (mV 5) aC)))))
   (aQ 7 (aB Bs (o_ 1) (aB rF (aB gY (aB Bt (mV 3) (o_ 2)) (o_ 2)) (o_ 2)))))
   cH)
  (bF (aZ (aA (mC (.str "write")) (aA (mV 4) (aA (mV 6) (aA (mV 7) (aA (aN 2 qH (aA (mV 0) (aA (mCB jJ (aA (mV 5) aC)) aC))) aC))))))))))
variable{h4:PH}
section
variable{S:x_ Pl}{lS:Nat}{h3:PH}{c wy:Int}{t:Nm}(g3:h3[lS]?=a_ (.lst (S.map pl)))(bS:∀p∈S,p.length<=B)(hB:B<=500)(k:∀a h',Ext h3 h'->KdA a->LB (B+12) a->Q (.tup (aT a)) h')
include g3 bS hB k
omit bS in
def J2(u:Pl)(s:Int)(x:Ext h3 h')(hu:u.length<=B):(aZ (aA (mC<|.str "write")<|aA (mV 4)<|aA (mV 6)<|aA (mV 7)<|aA (aN 2 qH<|aA (mV 0)<|aA (mCB jJ<|aA (mV 5) aC) aC) aC) [d_ c,c_ n,c_ lm,d_ wy,a_<|pv t,c_ lS,a_<|pl u,d_ s,b_] h').W Q:=by let l9:=lY<|x _ _ g3;rw[Uu]at l9;let⟨v,h9,e9,w,rfl,rfl,s1,s2,s3⟩:=iW<|IY c S.length h' (λv h9=>∃w,v=.str w/\h9=h'/\1<=w.length/\w.length<=12/\Asc w) λw a b d=>⟨w,rfl,rfl,a,b,d⟩;simp[l9,e9];show k (.write t u s w) h9 x ⟨⋯,s1,s2,s3⟩ (by change u.length+w.length<=B+12;omega)
def Qg(x4:Ext h3 h4)(w0:0<=wy/\wy<16)(eE:E.rt=Q):(aW [d_ c,c_ n,c_ lm,d_ wy,a_<|pv t,c_ lS,b_,b_,b_] h4).W E:=by
 unfold aW;rw[aD];simp;rfl';rw[aD];simp;rfl';rw[aD,cI];let q4:=ne_nil (x4 _ _ g3)<|AW S;let x5:Ext h3 (h4++[MO.lst []]):=x4.trans<|z_ _;by_cases c4:S=[]
 ·rw[c4]at q4;simp[q4];rfl';rw[Bx,eE];show J2 g3 hB k [] 1 x5<|U5 _
 ·let yo:¬ S.map pl=[]:=λz=>c4<|Xj.mp z;rw[decide_eq_false yo]at q4;by_cases c5:2<wy
  ·let⟨u,mu,eu⟩:=J1 (xs:=S) (f:=pl) (i:=drawn c 4) c4;let l5:=lY<|x5 _ _ g3;rw[Uu]at l5;let lp:0<S.length:=XR.mpr c4;let d4:=dU c 4;simp[q4,c5];rw[aD];simp(disch:=omega) [l5,cZ<|x5 _ _ g3,eu];rfl';simp(disch:=omega);rfl';rw[Bx,eE];show J2 g3 hB k u _ x5<|bS u mu
  ·simp[q4,c5];rfl';rw[Bx,eE];show J2 g3 hB k [] 1 x5<|U5 _
end
def O0{ds:x_ Dd}(wf:∀d∈ds,Wf d)(lb:∀d∈ds,LB B d.act)(ln:ds.length<=50)(hB:B<=500)(c:Int)(g:h[n]?=a_ (.lst<|ds.map dP))(k:∀a h',X5 h'->KdA a->LB (B+12) a->Q (.tup<|aT a) h'):(HQ [.int c,.ref n] h).W Q:=by
 refine bG ?_;unfold HP;rw[aD];let mo:=Lc ln (δ:=[d_ c,c_ n,b_,b_,b_,b_,b_,b_,b_]) (by simp) g;let x1:X5 (h++[MO.lst<|(Ft ds).map pv]):=z_ _;let g1:(h++[MO.lst<|(Ft ds).map pv])[h.length]?=a_ (.lst<|(Ft ds).map pv):=aF;rw[Bw];change ((bZ [b_] (aR<|mV 1) (gN 0) (aO<|Yh (i_ (i_ (mV 0)<|o_ 2)<|o_ 0)<|mC<|.str "make") (i_ (mV 0)<|o_ 0) [d_ c,c_ n,b_,b_,b_,b_,b_,b_,b_] h)).W _;rw[mo,rH];generalize Ft ds=ms at x1 g1;generalize h.length=lm at g1;generalize h++[MO.lst<|ms.map pv]=h1 at x1 g1;rfl';rw[aD];simp(disch:=omega);let d2:=dU c 2;obtain⟨wy,ewy,w0,w1⟩:∃wy:Int,drawn c 2%16=wy/\0<=wy/\wy<16:=⟨_,rfl,⋯,⋯⟩;rw[ewy];rfl';rw[aD,cI];let q1:=eq_nil g1<|NZ ms;let x2:Ext h1 (h1++[MO.lst []]):=z_ _;let yq:∀h',X5 h'->Q (.tup [.str "make",.str "text",.tup [.str "",.int 0],.str<|Txt.slice "notes" b_<|a_<|1+drawn c 3%5]) h':=λh' x=>k (.make _) h' x trivial trivial;let d3:=dU c 3;let l5:(UB "notes").length=5:=by decide +kernel
 by_cases c1:ms=[]
 ·rw[c1]at q1;simp(disch:=omega) [q1];show yq _<|x1.trans x2
 let Tw:¬ ms.map pv=[]:=λz=>c1<|Xj.mp z;rw[decide_eq_false Tw]at q1;let g2:=x2 _ _ g1;let n6:=x1.trans x2;by_cases c2:wy=0
 ·simp(disch:=omega) [q1,c2];show yq _ n6
 simp(disch:=omega) [q1,c2];generalize h1++[MO.lst []]=h2 at g2 n6;rfl';rw[aD];let ll:=lY g2;rw[Uu]at ll;obtain⟨t,et⟩:∃t:Nm,i_ (mV 2) (aB rF (aB gY (aN 2 bQ<|aA (mV 0)<|aA (o_ 3) aC)<|mCB jJ<|aA (mV 2) aC)<|mCB mI<|aA (aB vLt (mV 3)<|o_ 4) aC) [d_ c,c_ n,c_ lm,d_ wy,b_,b_,b_,b_,b_] h2=.ok (pv t) h2:=by
  let lp:0<ms.length:=XR.mpr c1;by_cases c3:wy<4
  ·let⟨t,_,e⟩:=J1 (xs:=ms) (f:=pv) (i:=drawn c 3) c1;show⟨t,by simp(disch:=omega) [ll,mI,c3,cZ g2,e]⟩
  ·let⟨t,r,e⟩:=List.exists_cons_of_ne_nil c1;let e0:atI (ms.map pv) 0=a_ (pv t):=by rw[e];show aK (i:=0) rfl
   show⟨t,by simp(disch:=omega) [ll,mI,c3,cZ g2,e0]⟩
 rw[Bw,et,rH];rfl';rw[aD];simp;refine Dj wf lb ln (n6 _ _ g) t λS lS h3 x3 g3 bS nS=>?_;let RU:=n6.trans x3;rfl';rw[aD,cI];let q3:=eq_nil g3<|AW S;let x4:Ext h3 (h3++[MO.lst []]):=z_ _;let g4:=x4 _ _ g3;let o6:=RU.trans x4;let pB:∀p∈S,p.length<=500:=λp hp=>U1 (bS p hp) hB;let aw:=λ(E:FE)(eE:E.rt=Q)=>Qg (n:=n) (lm:=lm) (c:=c) (wy:=wy) (t:=t) (Q:=Q) g3 bS hB (λa h' x p q=>k a h' (RU.trans x) p q) x4 ⟨w0,w1⟩ (E:=E) eE;by_cases c4:S=[]
 ·rw[c4]at q3;simp(disch:=omega) [q3];show aw _ rfl
 let yo:¬ S.map pl=[]:=λz=>c4<|Xj.mp z;rw[decide_eq_false yo]at q3;by_cases c6:wy%2=0
 ·simp(disch:=omega) [q3,c6];show aw _ rfl
 simp(disch:=omega) [q3,c6];generalize h3++[MO.lst []]=h4 at x4 g4 o6;rfl';rw[aD];let l4:=lY g4;rw[Uu]at l4;let lp:0<S.length:=XR.mpr c4;let d5:=dU c 5;simp(disch:=omega) [l4];obtain⟨f,ef,fl⟩:∃f:Nat,drawn c 5%(S.length:Int)=f/\f<S.length:=by let a1:=Int.emod_nonneg (drawn c 5) (b:=(S.length:Int)) ⋯;let a2:=Int.emod_lt_of_pos (drawn c 5) (b:=(S.length:Int)) ⋯;show⟨(drawn c 5%(S.length:Int)).toNat,⋯,⋯⟩
 rw[ef];rfl';rw[aD,cI];let af:atI (S.map pl) (f:Int)=a_ (pl S[f]):=aK (by rw[UD,Vl fl];rfl);obtain⟨z,mz,ez⟩:∃z,z∈S/\atI (S.map pl) (-1)=a_ (pl z):=by
  rcases List.eq_nil_or_concat S with e|⟨I,z,e⟩
  ·show(c4 e).elim
  ·refine⟨z,by rw[e];simp,?_⟩;rw[e,List.concat_eq_append,UZ];show BA
 by_cases c7:wy<4
 ·let x5:Ext h4 (h4++[MO.lst [.str "mark",.str "clear"]]):=z_ _;let g5:(h4++[MO.lst [PV.str "mark",.str "clear"]])[h4.length]?=a_ (.lst [.str "mark",.str "clear"]):=aF;obtain⟨w,hw,e5⟩:∃w:Str,MkW w/\atI [PV.str "mark",.str "clear"] (wy/2)=a_ (.str w):=by
   have:wy/2=0\/wy/2=1:=⋯;rcases this with e|e
   ·show⟨"mark",.inl rfl,by rw[e];show aK (i:=0) rfl⟩
   ·show⟨"clear",.inr rfl,by rw[e];show aK (i:=1) rfl⟩
  let ub:=x5 _ _ g4;simp(disch:=omega) [c7,cZ g5,e5,cZ ub,af,ez];show k (.mk w t S[f] z) _ (o6.trans x5) hw trivial
 ·let d6:=dU c 6;obtain⟨e,ee,e1,e2⟩:∃e:Nat,(f:Int)+1+drawn c 6%40=e/\f<=e/\e-f<=40:=⟨((f:Int)+1+drawn c 6%40).toNat,⋯,⋯,⋯⟩;let sl:=An (lo:=a_ (f:Int)) (hi:=a_ (e:Int)) g4;rw[qW,Lb ⋯ e1]at sl;let x5:Ext h4 (h4++[MO.lst<|((S.drop f).take<|e-f).map pl]):=z_ _;let g5:(h4++[MO.lst<|((S.drop f).take<|e-f).map pl])[h4.length]?=a_ (.lst<|((S.drop f).take<|e-f).map pl):=aF;let lg:((S.drop f).take<|e-f).length<=40:=by rw[VE];omega
  let mg:∀p∈(S.drop f).take (e-f),p.length<=800:=λp hp=>by have:=bS p<|List.mem_of_mem_drop<|XI hp;omega
  generalize (S.drop f).take (e-f)=G at sl x5 g5 lg mg;let tu:kA [.ref h4.length] (h4++[MO.lst<|G.map pl])=.ok (.tup<|G.map pl) (h4++[MO.lst<|G.map pl]):=by simp[kA,aL,g5]
  simp(disch:=omega) [c7];rfl';simp(disch:=omega) [ee,sl,tu];show k (.cut t G) _ (o6.trans x5) ⟨lg,mg⟩ trivial
def qX(S:Seen)(h h':Str)(n:Int):look (dput S h n) h'=if h'=h then a_ n else look S h':=by
 let m:∀S:Seen,look (S.map λp=>if p.1=h then(p.1,n) else p) h'=if h'=h then(look S h).map (λ_=>n) else look S h':=λS=>by
  induction S with
  |nil=>simp[look]
  |cons x r ih=>
   rw[UJ,dI,ih];by_cases e:x.1=h
   ·rw[if_pos e];by_cases c:h'=h
    ·rw[if_pos<|show x.1=h' by rw[e,c],if_pos c,dI,if_pos e];rfl
    ·let c2:¬ x.1=h':=λz=>c<|z▸e;rw[if_neg<|show ¬ x.1=h' from c2,if_neg c,if_neg c,dI,if_neg c2]
   ·rw[if_neg e];by_cases c:h'=h
    ·rw[if_neg (λz:x.1=h'=>e<|z.trans c),if_pos c,if_pos c,dI,if_neg e]
    ·rw[if_neg c,if_neg c,dI]
 let a:∀S:Seen,look S h=b_->look (S++[(h,n)]) h'=if h'=h then a_ n else look S h':=λS=>by
  induction S with
  |nil=>
   intro _
   change(if h=h' then a_ n else b_)=if h'=h then a_ n else b_
   by_cases c:h'=h
   ·rw[if_pos c,if_pos c.symm]
   ·rw[if_neg c,if_neg λz=>c z.symm]
  |cons x r ih=>
   intro e;rw[dI]at e;by_cases c:x.1=h
   ·rw[if_pos c]at e;cases e
   ·rw[if_neg c]at e;rw[WT,dI,dI,ih e];by_cases q:h'=h
    ·rw[if_pos q,if_pos q,if_neg (λz:x.1=h'=>c<|z.trans q)]
    ·rw[if_neg q];rw[if_neg q]
 unfold dput;cases e:look S h with
 |none=>rw[if_neg<|by simp];show a S e
 |some v=>rw[if_pos<|by simp,m,e];rfl
structure MI(hs:x_ Str)(D:Seen)(ds:x_ Dd)(q:Nat):Prop where
 nd:(ds.map (·.nm)).Nodup
 wf:∀d∈ds,Wf d
 lb:∀d∈ds,LB (12*q) d.act
 ld:ds.length<=q
 lD:D.length<=3+q
 hm:∀w∈hs,∃m,look D w=some m/\0<=m
 dm:∀d∈ds,∃m,look D d.nm.1=some m/\d.nm.2<=m
def LB.more{B':Nat}(h:B<=B'){a:Ac}(l:LB B a):LB B' a:=by
 cases a with
 |write t u s w=>
  let l:u.length+w.length<=B:=l
  change u.length+w.length<=B'
  omega
 |_=>trivial
variable{hs:x_ Str}
def MI.step{D:Seen}{ds:x_ Dd}{q:Nat}(i:MI hs D ds q)(hw:w∈hs){m:Int}(e:look D w=a_ m){S:Seen}(hS:S.length<=4){a:Ac}(ha:KdA a)(la:LB (12*q+12) a):MI hs (dput D w<|m+1) (ds++[⟨(w,m+1),S,a⟩]) (q+1):=by
 let⟨m',e',h0⟩:=i.hm w hw;rw[e]at e';cases e'
 let old:∀v x,look D v=a_ x->∃y,look (dput D w<|m+1) v=a_ y/\x<=y:=λv x ex=>by
  rw[qX];by_cases z:v=w
  ·rw[if_pos z];rw[z,e]at ex;cases ex;show⟨_,rfl,⋯⟩
  ·rw[if_neg z];show⟨x,ex,Int.le_refl _⟩
 let one:∀{P:Dd->Prop},(∀x∈ds,P x)->P ⟨(w,m+1),S,a⟩->∀x∈ds++[⟨(w,m+1),S,a⟩],P x:=λa b x hx=>by
  rcases UN.mp hx with hx|hx
  ·show a x hx
  ·rw[UX.mp hx];show b
 refine⟨?_,one i.wf ⟨by change S.length<=100;omega,ha,λz=>by have:=congrArg Prod.snd z;simp at this;omega⟩,one (λd hd=>(i.lb d hd).more ⋯)<|la.more ⋯,by simp;show i.ld,?_,λv hv=>?_,one (λd hd=>?_) ⟨m+1,by rw[qX,X2 0],Int.le_refl _⟩⟩
 ·rw[UZ,V4];refine⟨i.nd,by simp,λp hp p' jq z=>?_⟩;let⟨d,hd,rfl⟩:=UO.mp hp;let⟨x,ex,lx⟩:=i.dm d hd;have:p'=(w,m+1):=by simpa using jq
  rw[z,this]at ex lx;rw[e]at ex;cases ex
  simp at lx;omega
 ·have:=E5 (S:=D) (h:=w) (n:=m+1);have:=i.lD;omega
 ·let⟨x,ex,hx⟩:=i.hm v hv;let⟨y,ey,hy⟩:=old v x ex;show⟨y,ey,⋯⟩
 ·let⟨x,ex,hx⟩:=i.dm d hd;let⟨y,ey,hy⟩:=old _ x ex;show⟨y,ey,⋯⟩
def qY{D:Seen}{m:Int}(g:h[n]?=a_ (.dK<|emb D))(e:look D w=a_ m):vIx (.ref n) (.str w) h=.ok (.int m) h:=by rw[Nj g,wY,e];rfl
abbrev SN(x0 x4:y_ PV)(lh lm ls:Nat)(w:Str)(c:Int)(h:PH)(q:Nat)(δ:Ev)(h':PH):Prop:=∃S:Seen,Fr1 ls h h'/\h'[ls]?=a_ (.lst<|S.map pv)/\S.length<=q/\∃x7 x8,δ=[x0,c_ lh,c_ lm,a_<|.str w,x4,d_ c,c_ ls,x7,x8]
variable{lh:Nat}
def Ld{D:Seen}(hm:∀w∈hs,∃m,look D w=a_ m/\0<=m)(l3:hs.length=3){m:Int}(em:look D w=a_ m){ls:Nat}{c:Int}(n1:lh≠ls)(n2:lm≠ls)(gh:h[lh]?=a_ (.lst<|hs.map PV.str))(gm:h[lm]?=a_ (.dK<|emb D))(gs:h[ls]?=a_ (.lst [])){x4:y_ PV}(k:∀(S:Seen) h' x7 x8,Fr1 ls h h'->h'[ls]?=a_ (.lst<|S.map pv)->S.length<=4->E.nx [x0,c_ lh,c_ lm,a_<|.str w,x4,d_ c,c_ ls,x7,x8] h'):
  (bR (pW<|aA (o_ 3) aC) (gN 7) jM [x0,c_ lh,c_ lm,a_<|.str w,x4,d_ c,c_ ls,x7,x8] h).W E:=by
 refine Ai (j:=3) (SN x0 x4 lh lm ls w c h) (by simp) ⋯ ⟨[],(λ_ _ _ e=>e),gs,Uv _,_,_,rfl⟩ ?_ ?_
 ·rintro q δ h' hq ⟨S,fr,gS,lS,x7,x8,rfl⟩;obtain⟨v,hv⟩:∃v,hs[q]?=a_ v:=⟨_,Vl ⋯⟩;let av:atI (hs.map PV.str) (q:Int)=a_ (.str v):=aK (by rw[UD,hv];rfl);let⟨mv,ev,h0⟩:=hm v<|UP hv;let l7:=fr _ _ n1 gh;let Sh:=fr _ _ n2 gm;let q1:=qY Sh ev;let q2:=qY Sh em
  change(jM [x0,c_ lh,c_ lm,a_<|.str w,x4,d_ c,c_ ls,d_ q,x8] h').W _
  unfold jM;rw[aD];let hd:=dU c<|30+q;simp(disch:=omega) [cZ l7,av,q1];rfl';rw[aD,cI];let fin:∀(E:FE)(n:Int),(∀δ h',SN x0 x4 lh lm ls w c h (q+1) δ h'->E.nx δ h')->Lt (bA (aO<|aB vGt (mV 8)<|o_ 0) (iA<|mMt isL (onL bP) (mV 6)<|aA (aZ<|aA (i_ (mV 1)<|mV 7)<|aA (mV 8) aC) aC) cH) E [x0,c_ lh,c_ lm,a_<|.str w,x4,d_ c,c_ ls,d_ q,d_ n] h':=λE n kk=>by
   rfl';rw[cI];by_cases c0:0<n
   ·let ap:=dX (p:=pv (v,n)) gS (by rw[Uu];omega);rw[show S.map pv++[pv (v,n)]=(S++[(v,n)]).map pv by simp]at ap;let k5:onL bP (.ref ls) [.tup [.str v,.int n]] h'=_:=ap;simp[c0,kC gS,cZ l7,av];rw[k5,rH];show kk _ _ ⟨S++[(v,n)],λi o hi e=>aG (fr i o hi e)<|Va hi,cD gS,by simp;omega,_,_,rfl⟩
   ·simp[c0];show kk _ _ ⟨S,fr,gS,⋯,_,_,rfl⟩
  by_cases c1:v=w
  ·subst c1;simp[cZ l7,av,q2];refine fin _ _ ?_;show λ_ _ z=>z
  ·simp[cZ l7,av,c1];refine fin _ _ ?_;show λ_ _ z=>z
 ·rintro δ h' ⟨S,fr,gS,lS,x7,x8,rfl⟩;let lS:S.length<=3:=lS;show k S h' x7 x8 fr gS ⋯
abbrev DJ(h:PH)(ns:x_ Int)(hs:x_ Str)(cs:x_ Int)(lh lm ld lc:Nat)(q:Nat)(δ:Ev)(h':PH):Prop:=∃(D:Seen)(ds:x_ Dd),X5 h'/\h'[lm]?=a_ (.dK<|emb D)/\h'[ld]?=a_ (.lst<|ds.map dP)/\h'[lc]?=a_ (.lst<|cs.map PV.int)/\MI hs D ds q/\∃x3 x5 x6 x7 x8,δ=[a_<|.fl<|Ye 0,c_ lh,c_ lm,x3,c_ ld,x5,x6,x7,x8]
variable{cs ns:x_ Int}
def Fv{lc:Nat}(b:h.length<=lm/\lm<ld/\ld<lc)(gh:h[lh]?=a_ (.lst<|hs.map PV.str))(l3:hs.length=3){q:Nat}(hq:q<36){c:Int}(i:DJ h ns hs cs lh lm ld lc q δ h')(k:∀δ h',DJ h ns hs cs lh lm ld lc (q+1) δ h'->E.nx δ h'):(jN (δ.set 5<|d_ c) h').W E:=by
 let⟨D,ds,x,gm,gd,gc,mi,x3,x5,x6,x7,x8,rfl⟩:=i
 change(jN [a_<|.fl<|Ye 0,c_ lh,c_ lm,x3,c_ ld,d_ c,x6,x7,x8] h').W E
 let hlh:=(SC.mp gh).1;let Sz:=(SC.mp gc).1;let l7:=x _ _ gh;let ldq:=mi.ld;unfold jN;rw[aD];let⟨w,hw,ew⟩:=J1 (xs:=hs) (f:=PV.str) (i:=drawn c 1) (λz=>by rw[z]at l3;cases l3);rw[l3]at ew;let ew:atI (hs.map PV.str) (drawn c 1%3)=a_ (.str w):=ew;simp(disch:=omega) [cZ l7,ew];rfl';rw[aD];simp;let y1:Ext h' (h'++[MO.lst []]):=z_ _;let gs:(h'++[MO.lst []])[h'.length]?=a_ (.lst []):=aF;generalize h'++[MO.lst []]=h1 at y1 gs;rfl';rw[aD];let⟨m,em,m0⟩:=mi.hm w hw;refine Ld mi.hm l3 em ⋯ ⋯ (y1 _ _ l7) (y1 _ _ gm) gs λS h2 x7 x8 fr gS lS=>?_;let wa:=fr _ _ ⋯ (y1 _ _ gm);let S5:=fr _ _ ⋯ (y1 _ _ gd);let Tv:=fr _ _ ⋯ (y1 _ _ gc);let x2:X5 h2:=λi o e=>have hh:=(SC.mp e).1;fr i o ⋯ ((x.trans y1) _ _ e);generalize h'.length=ls at fr gS Sz;clear fr gs y1;rfl';rw[aD];let k6:eQ (.ref lm) (.str w) (.int<|m+1) h2=a_ (h2.set lm<|.dK<|emb<|dput D w<|m+1):=by rw[DY wa (by unfold emb;rw[Uu];have:=mi.lD;omega),E4]
 simp[qY wa em];refine⟨_,k6,now ?_⟩;let vn:=cD (o':=MO.dK<|emb<|dput D w<|m+1) wa;let uf:=aG (o':=MO.dK<|emb<|dput D w<|m+1) (n:=lm) S5 ⋯;let zq:=aG (o':=MO.dK<|emb<|dput D w<|m+1) (n:=lm) Tv ⋯;let Sn:=aG (o':=MO.dK<|emb<|dput D w<|m+1) (n:=lm) gS ⋯;let Sa:X5 (h2.set lm<|MO.dK<|emb<|dput D w<|m+1):=x2.setN b.1;generalize h2.set lm (MO.dK<|emb<|dput D w<|m+1)=h3 at vn uf zq Sn Sa;let et:kA [.ref ls] h3=.ok (sv S) h3:=by rw[E6];simp[kA,aL,Sn]
 let q1:vIx (.ref lm) (.str w) h3=.ok (.int<|m+1) h3:=qY vn (by rw[qX,X2 0]);simp[kC uf,q1,et];refine O0 mi.wf mi.lb ⋯ ⋯ c uf λa h4 x4 ha la=>?_;let zz:=x4 _ _ uf;let ap:=dX (p:=dP ⟨(w,m+1),S,a⟩) zz (by rw[Uu];omega);rw[show ds.map dP++[dP ⟨(w,m+1),S,a⟩]=(ds++[Dd.mk (w,m+1) S a]).map dP by simp]at ap;let k5:onL bP (.ref ld) [.tup [.tup [.str w,.int<|m+1],sv S,.tup<|aT a]] h4=_:=ap
 try simp
 rw[k5,rH];show k _ _ ⟨dput D w<|m+1,ds++[⟨(w,m+1),S,a⟩],(Sa.trans x4).setN ⋯,aG (x4 _ _ vn) ⋯,cD zz,aG (x4 _ _ zq) ⋯,mi.step hw em lS ha la,_,_,_,_,_,rfl⟩
abbrev kyR(d:Dd):x_ Key:=[.inl<|tot d.seen,.inr d.nm.1,.inl d.nm.2]
def Le(a b:Dd):bI (kyR a) (kyR b)=bI (kyL a) (kyL b):=by
 unfold kyR kyL bI;let e:(Sum.inl (1+tot a.seen):Key)=.inl (1+tot b.seen)↔(Sum.inl (tot a.seen):Key)=.inl (tot b.seen):=by simp
 by_cases c:(Sum.inl (tot a.seen):Key)=.inl (tot b.seen)
 ·rw[if_pos c,if_pos<|e.mpr c]
 ·rw[if_neg c,if_neg<|λz=>c<|e.mp z];unfold keyLt;simp
def O1(a b:Dd)(e:kyR a=kyR b):a.nm=b.nm:=by unfold kyR at e;simp at e;show Prod.ext e.2.1 e.2.2
def Lf(xs:x_ Dd):uD (xs.map kyR)=true:=by
 cases xs with
 |nil=>rfl
 |cons a r=>rw[UJ];unfold uD;rw[UQ];refine⟨rfl,UK.mpr λz hz=>?_⟩;let⟨q,_,rfl⟩:=UO.mp hz;rfl
def J3(d:Dd)(hS:d.seen.length<=100)(h:PH)(Q:PV->PH->Prop)(k:∀h',X5 h'->Q (tP<|kyR d) h'):(qI [dP d] h).W Q:=by
 refine bG ?_;let hc:=zA (js:=[b_,b_]) (tg:=gTp 2<|gCn (gN 0)<|gCn (gN 1) gNl) (tst:=lQ) (elt:=mV 1) (m:=i_ (mV 0)<|o_ 1) (δ:=[a_<|dP d]) (h:=h) (h1:=h) (ys:=d.seen) (emb:=pv)
  (λq=>d_ q.2) (by simp[dP1,E6]) ⋯ (λq hq=>⟨[a_<|.str q.1,d_ q.2],by simp[gP,pv],λh3 _=>⟨rfl,by simp⟩⟩)
 let es:d.seen.filterMap (λq=>a_<|PV.int q.2)=(d.seen.map (·.2)).map PV.int:=by rw[filterMap_some,Vk];rfl
 rw[es]at hc;let gs:(h++[MO.lst ((d.seen.map (·.2)).map PV.int)])[h.length]?=a_ (.lst ((d.seen.map (·.2)).map PV.int)):=aF;let xs:X5 (h++[MO.lst ((d.seen.map (·.2)).map PV.int)]):=z_ _;let vs:=vT gs;generalize h.length=l at hc gs vs;generalize h++[MO.lst ((d.seen.map (·.2)).map PV.int)]=hA at hc gs xs vs;unfold wQ;simp[hc,vs,dP0,pv0,pv1];show k _ xs
def J4(ns:x_ Int)(hl:ns.length<=63):∃c:Int,∀(h:PH),∃l1 h1,oH (.fl<|Ye 0) (.ref h.length) (h++[MO.lst [PV.int 0]])=.ok (.ref l1) h1/\X5 h1/\vIx (.ref l1) (.int 0) h1=.ok (.int c) h1:=by
 obtain⟨c,ec⟩:∃c:Int,atI (Ye 0++[.int 0]) 0=d_ c:=by
  cases ns with
  |nil=>exact⟨0,rfl⟩
  |cons n r=>exact⟨n,aK (i:=0)<|by simp⟩
 refine⟨c,λh=>?_⟩;let e0:(h++[MO.lst [PV.int 0]])[h.length]?=a_ (.lst [PV.int 0]):=aF;let e1:=F9 (xs:=Ye 0) e0 (by simp;omega);show⟨_,_,e1,(z_ _).trans<|z_ _,by rw[cZ aF,ec];rfl⟩
abbrev BI(h:PH)(ns:x_ Int)(hs:x_ Str)(lh:Nat)(q:Nat)(δ:Ev)(h':PH):Prop:=∃D:Seen,X5 h'/\h'[h.length]?=a_ (.dK<|emb D)/\D.length<=q/\(∀w∈hs.take q,∃m,look D w=a_ m/\0<=m)/\∃x3,δ=[a_<|.fl<|Ye 0,c_ lh,c_ h.length,x3,b_,b_,b_,b_,b_]
def J5(ns:x_ Int)(hl:ns.length<=63)(h0:PH)(Q:PV->PH->Prop)(k:∀(ds:x_ Dd) l h',Ext h0 h'->h'[l]?=a_ (.lst<|ds.map dP)->(ds.map (·.nm)).Nodup->(∀d∈ds,Wf d)->ds.length<=36->Q (.ref l) h'):(AG [.fl<|Ye 0] h0).W Q:=by
 let⟨c,fc⟩:=J4 ns hl;refine bG ?_;unfold AF;rw[aD];let⟨l1,h1,e1,x1,v1⟩:=fc h0;simp[e1,v1];refine IW c h1 _ λhs lh h4 x2 vm l3=>?_;let o6:=x1.trans x2;clear e1 v1;rfl';rw[aD];simp;let gm:(h4++[MO.dK []])[h4.length]?=a_ (.dK<|emb []):=aF;let x5:Ext h4 (h4++[MO.dK []]):=z_ _;generalize h4++[MO.dK []]=h5 at gm x5;rfl';rw[aD];refine iX (n:=lh) (xs:=hs.map PV.str) (h1:=h5) (BI h4 ns hs lh) (by simp) (x5 _ _ vm) ⟨[],x5,gm,Uv _,(λw hw=>nomatch hw),_,rfl⟩ (λq δ h' _ i=>let ⟨_,x,_⟩:=i;x _ _ vm) ?_ ?_
 ·rintro q y δ h' hy ⟨D,x,gm,lD,hm,x4,rfl⟩;rw[UD]at hy;let⟨w,hw,rfl⟩:=UI.mp hy;let hq:q<hs.length:=(SC.mp hw).1;refine⟨_,rfl,?_⟩;unfold sC;let k6:eQ (.ref h4.length) (.str w) (.int 0) h'=a_ (h'.set h4.length<|.dK<|emb<|dput D w 0):=by rw[DY gm (by unfold emb;rw[Uu];omega),E4]
  simp;refine⟨_,k6,dput D w 0,x.setN<|Uv _,cD gm,U1 E5 ⋯,λu hu=>?_,_,rfl⟩;rw[qX];by_cases z:u=w
  ·rw[if_pos z];show⟨0,rfl,Int.le_refl _⟩
  ·rw[if_neg z];rw[V5,hw,UN]at hu;rcases hu with hu|hu
   ·show hm u hu
   ·show(z<|ke hu).elim
 ·rintro δ h' ⟨D,x,gm,lD,hm,x4,rfl⟩;rw[Uu]at lD;rw[Uu,WU]at hm;rfl';rw[aD];simp;let wu:Ext h' (h'++[MO.lst []]):=z_ _;let gd:(h'++[MO.lst []])[h'.length]?=a_ (.lst<|([]:x_ Dd).map dP):=aF;let hlm:=(SC.mp gm).1;let yp:=wu _ _ gm;let yt:(h'++[MO.lst []]).length=h'.length+1:=by simp
  let n6:=x.trans wu;generalize h'++[MO.lst []]=h6 at wu gd yp yt n6;rfl';rw[aD];let gc:(h6++[MO.lst<|(cR ns b_<|a_ 36).map PV.int])[h6.length]?=a_ (.lst<|(cR ns b_<|a_ 36).map PV.int):=aF;let x5:Ext h6 (h6++[MO.lst<|(cR ns b_<|a_ 36).map PV.int]):=z_ _;let lc:(cR ns b_<|a_ 36).length<=36:=by simp[cR,HT.sIx];omega
  let p0:DJ h4 ns hs (cR ns b_<|a_ 36) lh h4.length h'.length h6.length 0 [a_<|.fl<|Ye 0,c_ lh,c_ h4.length,x4,c_ h'.length,b_,b_,b_,b_] (h6++[MO.lst<|(cR ns b_<|a_ 36).map PV.int]):=⟨D,[],n6.trans x5,x5 _ _ yp,x5 _ _ gd,gc,⟨List.nodup_nil,λd hd=>(nomatch hd),λd hd=>(nomatch hd),Uv _,⋯,hm,λd hd=>(nomatch hd)⟩,_,_,_,_,_,rfl⟩;let uy:mSl (mV 0) nJ (mP<|o_ 36) [a_<|.fl<|Ye 0,c_ lh,c_ h4.length,x4,c_ h'.length,b_,b_,b_,b_] h6=.ok (.ref h6.length) (h6++[MO.lst<|(cR ns b_<|a_ 36).map PV.int]):=by simp[qW]
  generalize h6++[MO.lst<|(cR ns b_<|a_ 36).map PV.int]=h7 at gc p0 uy;generalize h6.length=l5 at gc p0 uy yt;generalize cR ns b_ (a_ 36)=cs at gc p0 uy lc;refine iX (n:=l5) (xs:=cs.map PV.int) (h1:=h7) (DJ h4 ns hs cs lh h4.length h'.length l5) uy gc p0 (λq δ h' _ i=>let ⟨_,_,_,_,_,g,_⟩:=i;g) ?_ ?_
  ·rintro q y δ h8 hy i;rw[UD]at hy;let⟨c,hc,rfl⟩:=UI.mp hy;let hq:q<cs.length:=(SC.mp hc).1;show⟨_,rfl,Fv ⋯ vm l3 ⋯ i λ_ _ z=>z⟩
  ·rintro δ h8 ⟨D,ds,x6,gm,gd,gc,mi,y3,y5,y6,y7,y8,rfl⟩;rw[Uu]at mi;rfl';simp;show k ds _ _ (o6.trans x6) gd mi.nd mi.wf<|U1 mi.ld lc
def O2{α:Type}{xs:x_ α}(h:m<=xs.length):cR xs b_ (a_ (m:Int))=xs.take m:=by unfold cR HT.sIx;simp;rw[Wy h];rw[if_neg ⋯];show Wy h
def J6{α:Type}{xs:x_ α}(h:m<=xs.length):cR xs (a_ (m:Int)) b_=xs.drop m:=by unfold cR HT.sIx;simp;rw[Wy h,List.take_of_length_le (by rw[WS];omega)];rw[if_neg ⋯]
abbrev J7(os:x_ Dd)(vs:X9 0):Prop:=vs.length=os.length/\∀(i:Nat) d,os[i]?=a_ d->vs[i]?=a_ (.tup [X_ 0,tW os i d])
variable{vs ws:X9 0}
def J8(a:J7 os vs)(b:J7 os ws):vs=ws:=by
 apply W8;intro i;by_cases hi:i<os.length
 ·rw[a.2 i _<|Vl hi,b.2 i _<|Vl hi]
 ·let h1:=a.1;let h2:=b.1;rw[Wx ⋯,Wx ⋯]
def J9(a:J7 os vs):vs.all (PV.pl 39)=true:=by
 rw[UK];intro x hx;let⟨i,hi,e⟩:=List.mem_iff_getElem.mp hx;let ho:i<os.length:=by have:=a.1;omega
 let h1:=a.2 i _<|Vl ho;rw[Vl hi,e]at h1;cases h1
 let h2:(tW os i os[i]).pl 38=true:=by
  unfold tW;split
  ·rfl
  ·split <;> rfl
 let h3:(pv os[i].nm).pl 38=true:=rfl
 show[pv os[i].nm,tW os i os[i]].all (PV.pl 38)=true
 simp[h2,h3]
def main(ns:x_ Int)(hl:ns.length<=63):∃h,HW [.fl<|Ye 0] []=.ok (.bl true) h:=by
 let w:(HW [.fl<|Ye 0] []).W λp _=>p=.bl true:=by
  refine bG ?_;unfold HV;rw[aD];simp;refine J5 ns hl _ _ λds l1 h1 x1 g1 Si Se ld=>?_;rfl';rw[aD];let⟨v,h2,e2,os,l2,rfl,x2,g2,pm,br⟩:=iW<|Av (f:=qI) (b:=false) (x:=.ref l1) (h:=h1) (key:=kyR) (emb:=dP) (xs:=ds) (S:=shape [.inl 0,.inr "",.inl 0]) (Q:=λv h'=>∃os l,v=.ref l/\Ext h1 h'/\h'[l]?=a_ (.lst<|os.map dP)/\os.Perm ds/\os.Pairwise (λa b=>bI (kyR b) (kyR a)=false)) (oE g1) ⋯ (Lf ds) (λ_ _=>rfl) (wZ kyR O1 Si) (λd hd h Q kk=>J3 d (Se d hd).len h Q kk) λos h' x p ho=>⟨os,_,rfl,x.trans<|z_ _,aF,p,ho⟩;let rk:xD os:=br.imp λ{a b} z=>by rw[<-Le];show z
  let nd:(os.map (·.nm)).Nodup:=(pm.map _).nodup_iff.mpr Si;let lo:os.length<=50:=by rw[pm.length_eq];omega
  let wf:∀d∈os,Wf d:=λd hd=>Se d<|pm.mem_iff.mp hd;simp[e2];rfl';rw[aD];simp;refine NU nd wf lo g2 λl3 c3 D h3 x3 t3 f3=>?_;rfl';rw[aD];let hc:=eZ (js:=[b_,a_ 3]) (tg:=gN 0) (tst:=lQ) (elt:=aZ<|aA (i_ (mV 0)<|o_ 0)<|aA (i_ (mV 1)<|i_ (mV 0)<|o_ 0) aC) (m:=mV 2) (δ:=[a_<|.fl<|Ye 0,c_ l1,c_ l2,c_ l3,b_,b_,b_]) (h:=h3) (h1:=h3) (n:=l2) (ys:=os) (emb:=dP) (λd=>a_<|.tup [X_ 0,(D d.nm).getD .non]) (by simp) (x3 _ _ g2) ⋯
   (λd hd=>⟨[a_<|dP d,c_ l3],by simp[gP],λh4 hx=>⟨rfl,by let⟨i,hi⟩:=List.getElem?_of_mem hd;let ev:=f3 i d hi;simp[dP0,(t3.ext hx).at' ev,ev]⟩⟩)
  rw[filterMap_some]at hc;let x4:Ext h3 (h3++[MO.lst<|os.map λd=>.tup [X_ 0,(D d.nm).getD .non]]):=z_ _;let g4:(h3++[MO.lst<|os.map λd=>PV.tup [X_ 0,(D d.nm).getD .non]])[h3.length]?=a_ (.lst<|os.map λd=>.tup [X_ 0,(D d.nm).getD .non]):=aF;let zb:J7 os (os.map λd=>.tup [X_ 0,(D d.nm).getD .non]):=⟨by simp,λi d hi=>by rw[UD,hi];simp[f3 i d hi]⟩;generalize os.map (λd=>PV.tup [X_ 0,(D d.nm).getD .non])=vs at hc x4 g4 zb;generalize h3.length=l4 at hc g4;generalize h3++[MO.lst vs]=h4 at hc x4 g4;simp[hc];let zc:=(x2.trans<|x3.trans x4) _ _ g1;rfl';rw[aD];let gc:(h4++[MO.lst<|(cR ns (a_<|-1) b_).map PV.int])[h4.length]?=a_ (.lst<|(cR ns (a_<|-1) b_).map PV.int):=aF;let x5:Ext h4 (h4++[MO.lst<|(cR ns (a_<|-1) b_).map PV.int]):=z_ _;let l5:=lY<|x5 _ _ zc;rw[Uu]at l5;simp(disch:=omega) [qW,vT gc,l5];let xp:=x5 _ _ zc;let ub:=x5 _ _ g4;generalize h4++[MO.lst<|(cR ns (a_<|-1) b_).map PV.int]=h5 at xp ub;obtain⟨m,em⟩:∃m:Nat,(cR ns (a_<|-1) b_).sum/5%(ds.length+1)=(m:Int):=⟨((cR ns (a_<|-1) b_).sum/5%(ds.length+1)).toNat,by have:=Int.emod_nonneg ((cR ns (a_<|-1) b_).sum/5) (b:=(ds.length:Int)+1) ⋯;omega⟩
  let hm:m<=ds.length:=by have:=Int.emod_lt_of_pos ((cR ns (a_<|-1) b_).sum/5) (b:=(ds.length:Int)+1) ⋯;omega
  rw[em];rfl';rw[aD];let s1:=An (lo:=a_ (m:Int)) (hi:=b_) xp;rw[qW,J6 hm]at s1;let y1:Ext h5 (h5++[MO.lst<|(ds.drop m).map dP]):=z_ _;let k1:(h5++[MO.lst<|(ds.drop m).map dP])[h5.length]?=a_ (.lst<|(ds.drop m).map dP):=aF;generalize h5.length=p1 at s1 k1;generalize h5++[MO.lst<|(ds.drop m).map dP]=h6 at s1 y1 k1;let s2:=An (lo:=b_) (hi:=a_ (m:Int))<|y1 _ _ xp;rw[qW,O2 hm]at s2;let y2:Ext h6 (h6++[MO.lst<|(ds.take m).map dP]):=z_ _;let k2:(h6++[MO.lst<|(ds.take m).map dP])[h6.length]?=a_ (.lst<|(ds.take m).map dP):=aF;generalize h6.length=p2 at s2 k2;generalize h6++[MO.lst<|(ds.take m).map dP]=h7 at s2 y2 k2;let s3:=zI (y2 _ _ k1) k2 (by simp;omega);rw[<-UZ]at s3;let D1:Dl os (ds.drop m++ds.take m):=⟨λd=>by rw[UN,or_comm,<-UN,List.take_append_drop,pm.mem_iff],nd,rk,wf,lo,by rw[Vm,WS,VE];omega⟩;generalize ds.drop m++ds.take m=hC at s3 D1;let y3:Ext h7 (h7++[MO.lst<|hC.map dP]):=z_ _;let k3:(h7++[MO.lst<|hC.map dP])[h7.length]?=a_ (.lst<|hC.map dP):=aF;generalize h7.length=p3 at s3 k3;generalize h7++[MO.lst<|hC.map dP]=h8 at s3 y3 k3;let yy:=y1.trans<|y2.trans y3;let rj:aA (aB aY (mSl (mV 1) (mP<|mV 5) nJ)<|mSl (mV 1) nJ<|mP<|mV 5) aC [a_<|.fl<|Ye 0,c_ l1,c_ l2,c_ l3,c_ l4,d_ m,b_] h5=.ok [.ref p3] h8:=by simp[s1,s2,s3]
  rw[Bw,GJ,rj,Rs.bind_ok,if_pos<|show[PV.ref p3].length=1 from rfl]
  refine IS D1 k3 λl9 us h9 x9 g9 lu fu=>?_;rfl';let du:J7 os us:=⟨lu,fu⟩;let eu:=J8 du zb;subst eu;let Sx:=(yy.trans x9) _ _ ub;let i1:xU [.ref l9,.ty "list"] h9=.ok (.bl true) h9:=by rw[GL g9];rfl
  let e1:=Ak g9 Sx (J9 du)<|J9 du;rw[decide_eq_true rfl]at e1;simp[i1,e1]
 let⟨p,h,e,rfl⟩:=iW w;show⟨h,e⟩
abbrev top(i:Nat):w_:=PySem.Challenge.pw_copymeet_k74_written_and_cut.main.body.getD i<|.Pass ⟨0,0,0,0⟩
@[reducible]def bsL:x_ Str:=["range","sorted","len","int","tuple","max","sum","list","zip","str","isinstance"]
@[reducible]def cC(w:ve)(K:Us)(cl:Str->y_ s_):MC:=⟨K,cl,bsL,λ_ _ _=>False,w⟩
@[reducible]def clF(b6 b8 cx c9 au ax:s_):Str->y_ s_:=λz=>if z=("Marks" : Str) then a_ b6 else if z=("Signs" : Str) then a_ b8 else if z=("Text" : Str) then a_ cx else if z=("Tree" : Str) then a_ c9 else if z=("Folding" : Str) then a_ au else if z=("Undoing" : Str) then a_ ax else b_
def clI{p:s_->Prop}{b6 b8 cx c9 au ax a:s_}{c:Str}(hc:clF b6 b8 cx c9 au ax c=a_ a)(jz:p b6)(jj:p b8)(m9:p cx)(l8:p c9)(gf:p au)(fq:p ax):p a:=by
 dsimp only[clF]at hc;split at hc
 ·cases hc
  show jz
 split at hc
 ·cases hc
  show jj
 split at hc
 ·cases hc
  show m9
 split at hc
 ·cases hc
  show l8
 split at hc
 ·cases hc
  show gf
 split at hc
 ·cases hc
  show fq
 cases hc
@[reducible]def fL:x_ Str:=["failed","kept","leaves","made","marks","numbers","placers","signs","signs_left","standing","tree","undone","writers"]
abbrev NfX(K:Us)(A:s_):x_ Str->Prop
 |[]=>True
 |f::r=>Vu K (.ref A) f=a_ b_/\NfX K A r
def NfX.at{K:Us}{A:s_}{f:Str}:∀{l:x_ Str},NfX K A l->f∈l->Vu K (.ref A) f=a_ b_
 |_::_,h,.head _=>h.1
 |_::_,h,.tail _ m=>NfX.at h.2 m
def anE{a b c:Prop}(h:a/\b)(f:a->b->c):c:=f h.1 h.2
abbrev tgN:v_->x_ Str
 |.Name x _=>[x]
 |.Tuple es _ _=>es.flatMap λe=>match e with
  |.Name x _=>[x]
  |.Tuple gs _ _=>gs.flatMap λe=>match e with
   |.Name x _=>[x]
   |_=>[]
  |_=>[]
 |_=>[]
abbrev mkN(o:x_ Str):x_ (y_ Nat)->x_ Str->x_ Str
 |some j::r,xs=>o.getD j "" :: mkN o r xs
 |none::r,x::xs=>x::mkN o r xs
 |_,_=>[]
abbrev ndB:x_ Str->Bool
 |[]=>true
 |x::r=>r.all (λy=>!decide (x=y))&&ndB r
def mX:∀{l:x_ Str},ndB l=true->l.Nodup
 |[],_=>.nil
 |x::r,h=>by simp only[ndB,UQ,UK]at h;show VC.2 ⟨λm=>by simpa using h.1 x m,mX h.2⟩
section
variable{C:MC}{k i:Nat}{X:Cx}{elt iter tg:v_}{ifs:x_ v_}{sc os:Scope}{pos pos' dn:Pos}{oN:x_ Str}{js:x_ (y_ Nat)}{mi:Mi}{g:Mg}{tt:Ev->PH->Rs Bool}{me:Me}{x:Str}
def RC(e:X.env.scope=os)(e':X.N=oN)(h:jV os oN sc (mkN oN js<|tgN tg) js=true)(nd:ndB (mkN oN js<|tgN tg)=true)(hi:SI C k X tg iter mi)
  (hg:∀a b c d,(N_ (mkN oN js<|tgN tg) a b c d).N.Nodup->SG C k (N_ (mkN oN js<|tgN tg) a b c d) tg g/\STs C k (N_ (mkN oN js<|tgN tg) a b c d) ifs tt/\SE C k (N_ (mkN oN js<|tgN tg) a b c d) elt me)
  (hs:∀x,V2 iter X.env x=pure x:=by intro _;rfl):D_ (.ListComp elt [⟨tg,iter,ifs,0⟩] sc pos) (bZ js mi g tt me):=N3 e e' h hi (λa b c d=>(hg a b c d<|mX nd).1) (λa b c d=>(hg a b c d<|mX nd).2.1) (λa b c d=>(hg a b c d<|mX nd).2.2) hs
def RD(nd:X.N.Nodup)(h1:X.N[i]?=a_ x)(h2:T_ 0=a_ .local)(e:X.env.scope=os)(e':X.N=oN)(h:jV os oN sc (mkN oN js<|tgN tg) js=true)(sj:ndB (mkN oN js<|tgN tg)=true)(hi:SI C k X tg iter mi)
  (hg:∀a b c d,(N_ (mkN oN js<|tgN tg) a b c d).N.Nodup->SG C k (N_ (mkN oN js<|tgN tg) a b c d) tg g/\STs C k (N_ (mkN oN js<|tgN tg) a b c d) ifs tt/\SE C k (N_ (mkN oN js<|tgN tg) a b c d) elt me)
  (q0:XX (.ListComp elt [⟨tg,iter,ifs,0⟩] sc pos) (a_<|.Name x pos') dn.line X.env=pure true:=by rfl) (hs:∀x,V2 iter X.env x=pure x:=by intro _;rfl):SSt C k X (.Assign [.Name x pos'] (.ListComp elt [⟨tg,iter,ifs,0⟩] sc pos) dn) (aQ i<|bZ js mi g tt me):=EV nd h1 h2 e e' h hi (λa b c d=>(hg a b c d<|mX sj).1) (λa b c d=>(hg a b c d<|mX sj).2.1) (λa b c d=>(hg a b c d<|mX sj).2.2) q0 hs
end
abbrev fsB(N:x_ Str)(n:Nat)(sc:Scope):Bool:=(match sc.kind with|.function=>true|_=>false) && !sc.isCoroutine && !sc.isGenerator&&ndB N&&decide (n<=N.length)&&(N.take n).all (λx=>match Yp 0 with|some .local=>true|some .cell=>true|_=>false)&&sc.names.all λy=>match y.2 with|.free=>false|_=>true
def J'{N:x_ Str}{n:Nat}{sc:Scope}(h:fsB N n sc=true):pC N (N.take n) sc/\(N.take n).length=n:=by
 simp only[fsB,UQ,Bool.not_eq_true',UK,decide_eq_true_eq]at h;let⟨⟨⟨⟨⟨⟨h1,h2⟩,h3⟩,h4⟩,h5⟩,h6⟩,h7⟩:=h;let hl:(N.take n).length=n:=by rw[VE];omega
 refine⟨⟨?_,h2,h3,mX h4,by rw[hl],λx m=>?_,λy m e=>?_⟩,hl⟩
 ·split at h1
  ·assumption
  ·cases h1
 ·have:=h6 x m;split at this
  ·show .inl (by assumption)
  ·show .inr (by assumption)
  ·cases this
 ·have:=h7 y m;rw[e]at this;cases this
abbrev FnX(K:Us)(f:s_)(nm qual:Str)(st:w_):Prop:=∃oc kV doc pm cdv ct od an osl,K.lookup f=a_ ⟨oc,od,.func<|We nm qual (eX st) (cK st) (aS st) .none kV doc pm an cdv ct,osl⟩/\X0 K cdv qual=true/\Wo K (.ref f)=true
abbrev MtX(K:Us)(A:s_)(nm qual:Str)(st:w_):Prop:=∃f,Vu K (.ref A) nm=a_ (c_ f)/\PySem.W.isFn K (.ref f)=true/\FnX K f nm qual st
abbrev DfX(K:Us)(nm:Str)(st:w_):Prop:=∃f,X1 K VI nm=a_ (c_ f)/\FnX K f nm nm st
abbrev DsL(K:Us):x_ (Str×Nat)->Prop
 |[]=>True
 |(x,i)::r=>DfX K x (top i)/\DsL K r
abbrev fA(K:Us)(x:Str):s_:=match X1 K VI x with
 |some (c_ f)=>f
 |_=>0
abbrev mA(K:Us)(A:s_)(x:Str):s_:=match Vu K (.ref A) x with
 |some (c_ f)=>f
 |_=>0
abbrev dA(K:Us)(a:s_):V7:=match K.lookup a with
 |some ⟨_,_,.func f,_⟩=>f
 |_=>We "" "" (eX<|top 0) [] (aS<|top 0) .none .none .none .none b_ .none .none
def DsL.at{K:Us}{x:Str}{i:Nat}:∀{l:x_ (Str×Nat)},DsL K l->(x,i)∈l->DfX K x (top i)
 |_::_,h,.head _=>h.1
 |_::_,h,.tail _ m=>DsL.at h.2 m
@[reducible]def BdX(nm qual:Str)(st:w_)(n:Nat)(ps:x_ Str):Prop:=∀(kV doc pm:q_)(an:y_ s_)(cdv ct:q_)(us:x_ q_),us.length=n->bindArgs (We nm qual (eX st) (cK st) (aS st) .none kV doc pm an cdv ct) ⟨us,[]⟩=pure (ps.zip us)
structure ClX(K:Us)(A:s_)(nm:Str)(fs:x_ Str):Prop where
 n:X1 K VI nm=some (c_ A)
 pg:XO K A Str.empty=true
 hd:PySem.W.hasDictIn K A=true
 po:PySem.W.plainOver K A=true
 sa:Vu K (.ref A) "__setattr__" = some (some (.builtin "object.__setattr__"))
 mx:PySem.W.makesIn K A=true
 kc:Wo K (.ref A)=true
 nf:NfX K A fs
def ClX.cls9{K:Us}{A:s_}{nm:Str}{fs:x_ Str}(q:ClX K A nm fs):Cls K A:=⟨q.pg,q.hd,q.po,q.sa⟩
structure ClZ(w:ve)(K:Us)(mg:m_ 0)(cl:Str->y_ s_)(c:Str)(A:s_):Prop where
 cl:cl c=some A
 hc:Cls K A
 mg:mg c=c_ A
 mx:PySem.W.makesIn K A=true
 kc:Wo K (.ref A)=true
def mtN{C:MC}{k:Nat}{X:Cx}{m c:Str}{n j:Nat}{a g:s_}{fd:V7}{ps:x_ Str}{f:Fn}{tb:Str->y_ Fn}(h:(C.cl c=a_ a/\Cls C.K a)/\Eo C.K a m g/\E_ g fd ps (spM C (n+1) f)/\Binds C.K fd ps [])(h6:j<=k)(r:BZ C X k m n tb):BZ C X k m n (λz=>if z=c then a_ f else tb z):=Kg h.1.1 h.1.2 h.2.1 h6 h.2.2.1 h.2.2.2 r
abbrev MsL(K:Us)(A:s_):x_ (Str×Str×Nat×Nat)->Prop
 |[]=>True
 |(x,q,i,j)::r=>MtX K A x q (inClass (top i) j)/\MsL K A r
@[reducible]def dL:x_ (Str×Nat):=[("_law_drawn",46),("_law_hands",47),("_law_places",48),("_law_written",49),("_law_signs",50),("_law_act",51),("_law_deeds",52),("_law_rank",53),("_law_due",54),("empty",40),("place_of",21),("places_of",22),("rank_of",19),("row_rank",20),("covers",3),("holed",24),("stand_of",36),("leaf_of",32),("kind_for",33),("fates_in_force",43),("stamp",4),("rank",5),("in_order",6),("name_of",8),("taker_of",9),("takers",10),("in_force",12),("taken_by",11),("fates",44),("law",55)]
@[reducible]def Ee:x_ (Str×Str×Nat×Nat):=[("__init__","Marks.__init__",25,0),("clear","Marks.clear",25,2),("mark","Marks.mark",25,1)]
@[reducible]def Ef:x_ (Str×Str×Nat×Nat):=[("__init__","Signs.__init__",27,0),("cut","Signs.cut",27,2),("write","Signs.write",27,1)]
@[reducible]def Ja:x_ (Str×Str×Nat×Nat):=[("__init__","Text.__init__",29,0),("hear","Text.hear",29,1)]
@[reducible]def Jb:x_ (Str×Str×Nat×Nat):=[("__init__","Tree.__init__",35,0),("fill","Tree.fill",35,12),("hear","Tree.hear",35,1),("hear_make","Tree.hear_make",35,2),("kind_of","Tree.kind_of",35,6),("takes","Tree.takes",35,4)]
@[reducible]def zW:x_ (Str×Str×Nat×Nat):=[("__init__","Folding.__init__",39,0),("add_leaf","Folding.add_leaf",39,1),("hear","Folding.hear",39,2),("hear_tree","Folding.hear_tree",39,3)]
@[reducible]def zX:x_ (Str×Str×Nat×Nat):=[("__init__","Undoing.__init__",42,0),("hear","Undoing.hear",42,1),("hear_cut","Undoing.hear_cut",42,4),("hear_write","Undoing.hear_write",42,3)]
section
variable{P:vj}{w:ve}{K:Us}{mg:m_ 0}{base:u_}{cl:Str->y_ s_}
variable(P w K mg base cl)
@[reducible]def tC(j:Nat)(x:Str)(t:Nat)(N:x_ Str)(n:Nat)(m:Fn):Prop:=Def K mg x (top t) (fA K x) (dA K<|fA K x) (N.take n)/\cB P w K mg base CX0 j (fA K x) (dA K<|fA K x) (N.take n) (spM (cC w K cl) n m)
@[reducible]def tM(c:Str)(A:s_)(j:Nat)(x:Str)(N:x_ Str)(n:Nat)(m:Fn):Prop:=(cl c=a_ A/\Cls K A)/\Eo K A x (mA K A x)/\cB P w K mg base CX0 j (mA K A x) (dA K<|mA K A x) (N.take n) (spM (cC w K cl) n m)/\Binds K (dA K<|mA K A x) (N.take n) []
@[reducible]def tI(c:Str)(A:s_)(j:Nat)(N:x_ Str)(n:Nat)(m:Fn):Prop:=cl c=a_ A/\Mk K A (mA K A "__init__")/\cB P w K mg base CX0 j (mA K A "__init__") (dA K<|mA K A "__init__") (N.take n) (spM (cC w K cl) n m)/\mg c=c_ A/\Binds K (dA K<|mA K A "__init__") (N.take n) []
variable{P w K mg base cl}
def mbL{x:Str}(h:x∈bsL:=by decide +kernel):x∈(cC w K cl).bs:=h
structure ZZ(P:vj)(base:u_)(w:ve)(K:Us)(mg:m_ 0)(cl:Str->y_ s_)(A_Marks A_Signs A_Text A_Tree A_Folding A_Undoing cO mY:s_):Prop where
 hbn:∀x∈bsL,mg x=none
 XG:∃h:u_,K.In h/\h.Ns VI mg
 ds:DsL K dL
 z_Marks:ClZ w K mg cl "Marks" A_Marks
 m_Marks:MsL K A_Marks Ee
 z_Signs:ClZ w K mg cl "Signs" A_Signs
 m_Signs:MsL K A_Signs Ef
 z_Text:ClZ w K mg cl "Text" A_Text
 m_Text:MsL K A_Text Ja
 z_Tree:ClZ w K mg cl "Tree" A_Tree
 m_Tree:MsL K A_Tree Jb
 z_Folding:ClZ w K mg cl "Folding" A_Folding
 m_Folding:MsL K A_Folding zW
 z_Undoing:ClZ w K mg cl "Undoing" A_Undoing
 m_Undoing:MsL K A_Undoing zX
 MG_KIND_FOR:mg "KIND_FOR" = c_ cO
 GT_KIND_FOR:Q7 (cC w K cl) cO [("add","count"),("choose","choice"),("put","bag"),("take","bag"),("write","text"),("cut","text"),("mark","text"),("clear","text")]
 MG_ROOT:mg "ROOT" = c_ mY
 GT_ROOT:Q2 K mY [.str "",.int (0)]
 ff:∀f∈fL,Hl (cC w K cl) f
variable{A_Marks A_Signs A_Text A_Tree A_Folding A_Undoing cO mY:s_}(Z:ZZ P base w K mg cl A_Marks A_Signs A_Text A_Tree A_Folding A_Undoing cO mY)
include Z
def dfM{k t:Nat}{x:Str}{N:x_ Str}{n:Nat}{body:Ms}(c:fsB N n (aS<|top t)=true)(b:BdX x x (top t) n (N.take n))(d:(x,t)∈dL)
  (h:∀f cdv A outer s H E,N.Nodup->SSs (cC w K cl) k (xP CX0 P w K mg base N x (aS<|top t) f cdv A outer s H E).nox (cK<|top t) body):A_ (k+1) x t N n (mFn N.length body):=by
 let⟨f,a,_,_,_,_,_,_,_,_,_,l,o,p⟩:=Z.ds.at d;let⟨_,X,G⟩:=Z.XG;let⟨S,e⟩:=J' c;let D:=Def.mk' X G a l o p (ps:=N.take n) (by rwa[e]);let F:=Lw (C:=cC w K cl) (P:=P) (mg:=mg) (base:=base) (λ_ _ _ h=>h) Z.hbn D.fn S λcdv A outer s H E=>h f cdv A outer s H E S.nd;rw[e]at F;let q:fA K x=f:=by rw[fA,a]
 rw[tC,q,dA,l];show⟨D,F⟩
def fdL{f:Str}(h:f∈fL:=by decide +kernel):Hl (cC w K cl) f:=Z.ff f h
def mtM{k n:Nat}{A:s_}{c x q:Str}{st:w_}{N:x_ Str}{body:Ms}(z:ClZ w K mg cl c A)(y:MtX K A x q st)(c':fsB N n (aS st)=true)(b:BdX x q st n (N.take n))
  (h:∀f cdv A outer s H E,N.Nodup->SSs (cC w K cl) k (xP CX0 P w K mg base N q (aS st) f cdv A outer s H E).nox (cK st) body):J_ c A (k+1) x N n (mFn N.length body):=by
 let⟨f,a,i,_,_,_,_,_,_,_,_,_,l,o,p⟩:=y;let F:=Cy (st:=st) l o p;let⟨S,e⟩:=J' c';let G:=Lw (C:=cC w K cl) (P:=P) (mg:=mg) (base:=base) (λ_ _ _ h=>h) Z.hbn F S λcdv A outer s H E=>h f cdv A outer s H E S.nd;rw[e]at G;let r:mA K A x=f:=by rw[mA,a]
 rw[tM,r,dA,l];show⟨⟨z.cl,z.hc⟩,⟨a,i,p⟩,G,F.binds (ps:=N.take n)<|by rwa[e]⟩
def mkM{k n:Nat}{A:s_}{c q:Str}{st:w_}{N:x_ Str}{body:Ms}(z:ClZ w K mg cl c A)(y:MtX K A "__init__" q st)(c':fsB N n (aS st)=true)(b:BdX "__init__" q st n (N.take n))
  (h:∀f cdv A outer s H E,N.Nodup->SSs (cC w K cl) k (xP CX0 P w K mg base N q (aS st) f cdv A outer s H E).nox (cK st) body):tI P w K mg base cl c A (k+1) N n (mFn N.length body):=by
 let⟨_,m,a,b'⟩:=mtM Z z y c' b h;show⟨z.cl,⟨z.mx,m.at_,m.fn,z.kc⟩,a,z.mg,b'⟩
local macro_rules|`(tactic|ac_rfl)=>`(tactic|repeat' first|((with_reducible show SSs _ _ _ [_] _);refine MY ?_)|exists SSt,(aQ _ (bZ _ _ _ _ _)),(RD nd rfl rfl rfl rfl (by rfl) (by rfl) ?_ λ_ _ _ _ nd=>⟨?_,?_,?_⟩)|exists (iQ _ 0 _ aC),(anE (by ac_nf) λc r=>anE r λm r=>anE r λg r=>anE r λq b=>Kh c m g q b)|exists (kJ _ Bool.false _),(anE (by ac_nf) λD G=>Kd D G ?_ (hb:=mbL))|exists (mV _),(OP _)|exists SA,(aA _ _),(MS ?_ ?_)|exists SA,aC,Pa|exists (mC (PV.int _)),OQ|exists SSs,(aE _ _),(JW ?_ ?_)|exists SG,(gN _),(MU nd)|exists (aB vAt _ _),(Ry ?_ ?_)|exists SGs,(gCn _ _),(MV ?_ ?_)|((with_reducible show SE _ _ _ (.BinOp _ _ _ _) (aB _ _ _));refine OT ?_ ?_ ?_)|exists (mC (PV.str _)),OS|exists SSt,(aQ _ _),(Pi nd ?_)|exists ST,(aO (aB _ _ _)),(P3 ?_ ?_ ?_)|exists SSt,(bA _ _ _),(Rh ?_ ?_ ?_)|exists SSt,(bF _),(Pm ?_)|exists (aZ _),(Pb ?_)|exists (aN _ _ _),(anE (by ac_nf) λD G=>s_call D G ?_)|exists OpS,vEq,Rb|exists SSs,cH,MW|exists OpS,aY,N8|exists SG,(gTp _ _),(Pg ?_)|exists SGs,gNl,Pf|((with_reducible show SI _ _ _ _ _ (aR _));refine Pn ?_)|exists (mUn (aU _) _),(PY (fdL Z) ?_)|exists SSt,(bR _ _ _),(Po ?_ ?_ ?_)|exists SSt,(hW _ _),(Pj ?_ ?_)|exists (iI _),(Pc ?_)|exists SSt,(iA _),(Pk ?_)|exists SSt,(dQ _ _ _),(Nq ?_ ?_ ?_)|exists OpS,gY,OZ|exists bW,JU|exists (dS _ _ _ _ _),(Nl ?_ ?_ ?_)|exists SSt,(dO _ _ _),(PZ (fdL Z) ?_ ?_)|exists SO,(mP _),(MR ?_)|exists (mCB jJ _),(pT Pd PyProof.Rows.Boot.«len» ?_ (hb:=mbL))|exists (bZ _ _ _ _ _),(RC rfl rfl (by rfl) (by rfl) ?_ λ_ _ _ _ nd=>⟨?_,?_,?_⟩)|exists (mSl _ _ _),(Rf ?_ ?_ ?_)|exists OpS,rF,OX|exists SO,nJ,MQ|exists (mMt isL (onL bP) _ _),(Ri PySem.F.plainAttrs_list PySem.F.slot_list_append PySem.F.type_list_append GE ?_ ?_)|exists STs,lQ,N1|exists OpS,kF,PK|((with_reducible show ST _ _ _ (.BoolOp _ _ _) _);refine SW.t ?_)|exists (mC PV.non),OR|exists OpS,Bt,OY|((with_reducible show SE _ _ _ (.Compare _ _ _ _) (aB _ _ _));refine OU ?_ ?_ ?_)|exists OpS,bD,GS|((with_reducible show SI _ _ _ _ _ (pW _));refine MZ ?_ (hb:=mbL))|((with_reducible show STs _ _ _ [_] _);refine N2 ?_)|exists (mUn _ _),(R8 ?_ ?_)|exists UnS,CN,Pq|exists SW,(tL _ _),(w_and ?_ ?_)|((with_reducible show SW _ _ _ (.BoolOp _ [_] _) _);refine MN ?_)|exists OpS,vLt,R9|exists SW,(CO _ _),(w_or ?_ ?_)|((with_reducible show SW _ _ _ (.BoolOp _ [_] _) _);refine P6 ?_)|exists OpS,vNe,Rc|exists OpS,Bs,OW|exists (mCB BD _),(pT PJ PyProof.Rows.Boot.«sum» ?_ (hb:=mbL))|exists (mIf _ _ _),(JT ?_ ?_ ?_)|exists (mCB xU _),(pT Ag PyProof.Rows.Boot.«isinstance» ?_ (hb:=mbL))|exists OpS,hV,JS|((with_reducible show SI _ _ _ _ _ (yW _));refine N0 ?_ (hb:=mbL))|exists (mCB mI _),(pU Q1 PyProof.Rows.Boot.«int» ?_ (hb:=mbL))|exists OpS,vGt,R'|exists (mCB kA _),(pU JV PyProof.Rows.Boot.«tuple» ?_ (hb:=mbL))|exists SSt,Gy,Ph|exists (uC bH dW _),(Ly Wd PySem.F.slot_dict_items PySem.F.type_dict_items Ht ?_)|exists (mMt bH mK _ _),(Na Wd XB PySem.F.type_dict_pop NA ?_ ?_)|exists ST,(Bu _),(P5 ?_)|exists (mC (PV.ty "str")),(Gm PyProof.Rows.Boot.«str» (hb:=mbL))|exists (mMt bH qA _ _),(Na Wd Vw PySem.F.type_dict_get PM ?_ ?_)|((with_reducible show SI _ _ _ _ _ (zK _));refine Q4 ?_)|exists (mCB rP _),(pT Kc PyProof.Rows.Boot.«sorted» ?_ (hb:=mbL))|exists OpS,oH,Km|exists (mCB Gx _),(pT Pe PyProof.Rows.Boot.«max» ?_ (hb:=mbL))|exists (mCB kK _),(pU KA PyProof.Rows.Boot.«list» ?_ (hb:=mbL))|exists (mCB yV _),(pU MT PyProof.Rows.Boot.«list» ?_ (hb:=mbL))|((with_reducible show SI _ _ _ _ _ (HF _));refine Q5 ?_ (hb:=mbL))|exists (qE _ Bool.false _ _),(anE (by ac_nf) λD G=>Hy D G ?_ (hb:=mbL))|exists OpS,vLe,Ra|exists (mC (PV.bl _)),R7|exists (mC (.tup _)),(Nt Z.MG_ROOT Z.GT_ROOT)|exists (mMt bH mL _ _),(Na Wd XB PySem.F.type_dict_pop NG ?_ ?_)|exists SSt,(C7 _ _ _),(NH ?_ ?_ ?_)|exists (mUn (vGd _) _),(KC Z.MG_KIND_FOR Z.GT_KIND_FOR ?_)|exists (iQ _ _ _ _),(anE (by ac_nf) λc r=>anE r λm r=>anE r λg r=>anE r λq b=>Np c m g q b ?_)|exists (AA _),(anE (by ac_nf) λD G=>KB D G)|((with_reducible show SI _ _ _ _ _ (wH _ _));refine Nv _ (λ_=>⟨_,_,_,rfl⟩) ?_)|exists (uC bH zB _),(Ly Wd PySem.F.slot_dict_values PySem.F.type_dict_values m_values ?_)|exists (kJ _ _ _),(anE (by ac_nf) λD G=>Hg D G ?_ (hb:=mbL))|exists (Bv _ _),(P8 ?_ ?_)|exists (mC (PV.ty "list")),(Gm PyProof.Rows.Boot.«list» (hb:=mbL))|((with_reducible show SE _ _ _ (.BoolOp _ [_] _) _);refine P7 ?_)|exists ST,(aO _),(P0 ?_)|exists SSt,(rS _ _ _),(Nx _ _ ?_)|exists SSt,cE,Q8|((with_reducible show BZ _ _ _ _ _ _);refine mtN (by ac_nf) (by decide) ?_)|((with_reducible show BZ _ _ _ _ _ _);show Nk)|unfold rT|unfold rV|unfold rW|unfold oI|unfold mM|unfold rZ|unfold sC|unfold jM|unfold jN|unfold qJ|unfold qK|unfold nR|unfold fX|unfold jC|unfold gL|unfold jE|unfold oM|unfold cL|unfold bU|unfold cN|unfold eN|unfold kU|unfold qN|unfold oS|unfold zP)
local macro_rules|`(tactic|and_intros)=>`(tactic|intro _ _ _ _ _ _ us hl;rcases us with _|⟨_,_|⟨_,_|⟨_,_|⟨_,_|⟨_,_|⟨_,_⟩⟩⟩⟩⟩⟩<;>first|rfl|cases hl)
local macro_rules|`(tactic|exists $e:ident)=>`(tactic|(refine dfM Z (by decide +kernel) (by and_intros) (by decide +kernel) λ_ _ _ _ _ _ _ nd=>?_;(conv=>arg 4;whnf);unfold $e;ac_rfl))|`(tactic|exists $a,$b,$c,$d:ident)=>`(tactic|(refine $a Z $b $c (by decide +kernel) (by and_intros) λ_ _ _ _ _ _ _ nd=>?_;(conv=>arg 4;whnf);unfold $d;ac_rfl))|`(tactic|exists $e,$f)=>`(tactic|((with_reducible show SE _ _ _ _ $e);refine $f))|`(tactic|exists $k,$e,$f)=>`(tactic|((with_reducible show $k _ _ _ _ $e);refine $f))
local macro_rules|`(tactic|ac_nf)=>`(tactic|first|exact Lg Z|exact Lh Z|exact Jc Z|exact Fw Z|exact Li Z|exact Qh Z|exact Lj Z|exact Jd Z|exact Qi Z|exact Lk Z|exact Dk Z|exact Cc Z|exact Fx Z|exact Dm Z|exact Je Z|exact Ll Z|exact Dn Z|exact Fy Z|exact Do Z|exact sN Z|exact Lm Z|exact O3 Z|exact Dp Z|exact FA Z|exact Dq Z|exact Jf Z|exact Dr Z|exact Ds Z|exact Ln Z|exact sO Z|exact xX Z|exact AY Z|exact sP Z|exact Cd Z|exact xY Z|exact uH Z|exact Ce Z|exact uI Z|exact Cf Z|exact Cg Z|exact sQ Z|exact xK Z|exact AZ Z|exact oX Z|exact oY Z|exact xM Z|exact nM Z|exact oZ Z|exact xN Z|exact pA Z|exact mZ Z)
def Lg:A_ 1 "_law_drawn" 46 ["_law_cell","_law_place","_law_number"] 2 bQ:=by exists AB
def Lh:A_ 2 "_law_hands" 47 ["_law_cell","_law_hands_here","_law_k","_law_hand","_law_step","_law_letter"] 1 AD:=by exists AC
def Jc:A_ 1 "_law_places" 48 ["_law_deed","_law_name","_law_seen","_law_act_here","_law_found","_law_k"] 1 jL:=by exists wO
def Fw:A_ 2 "_law_written" 49 ["_law_deeds_here","_law_thing","_law_places_here","_law_deed"] 2 rY:=by exists rX
def Li:A_ 2 "_law_signs" 50 ["_law_cell","_law_many","_law_some","_law_signs_here","_law_k"] 2 qH:=by exists AE
def Qh:A_ 3 "_law_act" 51 ["_law_cell","_law_deeds_here","_law_made","_law_way","_law_thing","_law_places_here","_law_under","_law_side","_law_first"] 2 HQ:=by exists HP
def Lj:A_ 4 "_law_deeds" 52 ["_law_script","_law_hands_here","_law_most","_law_hand","_law_deeds_here","_law_cell","_law_seen","_law_k","_law_many"] 1 AG:=by exists AF
def Jd:A_ 1 "_law_rank" 53 ["_law_deed"] 1 qI:=by exists wQ
def Qi:A_ 2 "_law_due" 54 ["_law_rows","_law_due_here","_law_left","_law_deed","_law_name","_law_seen","_law_act_here","_law_standing","_law_writer","_law_places_here"] 1 HU:=by exists HS
def uI:tI P w K mg base cl "Tree" A_Tree 1 ["self"] 1 gK   := by exists mkM,Z.z_Tree,Z.m_Tree.1,gJ
def Cf:J_ "Tree" A_Tree 1 "fill" ["self","rows","lost","thing","kind","holder","spot"] 3 iS   := by exists mtM,Z.z_Tree,Z.m_Tree.2.1,mN
def oX:tI P w K mg base cl "Folding" A_Folding 3 ["self","base","rows","lost","thing","kind","holder","spot","content"] 2 dZ   := by exists mkM,Z.z_Folding,Z.m_Folding.1,dY
def Lk:A_ 1 "empty" 40 [] 0 uO:=by exists AI
def oZ:tI P w K mg base cl "Undoing" A_Undoing 1 ["self"] 1 eI   := by exists mkM,Z.z_Undoing,Z.m_Undoing.1,eC
def Dk:A_ 1 "place_of" 21 ["spot","name","under","side","hand","n"] 2 iC:=by exists oJ
def Cc:A_ 2 "places_of" 22 ["deed","name","seen","act","word","thing","under","side","signs","hand","n","places","k"] 1 fY:=by exists mO
def xY:J_ "Signs" A_Signs 3 "write" ["self","deed","signs","place","sign"] 2 fP   := by exists mtM,Z.z_Signs,Z.m_Signs.2.2.1,jD
def Fx:A_ 1 "rank_of" 19 ["place"] 1 nD:=by exists sD
def Dm:A_ 2 "row_rank" 20 ["row"] 1 iD:=by exists oK
def Cd:J_ "Signs" A_Signs 5 "cut" ["self","places","gone","place"] 2 iT   := by exists mtM,Z.z_Signs,Z.m_Signs.2.1,mQ
def AY:J_ "Marks" A_Marks 1 "mark" ["self","deed","name","seen","act"] 2 gQ   := by exists mtM,Z.z_Marks,Z.m_Marks.2.2.1,kL
def Je:A_ 1 "covers" 3 ["seen","name","hand","n"] 2 qL:=by exists wR
def Ll:A_ 2 "holed" 24 ["mark","deed","name","first","last","word","holes","clear_name","seen","act"] 2 qM:=by exists AJ
def xX:J_ "Marks" A_Marks 3 "clear" ["self","deed"] 2 fR   := by exists mtM,Z.z_Marks,Z.m_Marks.2.1,jF
def Ce:J_ "Text" A_Text 6 "hear" ["self","deed","word"] 2 eR   := by exists mtM,Z.z_Text,Z.m_Text.2.1,mR
def xK:J_ "Tree" A_Tree 1 "kind_of" ["self","thing"] 2 cF   := by exists mtM,Z.z_Tree,Z.m_Tree.2.2.2.2.1,iE
def AZ:J_ "Tree" A_Tree 2 "takes" ["self","holder","spot"] 3 fC   := by exists mtM,Z.z_Tree,Z.m_Tree.2.2.2.2.2.1,kM
def Dn:A_ 2 "stand_of" 36 ["spot","name"] 2 kN:=by exists oO
def sQ:J_ "Tree" A_Tree 3 "hear_make" ["self","name","act","word","kind","holder","spot"] 3 fH   := by exists mtM,Z.z_Tree,Z.m_Tree.2.2.2.1,fG
def Cg:J_ "Tree" A_Tree 4 "hear" ["self","deed","name","seen","act"] 2 eS   := by exists mtM,Z.z_Tree,Z.m_Tree.2.2.1,mS
def mZ:J_ "Undoing" A_Undoing 3 "hear_write" ["self","deed","name","seen","act","place"] 2 bT   := by exists mtM,Z.z_Undoing,Z.m_Undoing.2.2.2.1,cW
def pA:J_ "Undoing" A_Undoing 1 "hear_cut" ["self","deed","name","seen","act","place","writer"] 2 cM   := by exists mtM,Z.z_Undoing,Z.m_Undoing.2.2.1,eJ
def xN:J_ "Undoing" A_Undoing 4 "hear" ["self","deed","name","seen","act"] 2 cG   := by exists mtM,Z.z_Undoing,Z.m_Undoing.2.1,iF
def sP:tI P w K mg base cl "Signs" A_Signs 1 ["self"] 1 jO   := by exists mkM,Z.z_Signs,Z.m_Signs.1,fI
def sO:tI P w K mg base cl "Marks" A_Marks 1 ["self"] 1 jP   := by exists mkM,Z.z_Marks,Z.m_Marks.1,fJ
def uH:tI P w K mg base cl "Text" A_Text 3 ["self"] 1 lK   := by exists mkM,Z.z_Text,Z.m_Text.1,gM
def Fy:A_ 5 "leaf_of" 32 ["kind"] 1 sF:=by exists sE
def oY:J_ "Folding" A_Folding 6 "add_leaf" ["self","thing","kind","leaf"] 3 eM   := by exists mtM,Z.z_Folding,Z.m_Folding.2.1,eK
def nM:J_ "Folding" A_Folding 7 "hear_tree" ["self","deed","fate","act"] 2 cA   := by exists mtM,Z.z_Folding,Z.m_Folding.2.2.2.1,dR
def Do:A_ 1 "kind_for" 33 ["word"] 1 kQ:=by exists oP
def xM:J_ "Folding" A_Folding 8 "hear" ["self","deed","act"] 2 cX   := by exists mtM,Z.z_Folding,Z.m_Folding.2.2.1,iG
def sN:A_ 9 "fates_in_force" 43 ["deeds","folding","undoing","found","deed","name","seen","act","outcome","by"] 1 fM:=by exists fK
def Lm:A_ 1 "stamp" 4 ["deed"] 1 AL:=by exists uP
def O3:A_ 2 "rank" 5 ["deed","hand","n"] 1 Df:=by exists De
def Dp:A_ 5 "in_order" 6 ["deeds","by_name","deed"] 1 eO:=by exists oQ
def FA:A_ 1 "name_of" 8 ["deed"] 1 nF:=by exists sG
def Dq:A_ 1 "taker_of" 9 ["n","backs","back","word","first","last"] 2 kW:=by exists oR
def Jf:A_ 4 "takers" 10 ["deeds","taken","backs","deed","hand","n","word","by"] 1 qO:=by exists wX
def Dr:A_ 6 "in_force" 12 ["deeds","ordered","taken"] 1 oU:=by exists oT
def Ds:A_ 6 "taken_by" 11 ["deeds","ordered","taken"] 1 oW:=by exists oV
def Ln:A_ 10 "fates" 44 ["deeds","found","name","by"] 1 AN:=by exists AM
def Qj:A_ 11 "law" 55 ["_law_script","_law_deeds_here","_law_rows","_law_found","_law_due_here","_law_cut","_law_answer"] 1 HW:=by exists HV
end
abbrev spL(K:Us):Sp:=λvs H Q _=>∃(a:s_)(ns:x_ Int),vs=[.ref a]/\G3 H/\SqL K H a (ns.map V.int)/\ns.length<=63/\∀H',Q (.bl true) H'
def all_mk{l:PySem.W.OpenLaw}{w:ve}{K:Us}{h:u_}{mg:m_ 0}{fa A_Marks A_Signs A_Text A_Tree A_Folding A_Undoing cO mY:s_}(X:K.In h)(G:h.Ns VI mg)(Uj:mg "law" = c_ fa)(hbn:∀x∈bsL,mg x=b_)
  (ds:DsL K dL)
  (ay:ClX K A_Marks "Marks" fL)
  (m_Marks:MsL K A_Marks Ee)
  (az:ClX K A_Signs "Signs" fL)
  (m_Signs:MsL K A_Signs Ef)
  (bt:ClX K A_Text "Text" fL)
  (m_Text:MsL K A_Text Ja)
  (bu:ClX K A_Tree "Tree" fL)
  (m_Tree:MsL K A_Tree Jb)
  (ai:ClX K A_Folding "Folding" fL)
  (m_Folding:MsL K A_Folding zW)
  (aj:ClX K A_Undoing "Undoing" fL)
  (m_Undoing:MsL K A_Undoing zX)
  {ar:Array VQ} {bz:Nat} (Dt:X1 K VI "KIND_FOR" = a_ (c_ cO)) (e7:K.lookup cO=a_ ⟨.type "dict",b_,.dict ar bz,#[]⟩) (er:GEs w.params [("add","count"),("choose","choice"),("put","bag"),("take","bag"),("write","text"),("cut","text"),("mark","text"),("clear","text")] ar.toList) (e8:(cO == VM)=false)
  {bp:Ya 0} {fh:Nat} {jm:l_ 0} (O4:X1 K VI "ROOT" = a_ (c_ mY)) (m8:K.lookup mY=a_ ⟨.type "tuple",b_,.seq bp fh,jm⟩) (k0:aJ [.str "",.int<|0] bp.toList) (m5:bp.size<=UG)
  : ∃fd:V7,(∀(s:r_)(v:q_),BindsTo s fd ⟨[v],[]⟩ [("_law_script",v)])/\∀base:u_,K.In base->base.Ns VI mg->cB l.prog w K mg base CX0 11 fa fd ["_law_script"] (spL K):=by
 let Z:∀b,ZZ l.prog b w K mg (clF A_Marks A_Signs A_Text A_Tree A_Folding A_Undoing) A_Marks A_Signs A_Text A_Tree A_Folding A_Undoing cO mY:=λ_=>⟨hbn,⟨_,X,G⟩,ds,⟨(X2 0),ay.cls9,WD X G ay.n,ay.mx,ay.kc⟩,m_Marks,⟨((if_neg<|by decide).trans<|X2 0),az.cls9,WD X G az.n,az.mx,az.kc⟩,m_Signs,⟨((if_neg<|by decide).trans<|(if_neg<|by decide).trans<|X2 0),bt.cls9,WD X G bt.n,bt.mx,bt.kc⟩,m_Text,⟨((if_neg<|by decide).trans<|(if_neg<|by decide).trans<|(if_neg<|by decide).trans<|X2 0),bu.cls9,WD X G bu.n,bu.mx,bu.kc⟩,m_Tree,⟨((if_neg<|by decide).trans<|(if_neg<|by decide).trans<|(if_neg<|by decide).trans<|(if_neg<|by decide).trans<|X2 0),ai.cls9,WD X G ai.n,ai.mx,ai.kc⟩,m_Folding,⟨((if_neg<|by decide).trans<|(if_neg<|by decide).trans<|(if_neg<|by decide).trans<|(if_neg<|by decide).trans<|(if_neg<|by decide).trans<|X2 0),aj.cls9,WD X G aj.n,aj.mx,aj.kc⟩,m_Undoing,WD X G Dt,⟨e8,by decide,ar,bz,e7,er⟩,WD X G O4,⟨_,bp,fh,[.str "",.int<|0],m8,rfl,rfl,m5,k0,rfl,rfl⟩,λf i c a hc=>clI (p:=λa=>Cls K a/\jU K a f) hc ⟨ay.cls9,ay.nf.at i⟩ ⟨az.cls9,az.nf.at i⟩ ⟨bt.cls9,bt.nf.at i⟩ ⟨bu.cls9,bu.nf.at i⟩ ⟨ai.cls9,ai.nf.at i⟩ ⟨aj.cls9,aj.nf.at i⟩⟩;let⟨f,a,oc,kV,doc,pm,cdv,ct,od,an,osl,l',c,k⟩:=(Z h).ds.at (x:="law") (i:=55) (by decide +kernel);cases Uj.symm.trans (WD X G a)
 refine⟨_,λs v=>.of_eq (fd:=We "law" "law" (eX<|top 55) (cK<|top 55) (aS<|top 55) .none kV doc pm an cdv ct) rfl,λbase _ _=>?_⟩;let⟨_,F⟩:=Qj<|Z base;let q:fA K "law" = fa:=by rw[fA,a]
 rw[q,dA,l']at F;refine F.imp λvs H Q E hh=>?_;let⟨a,ns,rfl,hO,hS,hl,hq⟩:=hh;show N4 (C:=cC w K<|clF A_Marks A_Signs A_Text A_Tree A_Folding A_Undoing) hO hS (main ns hl) hq
def walk{l:PySem.W.OpenLaw}{q:vj}{loose:x_ Str}{XP:(m_ 0)->u_->Prop}{YP:ve->u_->Prop}{d:DefRec}{K:Params->Us}(hn:l.most=a_ 63)(qz:d.params.defaults=[])
  (hY:∀(w:ve)(h:u_),YP w h->(K w.params).In h)
  (F:∀(w:ve)(mg:m_ 0)(fa:s_)(h:u_),(K w.params).In h->h.Ns VI mg->mg d.name=c_ fa->
   ∃fd:V7,(∀(s:r_)(u:q_),BindsTo s fd ⟨[u],[]⟩ [("_law_script",u)])/\∀base:u_,(K w.params).In base->base.Ns VI mg->cB l.prog w (K w.params) mg base CX0 11 fa fd ["_law_script"] (spL (K w.params))):
  PySem.W.WalkO q loose XP YP l.row.toRowW d [] (λf vs=>PySem.call f vs):=
 L2.walk_of (n:=63) (k:=11) (x:="_law_script") (CX:=λ_=>CX0) (sp:=λw=>spL<|K w.params) hn (by decide) qz ⟨rfl,by decide,by decide⟩ hY F (λw H a ns hl hO hS=>⟨a,ns,rfl,hO,hS,hl,λ_=>rfl⟩) λ_ _ _ _ _ z=>z
end K74
open PySem PySem.W PyProof.Rows
namespace PySem.W.Fast
theorem tw17033524006814184222:True:=⟨⟩
theorem tw4237892747485558792:True:=⟨⟩
theorem tw10015566823032737717:True:=⟨⟩
theorem tw5893867831193783734:True:=⟨⟩
theorem tw10789884042515783004:True:=⟨⟩
theorem tw9851062809966491113:True:=⟨⟩
theorem tw4291498561120478149:True:=⟨⟩
theorem tw15281021394830998449:True:=⟨⟩
theorem tw9633003783880739409:True:=⟨⟩
theorem tw11546185086074235361:True:=⟨⟩
theorem tw10650946221222708112:True:=⟨⟩
theorem tw17977500600801162369:True:=⟨⟩
theorem tw14536902247795590420:True:=⟨⟩
theorem tw11796742437536247248:True:=⟨⟩
theorem tw4237442237654630836:True:=⟨⟩
theorem tw8807977704542033774:True:=⟨⟩
theorem tw1733395887150086620:True:=⟨⟩
theorem tw4669439477469208481:True:=⟨⟩
theorem tw11414821398814123171:True:=⟨⟩
theorem tw12655095794910240466:True:=⟨⟩
theorem tw4346597363768019334:True:=⟨⟩
theorem tw10004093781876760715:True:=⟨⟩
theorem tw6816736205504314717:True:=⟨⟩
theorem tw4103113973219309622:True:=⟨⟩
theorem tw3399785519854661652:True:=⟨⟩
theorem tw8663113559879103679:True:=⟨⟩
theorem tw14984199812112157556:True:=⟨⟩
theorem tw12314113704041662252:True:=⟨⟩
theorem tw3672308195734217031:True:=⟨⟩
theorem tw4574778739286094420:True:=⟨⟩
theorem tw10979970251923253655:True:=⟨⟩
theorem tw1391723577246981686:True:=⟨⟩
theorem tw12990720928041748992:True:=⟨⟩
theorem tw3222150619985348127:True:=⟨⟩
theorem tw6313131694382579601:True:=⟨⟩
theorem tw14688161460285130009:True:=⟨⟩
theorem tw18124258685798989397:True:=⟨⟩
theorem tw7851770342868705696:True:=⟨⟩
theorem tw16798393068379170408:True:=⟨⟩
theorem tw17398243046503766617:True:=⟨⟩
theorem tw4156516080973136417:True:=⟨⟩
theorem tw17458962638909777207:True:=⟨⟩
theorem tw1276745946373381716:True:=⟨⟩
theorem tw13834058734639846674:True:=⟨⟩
theorem tw9619517604805373720:True:=⟨⟩
theorem tw7538833246774354214:True:=⟨⟩
theorem tw8658666824870485779:True:=⟨⟩
theorem tw11955803701399652803:True:=⟨⟩
theorem tw6119545193431769646:True:=⟨⟩
theorem tw100501339891762371:True:=⟨⟩
theorem tw10293515645374404550:True:=⟨⟩
theorem tw4946996585228138203:True:=⟨⟩
theorem tw5981757207367424813:True:=⟨⟩
theorem tw9314390715841254343:True:=⟨⟩
theorem tw7696647340507537193:True:=⟨⟩
theorem tw15896970447296460762:True:=⟨⟩
theorem tw15375000376405114860:True:=⟨⟩
theorem tw10540967596594440046:True:=⟨⟩
theorem tw15029999738364842582:True:=⟨⟩
theorem tw10572143032950195150:True:=⟨⟩
theorem tw4490329566132567958:True:=⟨⟩
theorem tw9960885035034873012:True:=⟨⟩
theorem tw2947002564719704096:True:=⟨⟩
theorem tw12511540646272172452:True:=⟨⟩
theorem tw1263053571095540396:True:=⟨⟩
theorem tw16239085609455476670:True:=⟨⟩
theorem tw5389026041540876648:True:=⟨⟩
theorem tw13995949565046005318:True:=⟨⟩
theorem tw9658833910551693330:True:=⟨⟩
theorem tw14715640572621113038:True:=⟨⟩
theorem tw9021710307976381734:True:=⟨⟩
theorem tw3720635875333768509:True:=⟨⟩
theorem tw3987319717099555052:True:=⟨⟩
theorem tw16656443782738503686:True:=⟨⟩
theorem tw11404165071968928358:True:=⟨⟩
theorem tw439987088243053311:True:=⟨⟩
theorem tw17468028789579256974:True:=⟨⟩
theorem tw5661728461590302818:True:=⟨⟩
theorem tw16398998919841152309:True:=⟨⟩
theorem tw14925299431698853392:True:=⟨⟩
theorem tw15121143033957937280:True:=⟨⟩
theorem tw7434890873444206291:True:=⟨⟩
theorem tw10802529613184010183:True:=⟨⟩
theorem tw8480302297275067353:True:=⟨⟩
theorem tw2931052908448645614:True:=⟨⟩
theorem tw1256322861805657698:True:=⟨⟩
theorem tw5441446230926455337:True:=⟨⟩
theorem tw14757677317265665093:True:=⟨⟩
theorem tw4201703138401552780:True:=⟨⟩
theorem tw8689946627754034234:True:=⟨⟩
theorem tw8268481406629957744:True:=⟨⟩
theorem tw15802238790334874260:True:=⟨⟩
theorem tw15915626383059329906:True:=⟨⟩
theorem tw12436780907836842820:True:=⟨⟩
theorem tw12854462743487023267:True:=⟨⟩
theorem tw6827822126819732634:True:=⟨⟩
theorem tw13678996941058723009:True:=⟨⟩
theorem tw2086092202193615904:True:=⟨⟩
theorem tw7173797484435260182:True:=⟨⟩
theorem tw13698176580111734561:True:=⟨⟩
theorem tw15916068343872922510:True:=⟨⟩
theorem tw31777730471729326:True:=⟨⟩
theorem tw1440540922533846727:True:=⟨⟩
theorem tw4323864108904368425:True:=⟨⟩
theorem tw4360808893550641888:True:=⟨⟩
theorem tw14549047076440977981:True:=⟨⟩
theorem tw8230713284543186879:True:=⟨⟩
theorem tw8998178893828892157:True:=⟨⟩
theorem tw2663242394820777685:True:=⟨⟩
theorem tw3585524920591638340:True:=⟨⟩
theorem tw2688750330344177886:True:=⟨⟩
theorem tw16694044108477799545:True:=⟨⟩
theorem tw3909930700747512999:True:=⟨⟩
theorem tw11142850234945916884:True:=⟨⟩
theorem tw14161614006071700746:True:=⟨⟩
theorem tw16099340628963777842:True:=⟨⟩
theorem tw6530698885728467470:True:=⟨⟩
theorem tw11432711390080388171:True:=⟨⟩
theorem tw12138899477226670741:True:=⟨⟩
theorem tw13911169306780009377:True:=⟨⟩
theorem tw7478037818931633111:True:=⟨⟩
theorem tw13874440311997127648:True:=⟨⟩
theorem tw12333586137282462345:True:=⟨⟩
theorem tw3404787402570927768:True:=⟨⟩
theorem tw15978251020445644773:True:=⟨⟩
theorem tw4431879700261351072:True:=⟨⟩
theorem tw15540352362388713111:True:=⟨⟩
theorem tw16178379608924863288:True:=⟨⟩
theorem tw3001307662264796241:True:=⟨⟩
theorem tw3572996609388409792:True:=⟨⟩
theorem tw6768758465603396691:True:=⟨⟩
theorem tw10744806810698249225:True:=⟨⟩
theorem tw10190023302671512129:True:=⟨⟩
theorem tw13139889271651027321:True:=⟨⟩
theorem tw915265589166740471:True:=⟨⟩
theorem tw13769593006289632328:True:=⟨⟩
theorem tw10017447079554145182:True:=⟨⟩
theorem tw16129282712615119924:True:=⟨⟩
theorem tw15395466963116371535:True:=⟨⟩
theorem tw17868619504323262889:True:=⟨⟩
theorem tw18064041375984287608:True:=⟨⟩
theorem tw1237485825731078685:True:=⟨⟩
theorem tw15937711449044147329:True:=⟨⟩
theorem tw16910331429053114088:True:=⟨⟩
theorem tw5617860780448788637:True:=⟨⟩
theorem tw9024362146432399071:True:=⟨⟩
theorem tw8967150448373887744:True:=⟨⟩
theorem tw1827742273275484142:True:=⟨⟩
theorem tw3015160332986554485:True:=⟨⟩
theorem tw7116584831169434819:True:=⟨⟩
theorem tw3289687138252693033:True:=⟨⟩
theorem tw1136388338640159412:True:=⟨⟩
theorem tw5916707763544381713:True:=⟨⟩
theorem tw15198801454549187321:True:=⟨⟩
theorem tw2535821017323084286:True:=⟨⟩
theorem tw17164885048739451846:True:=⟨⟩
theorem tw7704396052931744574:True:=⟨⟩
theorem tw5311133749152974513:True:=⟨⟩
theorem tw11020899193753453212:True:=⟨⟩
theorem tw14514872746217349741:True:=⟨⟩
theorem tw15669751346183622448:True:=⟨⟩
theorem tw7299160613640930039:True:=⟨⟩
theorem tw4567523309845726188:True:=⟨⟩
theorem tw15865338160584998659:True:=⟨⟩
theorem tw8699933367099000310:True:=⟨⟩
theorem tw8060058052096277037:True:=⟨⟩
theorem tw14129042311523469849:True:=⟨⟩
theorem tw4496143933187382044:True:=⟨⟩
theorem tw5710117293449624871:True:=⟨⟩
theorem tw18333695116603259388:True:=⟨⟩
theorem tw9089129068239278372:True:=⟨⟩
theorem tw9912832516687309027:True:=⟨⟩
theorem tw6298765599145718451:True:=⟨⟩
theorem tw6880781898088014378:True:=⟨⟩
theorem tw9156864433981852395:True:=⟨⟩
theorem tw8599667319305017897:True:=⟨⟩
theorem tw7015810564912715663:True:=⟨⟩
theorem tw14782700197007284325:True:=⟨⟩
theorem tw6209415018407177758:True:=⟨⟩
theorem tw16119389298599806407:True:=⟨⟩
theorem tw14170007789627488447:True:=⟨⟩
theorem tw6079216541081067035:True:=⟨⟩
theorem tw12002266828645841751:True:=⟨⟩
theorem tw13458549361911376772:True:=⟨⟩
theorem tw6786461505535750055:True:=⟨⟩
theorem tw11493226213698777388:True:=⟨⟩
theorem tw7646145247221889926:True:=⟨⟩
theorem tw16568039845884929128:True:=⟨⟩
theorem tw17129092425770189987:True:=⟨⟩
theorem tw4221940728473126055:True:=⟨⟩
theorem tw9053297713472834086:True:=⟨⟩
theorem tw17339010515935577021:True:=⟨⟩
theorem tw14818574122702129193:True:=⟨⟩
theorem tw15561871677396971355:True:=⟨⟩
theorem tw6011851925079685157:True:=⟨⟩
theorem tw16095360748782293403:True:=⟨⟩
theorem tw11171610422665670176:True:=⟨⟩
theorem tw8654381085517787637:True:=⟨⟩
theorem tw16776493027548604785:True:=⟨⟩
theorem tw7707735809803879050:True:=⟨⟩
theorem tw5258056527443740459:True:=⟨⟩
theorem tw8865981488251583727:True:=⟨⟩
theorem tw15566238188624001871:True:=⟨⟩
theorem tw8947808107130897710:True:=⟨⟩
theorem tw17342469702430176799:True:=⟨⟩
theorem tw1700758639336789603:True:=⟨⟩
theorem tw6265039179933438098:True:=⟨⟩
theorem tw18263679957131422900:True:=⟨⟩
theorem tw7876161661541224279:True:=⟨⟩
theorem tw14925626805910474305:True:=⟨⟩
theorem tw12611859043145495962:True:=⟨⟩
theorem tw15121888485841662341:True:=⟨⟩
theorem tw7505387302618324466:True:=⟨⟩
theorem tw9163877722952982705:True:=⟨⟩
theorem tw7631292766931083311:True:=⟨⟩
theorem tw3183392022548885387:True:=⟨⟩
theorem tw7391439952311050362:True:=⟨⟩
theorem tw13651406348397150831:True:=⟨⟩
theorem tw6480491957753632470:True:=⟨⟩
theorem tw4280259476899243840:True:=⟨⟩
theorem tw7937300067382015259:True:=⟨⟩
theorem tw4596444349117474693:True:=⟨⟩
theorem tw15349912515742433265:True:=⟨⟩
theorem tw1057606038548070601:True:=⟨⟩
theorem tw457086700624091787:True:=⟨⟩
theorem tw11323934547246110404:True:=⟨⟩
theorem tw15453984285837217391:True:=⟨⟩
theorem tw10629416815117266095:True:=⟨⟩
theorem tw9753343704474384888:True:=⟨⟩
theorem tw6862628816825289004:True:=⟨⟩
theorem tw5419706036423146132:True:=⟨⟩
theorem tw7261852960098895474:True:=⟨⟩
theorem tw4445307626598049671:True:=⟨⟩
theorem tw17692075493877331712:True:=⟨⟩
theorem tw8378193086175496579:True:=⟨⟩
theorem tw16890437886574882523:True:=⟨⟩
theorem tw18106146052267743372:True:=⟨⟩
theorem tw8553403308392390732:True:=⟨⟩
theorem tw10151658771124994671:True:=⟨⟩
theorem tw1521582995561501037:True:=⟨⟩
theorem tw1158945473674291204:True:=⟨⟩
theorem tw9374000975238463000:True:=⟨⟩
theorem tw7402020615094358786:True:=⟨⟩
theorem tw16657023287955520180:True:=⟨⟩
theorem tw18266197949119029152:True:=⟨⟩
theorem tw4790685461244971959:True:=⟨⟩
theorem tw10322795463245514285:True:=⟨⟩
theorem tw13433631491306949626:True:=⟨⟩
theorem tw17671047804397381010:True:=⟨⟩
theorem tw7339942466154237346:True:=⟨⟩
theorem tw6185597740493859444:True:=⟨⟩
theorem tw18239072651619750402:True:=⟨⟩
theorem tw14107719685706460555:True:=⟨⟩
theorem tw6406540290728795571:True:=⟨⟩
theorem tw4339664116168773962:True:=⟨⟩
theorem tw11476859071020119282:True:=⟨⟩
theorem tw8093357366935682601:True:=⟨⟩
theorem tw13720831822963816631:True:=⟨⟩
theorem tw4581860960813764935:True:=⟨⟩
theorem tw12155193008285049737:True:=⟨⟩
theorem tw4454041586907694266:True:=⟨⟩
theorem tw6040200485460916334:True:=⟨⟩
theorem tw9934458289818652258:True:=⟨⟩
theorem tw1160769103472721495:True:=⟨⟩
theorem tw13359425105927546696:True:=⟨⟩
theorem tw16160763870669291805:True:=⟨⟩
theorem tw5677591584891837392:True:=⟨⟩
theorem tw6494147103316197417:True:=⟨⟩
theorem tw10354339880066100314:True:=⟨⟩
theorem tw14327580965827447583:True:=⟨⟩
theorem tw13406335694444930496:True:=⟨⟩
theorem tw17621710414051417075:True:=⟨⟩
theorem tw14393588108914187968:True:=⟨⟩
theorem tw5683068800608205388:True:=⟨⟩
theorem tw6695653360163458421:True:=⟨⟩
theorem tw4846147390449894297:True:=⟨⟩
theorem tw3632980195389944216:True:=⟨⟩
theorem tw13766014696440757043:True:=⟨⟩
theorem tw16263866955456890969:True:=⟨⟩
theorem tw772388754296237585:True:=⟨⟩
theorem tw12779577389453395941:True:=⟨⟩
theorem tw18221641260094425783:True:=⟨⟩
theorem tw957293267318554339:True:=⟨⟩
theorem tw8098596855543200938:True:=⟨⟩
theorem tw1661802127191308385:True:=⟨⟩
theorem tw17962031743691456223:True:=⟨⟩
theorem tw9966342098991065758:True:=⟨⟩
theorem tw3789924307335920308:True:=⟨⟩
theorem tw4746606132758477804:True:=⟨⟩
theorem tw13513927964704747377:True:=⟨⟩
theorem tw4674038269006047936:True:=⟨⟩
theorem tw5407489887428525425:True:=⟨⟩
theorem tw15270367248388203965:True:=⟨⟩
theorem tw1087058447095685868:True:=⟨⟩
theorem tw17162410824077496999:True:=⟨⟩
theorem tw14009502418102222752:True:=⟨⟩
theorem tw15762046518932156766:True:=⟨⟩
theorem tw11470436077240095093:True:=⟨⟩
theorem tw12424664217584632506:True:=⟨⟩
theorem tw4825620967974383917:True:=⟨⟩
theorem tw4771025048191966936:True:=⟨⟩
theorem tw10386131552139466989:True:=⟨⟩
theorem tw15671946830539175573:True:=⟨⟩
theorem tw13153619367070391445:True:=⟨⟩
theorem tw9438034927538714727:True:=⟨⟩
theorem tw3752308047172922192:True:=⟨⟩
theorem tw250714012374576124:True:=⟨⟩
theorem tw9960064219612360254:True:=⟨⟩
theorem tw17312617875390477373:True:=⟨⟩
theorem tw4078630770110134035:True:=⟨⟩
theorem tw5644158916459855232:True:=⟨⟩
theorem tw6550334743033975220:True:=⟨⟩
theorem tw13474145647063602031:True:=⟨⟩
theorem tw17588746583543166498:True:=⟨⟩
theorem tw18090167405352135245:True:=⟨⟩
theorem tw11450648664559487655:True:=⟨⟩
theorem tw4081121713622773224:True:=⟨⟩
theorem tw9109999748720846909:True:=⟨⟩
theorem tw16606105102906249680:True:=⟨⟩
theorem tw3592703632770098827:True:=⟨⟩
theorem tw12241818760786532857:True:=⟨⟩
theorem tw10469271598273101303:True:=⟨⟩
theorem tw858456245813930774:True:=⟨⟩
theorem tw12361616972059828425:True:=⟨⟩
theorem tw17205829127866552085:True:=⟨⟩
theorem tw5730745307047124971:True:=⟨⟩
theorem tw14550785064833498888:True:=⟨⟩
theorem tw14813469623044203512:True:=⟨⟩
theorem tw4404072194958166737:True:=⟨⟩
theorem tw13380751848199754013:True:=⟨⟩
theorem tw14357998790117655254:True:=⟨⟩
theorem tw7103788324792356743:True:=⟨⟩
theorem tw12453957481457616412:True:=⟨⟩
theorem tw6181997629267024953:True:=⟨⟩
theorem tw9804175946419978473:True:=⟨⟩
theorem tw8164505370433004770:True:=⟨⟩
theorem tw3295365097090013224:True:=⟨⟩
theorem tw17137743945192411071:True:=⟨⟩
theorem tw536289155407692773:True:=⟨⟩
theorem tw10313779601966480106:True:=⟨⟩
theorem tw12831834577949001609:True:=⟨⟩
theorem tw13647342162485705151:True:=⟨⟩
theorem tw5559595839749792818:True:=⟨⟩
theorem tw17686199290219086494:True:=⟨⟩
theorem tw9702410909646279628:True:=⟨⟩
theorem tw6276415398210787057:True:=⟨⟩
theorem tw5646271592812699202:True:=⟨⟩
theorem tw11498405641696900066:True:=⟨⟩
theorem tw14952014662793058517:True:=⟨⟩
theorem tw5479805658005013217:True:=⟨⟩
theorem tw10289382171805165653:True:=⟨⟩
theorem tw15454884212674393834:True:=⟨⟩
theorem tw14288101709099733660:True:=⟨⟩
theorem tw15658374510510080074:True:=⟨⟩
theorem tw8123408440590910049:True:=⟨⟩
theorem tw8601672707133879855:True:=⟨⟩
theorem tw2080198071185965632:True:=⟨⟩
theorem tw12512510446878372467:True:=⟨⟩
theorem tw15786806842941205444:True:=⟨⟩
theorem tw3185519725724943598:True:=⟨⟩
theorem tw7895800750171055742:True:=⟨⟩
theorem tw17914509546388577359:True:=⟨⟩
theorem tw4836543069801382935:True:=⟨⟩
theorem tw10553204707659199114:True:=⟨⟩
theorem tw4011443356548945570:True:=⟨⟩
theorem tw14468791924603327536:True:=⟨⟩
theorem tw7806790661902843976:True:=⟨⟩
theorem tw17957235687236771369:True:=⟨⟩
theorem tw16321416998901552063:True:=⟨⟩
theorem tw3006690786052491362:True:=⟨⟩
theorem tw1578852471019750828:True:=⟨⟩
theorem tw16326193673610078302:True:=⟨⟩
theorem tw5856277339820581333:True:=⟨⟩
theorem tw16429193292882287494:True:=⟨⟩
theorem tw3880896832978430046:True:=⟨⟩
theorem tw16432284582743326112:True:=⟨⟩
theorem tw9496794061829996046:True:=⟨⟩
theorem tw3445366045934458026:True:=⟨⟩
theorem tw6580414727145502750:True:=⟨⟩
theorem tw17018309293553474302:True:=⟨⟩
theorem tw5254129937585743246:True:=⟨⟩
theorem tw13199175120498910975:True:=⟨⟩
theorem tw10126763721067635926:True:=⟨⟩
theorem tw8857748910653806224:True:=⟨⟩
theorem tw17453088460253170393:True:=⟨⟩
theorem tw13608018011745652251:True:=⟨⟩
theorem tw3013937651115235184:True:=⟨⟩
theorem tw10555243195018758974:True:=⟨⟩
theorem tw5543393348622622728:True:=⟨⟩
theorem tw4616589949375330918:True:=⟨⟩
theorem tw3622617457933502407:True:=⟨⟩
theorem tw4718323739108087425:True:=⟨⟩
theorem tw7984653215647008118:True:=⟨⟩
theorem tw4819998605792331988:True:=⟨⟩
theorem tw10321166034612957809:True:=⟨⟩
theorem tw17287235691016288861:True:=⟨⟩
theorem tw2559550313779944498:True:=⟨⟩
theorem tw14071839538152974958:True:=⟨⟩
theorem tw3005463997545983728:True:=⟨⟩
theorem tw8238453314456065279:True:=⟨⟩
theorem tw7361990192368005282:True:=⟨⟩
theorem tw499143596545950320:True:=⟨⟩
theorem tw12721573155069422934:True:=⟨⟩
theorem tw9054344587300970872:True:=⟨⟩
theorem tw7083116017087485452:True:=⟨⟩
theorem tw12740823098863687166:True:=⟨⟩
theorem tw1971716967811818923:True:=⟨⟩
theorem tw439932916743495167:True:=⟨⟩
theorem tw13779918548339237832:True:=⟨⟩
theorem tw5605750411553658679:True:=⟨⟩
theorem tw15454495821030695735:True:=⟨⟩
theorem tw11842929508218610123:True:=⟨⟩
theorem tw13607157968295302265:True:=⟨⟩
theorem tw15141522922444109486:True:=⟨⟩
theorem tw12684656092082683442:True:=⟨⟩
theorem tw14871541182659853592:True:=⟨⟩
theorem tw7942927617478208790:True:=⟨⟩
theorem tw16846809452904592691:True:=⟨⟩
theorem tw11894215594141841004:True:=⟨⟩
theorem tw11802120825098718295:True:=⟨⟩
theorem tw14423246016530844504:True:=⟨⟩
theorem tw389531290434291952:True:=⟨⟩
theorem tw10442170701743025713:True:=⟨⟩
theorem tw15183508361568858721:True:=⟨⟩
theorem tw12358679608451674023:True:=⟨⟩
theorem tw9903713932316932673:True:=⟨⟩
theorem tw18064029560645200481:True:=⟨⟩
theorem tw17330581278560135215:True:=⟨⟩
theorem tw7990969113131755062:True:=⟨⟩
theorem tw14023731539346446825:True:=⟨⟩
theorem tw10179760147818735645:True:=⟨⟩
theorem tw4462443969561161635:True:=⟨⟩
theorem tw12422407090483880482:True:=⟨⟩
theorem tw16927565705525267061:True:=⟨⟩
theorem tw18284456899607259833:True:=⟨⟩
theorem tw4933573199013059435:True:=⟨⟩
theorem tw15090400053870411842:True:=⟨⟩
theorem tw89085196914428779:True:=⟨⟩
theorem tw1686509396291422604:True:=⟨⟩
theorem tw12644658799178913794:True:=⟨⟩
theorem tw15209056972139869341:True:=⟨⟩
theorem tw4206741516020515251:True:=⟨⟩
theorem tw5273764951497590899:True:=⟨⟩
theorem tw2902902978625755525:True:=⟨⟩
theorem tw9292249793392794315:True:=⟨⟩
theorem tw14878478720126212155:True:=⟨⟩
theorem tw3657666496595402547:True:=⟨⟩
theorem tw8674079531493138400:True:=⟨⟩
theorem tw7024780910418457878:True:=⟨⟩
theorem tw10596239886075925589:True:=⟨⟩
theorem tw16764451835503721612:True:=⟨⟩
theorem tw9909310354352101461:True:=⟨⟩
theorem tw12183864628217472636:True:=⟨⟩
theorem tw16703448085642834848:True:=⟨⟩
theorem tw12228586093479801121:True:=⟨⟩
theorem tw8733447462699707318:True:=⟨⟩
theorem tw10436862566103959304:True:=⟨⟩
theorem tw2760334562646620052:True:=⟨⟩
theorem tw3744372721650799904:True:=⟨⟩
theorem tw17192296693088006159:True:=⟨⟩
theorem tw9272827853873564331:True:=⟨⟩
theorem tw18013154104268661007:True:=⟨⟩
theorem tw14345277155301054067:True:=⟨⟩
theorem tw15422152344902507932:True:=⟨⟩
theorem tw6336819387271704240:True:=⟨⟩
theorem tw3290454318527566710:True:=⟨⟩
theorem tw12996910983314793985:True:=⟨⟩
theorem tw4369954585737986666:True:=⟨⟩
theorem tw11823748652095748885:True:=⟨⟩
theorem tw14980580759402314780:True:=⟨⟩
theorem tw11180324947109871683:True:=⟨⟩
theorem tw6450789879920062872:True:=⟨⟩
theorem tw6633949180160112714:True:=⟨⟩
theorem tw2509907169112003397:True:=⟨⟩
theorem tw5277802522008660254:True:=⟨⟩
theorem tw2641400757253359158:True:=⟨⟩
theorem tw898492347634484504:True:=⟨⟩
theorem tw5385204578500360130:True:=⟨⟩
theorem tw9784633072767225923:True:=⟨⟩
theorem tw2732886513005604840:True:=⟨⟩
theorem tw11299262070818040824:True:=⟨⟩
theorem tw2041475654719658965:True:=⟨⟩
theorem tw6669183178503625708:True:=⟨⟩
theorem tw18137544482544594019:True:=⟨⟩
theorem tw4053083174209723287:True:=⟨⟩
theorem tw6115080158624819332:True:=⟨⟩
theorem tw2274175658772668835:True:=⟨⟩
theorem tw1287085539471518441:True:=⟨⟩
theorem tw16433243546651312505:True:=⟨⟩
theorem tw244975053418969402:True:=⟨⟩
theorem tw11880961265090744372:True:=⟨⟩
theorem tw8789258810958000670:True:=⟨⟩
theorem tw3450804056023843977:True:=⟨⟩
theorem tw2453436819832740707:True:=⟨⟩
theorem tw6513858585776220789:True:=⟨⟩
theorem tw4782116286695847131:True:=⟨⟩
theorem tw12583477093607533043:True:=⟨⟩
theorem tw5246804207628723442:True:=⟨⟩
theorem tw18281072368123441677:True:=⟨⟩
theorem tw13290246314652747935:True:=⟨⟩
theorem tw15391693207634721488:True:=⟨⟩
theorem tw17571529137852788469:True:=⟨⟩
theorem tw3508669173272792117:True:=⟨⟩
theorem tw9242419205432607776:True:=⟨⟩
theorem tw1994940582499312456:True:=⟨⟩
theorem tw10583853725478921114:True:=⟨⟩
theorem tw10420840506337765755:True:=⟨⟩
theorem tw2415200548099458950:True:=⟨⟩
theorem tw679214472978704981:True:=⟨⟩
theorem tw3578479916642020656:True:=⟨⟩
theorem tw9446887761280946640:True:=⟨⟩
theorem tw966250665062967009:True:=⟨⟩
theorem tw12608300767653080275:True:=⟨⟩
theorem tw10257468389754100858:True:=⟨⟩
theorem tw14281987455724450086:True:=⟨⟩
theorem tw14153566505340235401:True:=⟨⟩
theorem tw2697579262190406062:True:=⟨⟩
theorem tw1068092653861307839:True:=⟨⟩
theorem tw4556778693681573301:True:=⟨⟩
theorem tw5423174668821458357:True:=⟨⟩
theorem tw1059566540892474438:True:=⟨⟩
theorem tw18407508804283252357:True:=⟨⟩
theorem tw16950112426156022548:True:=⟨⟩
theorem tw14566150358070461527:True:=⟨⟩
theorem tw5936600173943334227:True:=⟨⟩
theorem tw11331777156323684806:True:=⟨⟩
theorem tw10668647921755005752:True:=⟨⟩
theorem tw399600802087263956:True:=⟨⟩
theorem tw17999149913906396889:True:=⟨⟩
theorem tw15317601245752920770:True:=⟨⟩
theorem tw12889518025279320546:True:=⟨⟩
theorem tw11043169059298805296:True:=⟨⟩
theorem tw996782533205918136:True:=⟨⟩
theorem tw13604395214910442683:True:=⟨⟩
theorem tw4065754141438973655:True:=⟨⟩
theorem tw4538485698100442380:True:=⟨⟩
theorem tw14080805884286743959:True:=⟨⟩
theorem tw13044366969227097054:True:=⟨⟩
theorem tw15131738162708475139:True:=⟨⟩
theorem tw11829856959222245734:True:=⟨⟩
theorem tw661366009752313614:True:=⟨⟩
theorem tw13178064031909362243:True:=⟨⟩
theorem tw13082137937146185820:True:=⟨⟩
theorem tw14926476178887106157:True:=⟨⟩
theorem tw313007082819787164:True:=⟨⟩
theorem tw11099938073732177600:True:=⟨⟩
theorem tw17419262824516361872:True:=⟨⟩
theorem tw12664518419846359072:True:=⟨⟩
theorem tw1537074122770935466:True:=⟨⟩
theorem tw5161271761588196484:True:=⟨⟩
theorem tw9629312219696585515:True:=⟨⟩
theorem tw9711785961610713986:True:=⟨⟩
theorem tw1708603725643156963:True:=⟨⟩
theorem tw2473160811034691599:True:=⟨⟩
theorem tw14273603182588058202:True:=⟨⟩
theorem tw12453367936769031984:True:=⟨⟩
theorem tw17954517485395203790:True:=⟨⟩
theorem tw13584452456642623409:True:=⟨⟩
theorem tw15725353632747615019:True:=⟨⟩
theorem tw15567276309558481725:True:=⟨⟩
theorem tw16673576812205997558:True:=⟨⟩
theorem tw13689081437847039570:True:=⟨⟩
theorem tw14453023998995080742:True:=⟨⟩
theorem tw11600442114321107423:True:=⟨⟩
theorem tw2018458288387083800:True:=⟨⟩
theorem tw13560084481789256050:True:=⟨⟩
theorem tw11765309983145441745:True:=⟨⟩
theorem tw4710344125794001369:True:=⟨⟩
theorem tw17829258199626991584:True:=⟨⟩
theorem tw12834766635826368368:True:=⟨⟩
theorem tw7807200256949875924:True:=⟨⟩
theorem tw8447279843222756330:True:=⟨⟩
theorem tw2470731447000132920:True:=⟨⟩
theorem tw2567611723129864611:True:=⟨⟩
theorem tw12816498389231485239:True:=⟨⟩
theorem tw5861055218909079082:True:=⟨⟩
theorem tw2337212254753516160:True:=⟨⟩
theorem tw4516388106935552475:True:=⟨⟩
theorem tw14277749399133851822:True:=⟨⟩
theorem tw3950503382131356751:True:=⟨⟩
theorem tw15492609563791839320:True:=⟨⟩
theorem tw3760770841434772256:True:=⟨⟩
theorem tw9069301763561767902:True:=⟨⟩
theorem tw6026376284231967271:True:=⟨⟩
theorem tw18099767567657937800:True:=⟨⟩
theorem tw11267655967471603249:True:=⟨⟩
theorem tw16388986635732388001:True:=⟨⟩
theorem tw2079010102108391662:True:=⟨⟩
theorem tw14242239551146572945:True:=⟨⟩
theorem tw3440332004139610042:True:=⟨⟩
theorem tw2802907714733551204:True:=⟨⟩
theorem tw8521857709371802948:True:=⟨⟩
theorem tw17745962134589919889:True:=⟨⟩
theorem tw6654284381559963787:True:=⟨⟩
theorem tw1987003916628130868:True:=⟨⟩
theorem tw8321677332639605073:True:=⟨⟩
theorem tw1359770991709681092:True:=⟨⟩
theorem tw9711037710795661518:True:=⟨⟩
theorem tw3093778842416935221:True:=⟨⟩
theorem tw4686806372248195947:True:=⟨⟩
theorem tw1919925984556822968:True:=⟨⟩
theorem tw17087040377230736061:True:=⟨⟩
theorem tw14769862015148755289:True:=⟨⟩
theorem tw15796270367928605750:True:=⟨⟩
theorem tw2142174435327672055:True:=⟨⟩
theorem tw13204177363895520787:True:=⟨⟩
theorem tw2303050130563068160:True:=⟨⟩
theorem tw13519098021399637037:True:=⟨⟩
theorem tw12565318146286265733:True:=⟨⟩
theorem tw9014130393732684437:True:=⟨⟩
theorem tw2807784827986225652:True:=⟨⟩
theorem tw7430299625978579492:True:=⟨⟩
theorem tw10257330133945040926:True:=⟨⟩
theorem tw5645741483461148560:True:=⟨⟩
theorem tw8458643065344335232:True:=⟨⟩
theorem tw17443749461252687146:True:=⟨⟩
theorem tw1990371509026438332:True:=⟨⟩
theorem tw10149583769913454810:True:=⟨⟩
theorem tw14627228663835860339:True:=⟨⟩
theorem tw5845711272566001317:True:=⟨⟩
theorem tw7233439929305199671:True:=⟨⟩
theorem tw11735368603329605333:True:=⟨⟩
theorem tw13229344194748966942:True:=⟨⟩
theorem tw14059821146067378225:True:=⟨⟩
theorem tw13541958823877586840:True:=⟨⟩
theorem tw6711172227024350900:True:=⟨⟩
theorem tw17421258526897993221:True:=⟨⟩
theorem tw813557192604823139:True:=⟨⟩
theorem tw5144341611160113628:True:=⟨⟩
theorem tw10708746886775431719:True:=⟨⟩
theorem tw16373910783100258869:True:=⟨⟩
theorem tw2797984614098239285:True:=⟨⟩
theorem tw13373650630811947732:True:=⟨⟩
theorem tw11378000924650021254:True:=⟨⟩
theorem tw18381781386514646459:True:=⟨⟩
theorem tw2418995032812439079:True:=⟨⟩
theorem tw1834943781793038773:True:=⟨⟩
theorem tw3506944574196082278:True:=⟨⟩
theorem tw2147511984339162772:True:=⟨⟩
theorem tw9740387232512211605:True:=⟨⟩
theorem tw5246737637216712447:True:=⟨⟩
theorem tw17983740408831687019:True:=⟨⟩
theorem tw12298473115806280876:True:=⟨⟩
theorem tw2520257164690236356:True:=⟨⟩
theorem tw4874841426260663062:True:=⟨⟩
theorem tw5167686921541815973:True:=⟨⟩
theorem tw7693585959449080421:True:=⟨⟩
theorem tw10704636596244621185:True:=⟨⟩
theorem tw7686037831037570065:True:=⟨⟩
theorem tw16925942683674957591:True:=⟨⟩
theorem tw8224939179724274639:True:=⟨⟩
theorem tw1719581470288118727:True:=⟨⟩
theorem tw2013905496094477713:True:=⟨⟩
theorem tw17208915485381043988:True:=⟨⟩
theorem tw645985690587564327:True:=⟨⟩
theorem tw10097734282716625888:True:=⟨⟩
theorem tw9016180778648453027:True:=⟨⟩
theorem tw6036435364355048712:True:=⟨⟩
theorem tw15998954336684965173:True:=⟨⟩
theorem tw13479861238577882620:True:=⟨⟩
theorem tw6976400598762417753:True:=⟨⟩
theorem tw15844934215487737703:True:=⟨⟩
theorem tw17430338312803415408:True:=⟨⟩
theorem tw18268458065607317325:True:=⟨⟩
theorem tw1220498332028820925:True:=⟨⟩
theorem tw11963808608337814181:True:=⟨⟩
theorem tw5469821998260643929:True:=⟨⟩
theorem tw6168600352282627195:True:=⟨⟩
theorem tw9835189645097143366:True:=⟨⟩
theorem tw10687681976478258880:True:=⟨⟩
theorem tw2186014749900910610:True:=⟨⟩
theorem tw15360351099876611738:True:=⟨⟩
theorem tw16612495998580365703:True:=⟨⟩
theorem tw8717388271431514379:True:=⟨⟩
theorem tw14680890696779683370:True:=⟨⟩
theorem tw17155685727568144839:True:=⟨⟩
theorem tw14656145293577336275:True:=⟨⟩
theorem tw9631671771553053569:True:=⟨⟩
theorem tw5579945574974642709:True:=⟨⟩
theorem tw6553188246271112262:True:=⟨⟩
theorem tw3225857472406085977:True:=⟨⟩
theorem tw7455071695322121989:True:=⟨⟩
theorem tw5369265051541126330:True:=⟨⟩
theorem tw2900403135760728746:True:=⟨⟩
theorem tw3373413870263837581:True:=⟨⟩
theorem tw12569812727271962999:True:=⟨⟩
theorem tw7699323383368869143:True:=⟨⟩
theorem tw4320197905414170195:True:=⟨⟩
theorem tw436877765976888414:True:=⟨⟩
theorem tw15420047983298259882:True:=⟨⟩
theorem tw11260169339403969992:True:=⟨⟩
theorem tw11720489058818074220:True:=⟨⟩
theorem tw7326032461201717553:True:=⟨⟩
theorem tw9155844959234977602:True:=⟨⟩
theorem tw7497852797694269064:True:=⟨⟩
theorem tw12532345861027869972:True:=⟨⟩
theorem tw11113211840718249299:True:=⟨⟩
theorem tw11263766314019870689:True:=⟨⟩
theorem tw14474646917143063654:True:=⟨⟩
theorem tw4618064631061494102:True:=⟨⟩
theorem tw17453081278815772718:True:=⟨⟩
theorem tw17697985922517093229:True:=⟨⟩
theorem tw10948878080623344522:True:=⟨⟩
theorem tw11579669208106068155:True:=⟨⟩
theorem tw7562604977251883923:True:=⟨⟩
theorem tw15335253805099269602:True:=⟨⟩
theorem tw17243059065056563557:True:=⟨⟩
theorem tw16521965106786413692:True:=⟨⟩
theorem tw12873634491701149172:True:=⟨⟩
theorem tw18423987970116156359:True:=⟨⟩
theorem tw11156376160813778589:True:=⟨⟩
theorem tw9398820540704534877:True:=⟨⟩
theorem tw7722641484560472830:True:=⟨⟩
theorem tw15530654771246198829:True:=⟨⟩
theorem tw7381280378136533287:True:=⟨⟩
theorem tw15962540182160086955:True:=⟨⟩
theorem tw4162406636961619820:True:=⟨⟩
theorem tw11206544303828820474:True:=⟨⟩
theorem tw7727035801768714024:True:=⟨⟩
theorem tw16521527804378268207:True:=⟨⟩
theorem tw17459176762909767170:True:=⟨⟩
theorem tw4296132684707520163:True:=⟨⟩
theorem tw17661570642289641096:True:=⟨⟩
theorem tw2722564352936264072:True:=⟨⟩
theorem tw16685070880867872960:True:=⟨⟩
theorem tw18212245514421019296:True:=⟨⟩
theorem tw14065723320402710073:True:=⟨⟩
theorem tw7012009402708148297:True:=⟨⟩
theorem tw4115583955804646035:True:=⟨⟩
theorem tw4903247183771119245:True:=⟨⟩
theorem tw10203363288262843407:True:=⟨⟩
theorem tw14553539908033684215:True:=⟨⟩
theorem tw6378878323231787995:True:=⟨⟩
theorem tw11729794314085966836:True:=⟨⟩
theorem tw11562587952046796824:True:=⟨⟩
theorem tw12373579422864972572:True:=⟨⟩
theorem tw5320322374088007397:True:=⟨⟩
theorem tw6799438752415155601:True:=⟨⟩
theorem tw7315005121060747326:True:=⟨⟩
theorem tw15174644843546567613:True:=⟨⟩
theorem tw4959964187688949125:True:=⟨⟩
theorem tw9205446352631399284:True:=⟨⟩
theorem tw8048543738541960501:True:=⟨⟩
theorem tw14389682912615965736:True:=⟨⟩
theorem tw6995024076575571516:True:=⟨⟩
theorem tw10053216637151116424:True:=⟨⟩
theorem tw4500979182293354902:True:=⟨⟩
theorem tw17214543861258086224:True:=⟨⟩
theorem tw3751513559910618040:True:=⟨⟩
theorem tw5541891377252770533:True:=⟨⟩
theorem tw12195895912723518791:True:=⟨⟩
theorem tw15907997765844239409:True:=⟨⟩
theorem tw18340906113423685250:True:=⟨⟩
theorem tw14460071964137084522:True:=⟨⟩
theorem tw4002935172162686185:True:=⟨⟩
theorem tw15102189756257522438:True:=⟨⟩
theorem tw4992351512485730710:True:=⟨⟩
theorem tw12750884489773543520:True:=⟨⟩
theorem tw1779445941205816101:True:=⟨⟩
theorem tw869959646146288354:True:=⟨⟩
theorem tw15143111279325996857:True:=⟨⟩
theorem tw2697801282181767086:True:=⟨⟩
theorem tw17012199142414701847:True:=⟨⟩
theorem tw4034314330344277184:True:=⟨⟩
theorem tw15413329878740566316:True:=⟨⟩
theorem tw7337096375633310547:True:=⟨⟩
theorem tw15670796300667506191:True:=⟨⟩
theorem tw9403138014044303806:True:=⟨⟩
theorem tw14562088662398925727:True:=⟨⟩
theorem tw10068936877126904384:True:=⟨⟩
theorem tw12512751214470462987:True:=⟨⟩
theorem tw8513421708217365751:True:=⟨⟩
theorem tw9915732504172854211:True:=⟨⟩
theorem tw734938131178773813:True:=⟨⟩
theorem tw12910152389310894053:True:=⟨⟩
theorem tw17809278067850147647:True:=⟨⟩
theorem tw282069266310098282:True:=⟨⟩
theorem tw13465621124021230556:True:=⟨⟩
theorem tw13243325556012851114:True:=⟨⟩
theorem tw13466329698612175023:True:=⟨⟩
theorem tw16604507259087633696:True:=⟨⟩
theorem tw7004622555837762642:True:=⟨⟩
theorem tw1811538863885696485:True:=⟨⟩
theorem tw11747068226959250883:True:=⟨⟩
theorem tw964878725997818613:True:=⟨⟩
theorem tw8698985996631916854:True:=⟨⟩
theorem tw679948488125310571:True:=⟨⟩
theorem tw13871151766880617157:True:=⟨⟩
theorem tw8519790408220747652:True:=⟨⟩
theorem tw15280086379061990748:True:=⟨⟩
theorem tw16765100106967538319:True:=⟨⟩
theorem tw12345109437720110555:True:=⟨⟩
theorem tw207497098182171567:True:=⟨⟩
theorem tw2673510492662220425:True:=⟨⟩
theorem tw12683110740346811038:True:=⟨⟩
theorem tw12454780928390223714:True:=⟨⟩
theorem tw3847746087854332146:True:=⟨⟩
theorem tw10081822971995278094:True:=⟨⟩
theorem tw7767239974070884713:True:=⟨⟩
theorem tw974648755401959755:True:=⟨⟩
theorem tw16549387262928053875:True:=⟨⟩
theorem tw7088985609266264224:True:=⟨⟩
theorem tw4306005397609597412:True:=⟨⟩
theorem tw5713279888850255230:True:=⟨⟩
theorem tw5696112565794323950:True:=⟨⟩
theorem tw4429278439414449820:True:=⟨⟩
theorem tw11642559588501700576:True:=⟨⟩
theorem tw589910160024333136:True:=⟨⟩
theorem tw7261202270469296495:True:=⟨⟩
theorem tw1246065785053290375:True:=⟨⟩
theorem tw14282506563671122999:True:=⟨⟩
theorem tw14130304120520879645:True:=⟨⟩
theorem tw15290282501859350537:True:=⟨⟩
theorem tw15069605493326632110:True:=⟨⟩
theorem tw14434506210282494685:True:=⟨⟩
theorem tw8357397171400751321:True:=⟨⟩
theorem tw11773816058651404803:True:=⟨⟩
theorem tw9907677528289177749:True:=⟨⟩
theorem tw12142677476985313135:True:=⟨⟩
theorem tw640847672259618969:True:=⟨⟩
theorem tw297207034249551421:True:=⟨⟩
theorem tw6299617418428045181:True:=⟨⟩
end PySem.W.Fast
end
set_option maxRecDepth 100000 in
set_option maxHeartbeats 0 in
theorem PySem.Challenge.cw_copymeet_k74_written_and_cut_holds : PySem.Challenge.rw_copymeet_k74_written_and_cut.Holds := by
 w_on; o_law; k_head; (case hw=>w_witness2)
 k_fill
 refine K74.walk (l:=PySem.Challenge.rw_copymeet_k74_written_and_cut) rfl rfl (fun w h Y=>PySem.W.kIn_of Y) ?F
 case F=>
  intro w mg fa h KX G hmg
  have hbn:∀ x∈K74.bsL,mg x=none:=fun x hx=>by
   iterate 11 (rcases List.mem_cons.mp hx with rfl | hx; · exact PySem.W.mg_none_of KX G (by k_is))
   cases hx
  refine' K74.all_mk KX G hmg hbn ?h0 ?h1 ?h2 ?h3 ?h4 ?h5 ?h6 ?h7 ?h8 ?h9 ?h10 ?h11 ?h12 ?h13 ?h14 ?h15 ?h16 ?h17 ?h18 ?h19 ?h20
  (case h0=>repeat' first | exact trivial | refine ⟨⟨_,by k_is,_,_,_,_,_,_,_,_,_,by k_is,by k_is,by k_is⟩,?_⟩)
  (case h1=>exact ⟨by k_is,by k_is,by k_is,by k_is,by k_is,by k_is,by k_is,by k_is,by k_is,by k_is,by k_is,by k_is,by k_is,by k_is,by k_is,by k_is,by k_is,by k_is,by k_is,by k_is,trivial⟩)
  (case h2=>repeat' first | exact trivial | refine ⟨⟨_,by k_is,by k_is,_,_,_,_,_,_,_,_,_,by k_is,by k_is,by k_is⟩,?_⟩)
  (case h3=>exact ⟨by k_is,by k_is,by k_is,by k_is,by k_is,by k_is,by k_is,by k_is,by k_is,by k_is,by k_is,by k_is,by k_is,by k_is,by k_is,by k_is,by k_is,by k_is,by k_is,by k_is,trivial⟩)
  (case h4=>repeat' first | exact trivial | refine ⟨⟨_,by k_is,by k_is,_,_,_,_,_,_,_,_,_,by k_is,by k_is,by k_is⟩,?_⟩)
  (case h5=>exact ⟨by k_is,by k_is,by k_is,by k_is,by k_is,by k_is,by k_is,by k_is,by k_is,by k_is,by k_is,by k_is,by k_is,by k_is,by k_is,by k_is,by k_is,by k_is,by k_is,by k_is,trivial⟩)
  (case h6=>repeat' first | exact trivial | refine ⟨⟨_,by k_is,by k_is,_,_,_,_,_,_,_,_,_,by k_is,by k_is,by k_is⟩,?_⟩)
  (case h7=>exact ⟨by k_is,by k_is,by k_is,by k_is,by k_is,by k_is,by k_is,by k_is,by k_is,by k_is,by k_is,by k_is,by k_is,by k_is,by k_is,by k_is,by k_is,by k_is,by k_is,by k_is,trivial⟩)
  (case h8=>repeat' first | exact trivial | refine ⟨⟨_,by k_is,by k_is,_,_,_,_,_,_,_,_,_,by k_is,by k_is,by k_is⟩,?_⟩)
  (case h9=>exact ⟨by k_is,by k_is,by k_is,by k_is,by k_is,by k_is,by k_is,by k_is,by k_is,by k_is,by k_is,by k_is,by k_is,by k_is,by k_is,by k_is,by k_is,by k_is,by k_is,by k_is,trivial⟩)
  (case h10=>repeat' first | exact trivial | refine ⟨⟨_,by k_is,by k_is,_,_,_,_,_,_,_,_,_,by k_is,by k_is,by k_is⟩,?_⟩)
  (case h11=>exact ⟨by k_is,by k_is,by k_is,by k_is,by k_is,by k_is,by k_is,by k_is,by k_is,by k_is,by k_is,by k_is,by k_is,by k_is,by k_is,by k_is,by k_is,by k_is,by k_is,by k_is,trivial⟩)
  (case h12=>repeat' first | exact trivial | refine ⟨⟨_,by k_is,by k_is,_,_,_,_,_,_,_,_,_,by k_is,by k_is,by k_is⟩,?_⟩)
  case h13|h14|h17|h18=>k_is
  (case h15=>exact ⟨rfl,⟨_,rfl⟩,⟨_,rfl⟩,rfl,⟨_,rfl⟩,⟨_,rfl⟩,rfl,⟨_,rfl⟩,⟨_,rfl⟩,rfl,⟨_,rfl⟩,⟨_,rfl⟩,rfl,⟨_,rfl⟩,⟨_,rfl⟩,rfl,⟨_,rfl⟩,⟨_,rfl⟩,rfl,⟨_,rfl⟩,⟨_,rfl⟩,rfl,⟨_,rfl⟩,⟨_,rfl⟩,trivial⟩)
  (case h16=>decide +kernel)
  (case h19=>exact (.cons ⟨_,rfl⟩ (.cons ⟨_,rfl⟩ .nil)))
  (case h20=>decide +kernel)
