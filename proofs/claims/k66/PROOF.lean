import PyProof.Rows.All
import Wide.All
import OpenK.AllK
import Wide.FinOn
import Lean
import PyProof.EqAt
import PyProof.EqKinds
import PyProof.TupleCall
import PyProof.NeKinds
import KE.KDictOf
import PyProof.AttrMissHeap
import PyProof.WalksMore
import PyProof.MeetsDict
import KE.KDictList
import KE.KRevIter
import PyProof.DictItemsLoops
import PyProof.DictWalks
import KE.KSortTup
import KE.KDictSum
import PyProof.SumAny
import PyProof.Conv_int_bool
import PyProof.Conv_int
import KE.KRevSl
import PyProof.MeetsStr
import PyProof.StrCalls3
import PyProof.Rows.TupDisplay
import PyProof.ZipIter
import PyProof.Draws
import PyProof.EnumMake
import PySem.Challenge.RW_copymeet_k66_sums_and_choices_of_deeds
set_option compiler.extract_closed false
open PySem renaming wpAny_bind->SB,wpAny_pure->SL,sizeLine->U9,starEach->Vg,wpAny_newObj_type->Vk,wpAny_callSpecial?_slot->Vy,wpAny_call_entry->Vz,compareOp->VC,Spec->VG,wpAny_holding->VJ,sizeLine_eq->VN,cellsFrom->V3,mainGlobals->Wb,wpAny_Call_Name_kw->Wd,sysModules->We,wpAny_isInstance->Wl,wpAny_dictEntries->Wp,wpAny_ite_false->Ww,binaryOp->Wx,wpAny_mono->Wz,foldedSetIterable->WA,FuncData->WN,wpAny_attempt->WV,wpAny_fieldsOf->WW,firstArgMember->WY,builtinLookup_eq_fast->W1,wpAny_dictEpoch->W2,wpAny_typeNameOfWhole_itemiter->W4,wpAny_typeNameOfWhole_valiter->W8,wpAny_of_eq->W9,wpAny_typeNameOfWhole_keyiter->Xa,attributeBase->Xb,wpAny_specialOf->Xj,codeAny_builtin->Xk,assignEach->Xn,bootBuiltins->Xp,wpAny_typeOf->Xr,DictEntry->Xs,wpAny_notOrdered_dict->Xw,wpAny_setField->XC,wpAny_typeNameOf_itemiter->XD,wpAny_passesOwn->XF,wpAny_truthy_bool->XH,wpAny_rule->XN,wpAny_pyIter_slot->XT,wpAny_typeNameOf_valiter->XU,wpAny_setState_of->XW,wpAny_typeNameOf_keyiter->XY,mem_of_lookup->X1,plainId_quiet->X4,SetTable->X5,wpAny_setEntries_of->X7,NameKind->Yd,tupleKind_room_in1->Ye,typeLookup_type->Yk,wpAny_askSetting->Yx,wpAny_field->YA,swapsWith->YE,setField->YH
open List renaming getElem?_eq_some_iff->SC,mem_cons_self->UV,length_map->U2,mem_cons_of_mem->U4,mem_cons->U5,size_toArray->U6,prefix_rfl->U7,mem_singleton->Va,mem_append_right->Vb,map_cons->Vd,getElem?_map->Vf,range->Vi,mem_map->Vl,pairwise_cons->Vp,all_eq_true->Vs,prefix_append->Vv,mem_append->Vx,lookup_cons->VB,getElem?_set_ne->VD,mem_of_getElem?->VE,map_map->VF,getElem?_eq_getElem->VH,length_cons->VI,map_append->VP,getElem?_append_left->VR,length_take->VT,getElem?_set_self->VW,pairwise_map->VZ,filterMap_cons->V1,mem_filter->V2,getElem_mem->V5,filter_cons->V6,pairwise_iff_getElem->V8,nodup_cons->Wh,map_congr_left->Wj,getElem?_cons_succ->Wn,ext_getElem?->Wo,getElem?_append_right->Wq,getD_eq_getElem?_getD->Wr,mem_append_left->Ws,length_set->Wv,length_append->WG,take_add_one->WS,append_nil->WZ,find?_cons->W0,length_filter_le->W5,mem_range->Xd,nodup_append->Xg,take_of_length_le->Xm,take_length->Xo,toArray->Xu,getElem?_eq_none->Xy,replicate->Xz,length_range->XR,not_lt->X3,pairwise_singleton->X6,length_reverse->X8,filter_sublist->X9,eq_nil_of_length_eq_zero->Ya,range_succ_eq_map->Yb,lookup->Yf,all_cons->Ym,any_cons->Yn,append_assoc->Yp,length_drop->Yu,cons_append->Yv,ext_getElem->Yy,map_take->YJ
open PySem.Heap renaming get?_push_of_some->SZ,get?_push_size->U3,lt_size->U8,get?_update_self->VS,get?_update_other->Wc,SameBut->Wy,size_push->Xe,get?_push_ne->XO,size_update->Yw
open PySem.W renaming Frag->UF,findIn->V7,emptyDict->WB,fnOf->WM,keepIn->WU,instObj->Xi,mg_of->X2,plainGet->Yt,codeIn->YN,nsIn->YQ
open Nat renaming le_refl->U1,ne_of_lt->Vc,lt_of_lt_of_le->Vo,zero_le->Vr,le_trans->VO,lt_or_eq_of_le->WI,ne_of_gt->WL,lt_irrefl->WT,le_of_lt->Xq,lt_succ_of_lt->XQ,le_succ_of_le->XS,le_succ->Yz,lt_trans->YC
open Bool renaming false_ne_true->Ve,and_eq_true->VA,false_eq_true->VL,eq_iff_iff->WE,beq_eq_decide_eq->Yl
open PySem.Str renaming ofString->Vh,length->XM
open PySem.Value renaming none->Vj,ref->Vt,int->Wg,type->WO
open Array renaming getElem?_eq_getElem->Vm,getElem?_eq_none->VM,getElem?_toList->V0,length_toList->X0,getD->YL
open Option renaming map_eq_some_iff->Vn,isSome_some->YF,map_some->YK
open Option.some renaming inj->Vq
open PySem.Heap.SameBut renaming update->Vu
open PySem.Obj renaming mapSeq->Vw,mapFields->WX,data_mapFields->W6,isFreed_of_fields->Xx
open PySem.Builtin.Dict_items renaming ownsTuple->VQ
open PySem.Paired renaming length->VU
open PySem.NameKind renaming free->VV,cell->YG
open PyProof.Rows renaming slot_tuple_getitem->VX,callWith_type1->Wi,listUpdate_at->Xv,mirror_perm->Yi,get?_update_seq->Yj
open PySem.Builtin.List renaming listExtendWith->VY,listLengthHint->WJ,listSameRef->W7,listTouch->Yc,listTooLong->YB
open PySem.F renaming slot_dict_itemiterator_next->V4,slot_dict_valueiterator_next->Wt,slot_dict_keyiterator_next->WD,plainAttrs_dict->Xc,slot_dict_get->Xt,called_set->YD
open PySem.Builtin.Tuple renaming tupleHashOf->V9,tupleExact->XJ,tupleItemsOf->Yr
open Sum renaming inr->Wa
open PySem.SetTable renaming fresh->Wm,below->XE,grown->YO
open Ne renaming symm->Wu
open PySem.Txt renaming slice->WC
open Classical renaming propDecidable->WH
open PySem.Around renaming under_plainId->WK
open False renaming elim->WQ
open True renaming intro->WR
open PySem.Builtin.Dict renaming showsAll->W3
open PyProof.Rows.F renaming plain_set_update_loop->Xf
open Int renaming toNat_natCast->Xh,emod_nonneg->YI
open PySem.Calls renaming callWith_builtin->Xl
open PySem.Builtin.Slice renaming slicePlaces->XA,sliceAdjust->Ys
open List.Perm renaming refl->XB,eq_of_pairwise->XX
open List.Nodup renaming length_le_of_subset->XZ
open PySem.Builtin.Str renaming strSliceIndices->Yg,glued->YM
open Array.Perm renaming refl->Yh
open List.Pairwise renaming nil->Yo
open Function renaming comp_def->Yq
open PySem PySem.Spec PyProof.Rows
open Option renaming some->a_,none->b_
open PySem renaming Value->s_,Shared->td,Addr->t_,Around->v_,Heap->w_,World->x_,Program->y_,Expr->z_,Stmt->A_

local macro_rules|`(tactic|omega)=>`(tactic|lia)
local macro_rules|`(c_ $x)=>`(some (.ref $x))
local macro_rules|`(d_ $x)=>`(some (.int $x))
local macro_rules|`(h_ $x)=>`(PySem.model ($x).prog ($x).w)
local macro_rules|`(e_ $x)=>`(($x).heap.objs.size)
local macro_rules|`(f_ 0)=>`(PySem.Value->PySem.Shared->Prop)
local macro_rules|`(g_ 0)=>`(List (PySem.Addr×PySem.Obj))
local macro_rules|`(j_ $x)=>`($x->PySem.Shared->Prop)
local macro_rules|`(m_ $p $w $x*)=>`(PySem.wpAny (PySem.model $p $w) $x*)
local macro_rules|`(l_ $x)=>`(by simpa using $x)
local macro_rules|`(⋯)=>`(by omega)
local macro_rules|`(nofun)=>`(by decide)
local macro_rules|`(n_ 0)=>`(Array (Option PySem.Value))
local macro_rules|`(o_ 0)=>`(PySem.Str->Option PySem.Value)
open Lean Parser Tactic in
def p_:Nat->Syntax->MacroM (TSyntax `rcasesPat)
|n+1,s=>match s with
 |`($x:ident)=>`(rcasesPat|$x:ident)
 |`(⟨$xs,*⟩)=>do
  let ys<-xs.getElems.mapM λx=>do`(rcasesPatLo|$(<-p_ n x):rcasesPat)
  `(rcasesPat|⟨$ys,*⟩)
 |_=>`(rcasesPat|_)
|_,_=>Macro.throwUnsupported
open Lean Parser Tactic in
local macro_rules|`(tactic|let $p:term:=$e)=>do let q<-`(rcasesPatMed|$(<-p_ 9 p):rcasesPat);`(tactic|obtain $q:rcasesPatMed:=$e)
local macro_rules|`(B_ $x)=>`(List $x)
local macro_rules|`(C_ $x)=>`(Option $x)
set_option bootstrap.genMatcherCode false
set_option Elab.async false
set_option linter.all false
set_option maxRecDepth 1000000
set_option maxHeartbeats 4000000
set_option hygiene false
noncomputable section
set_option genSizeOf false
local macro_rules|`(tactic|let $x:ident:=$e)=>`(tactic|have $x:ident:=$e)
local macro_rules|`(tactic|let $x:ident : $t :=$e)=>`(tactic|have $x:ident : $t :=$e)
local macro_rules|`(tactic|show $e)=>`(tactic|exact $e)
set_option hygiene false
local macro_rules|`(i_ $x*)=>`(Inv X jn σ $x*)
local macro_rules|`(k_ $x*)=>`(aB vAt $x*)
local macro_rules|`(r_ $x*)=>`(m_ prog w A $x*)
local macro_rules|`(u_ $x*)=>`(wpAny _ _ $x*)
local macro_rules|`(D_ $x*)=>`(RV C φ H $x*)
local macro_rules|`(E_ $x*)=>`(RVs C φ H $x*)
local macro_rules|`(F_ $x*)=>`(Ext.app _ $x*)
local macro_rules|`(G_ $x*)=>`(SE C k X $x*)
local macro_rules|`(H_ $x*)=>`(tC P w K mg base cl $x*)
local macro_rules|`(I_ $x*)=>`(tM P w K mg base cl $x*)
local macro_rules|`(J_ $x*)=>`(RH C φ H $x*)
local macro_rules|`(K_ $x*)=>`(evT lt $x*)
local macro_rules|`(L_ $x*)=>`(cI X.prog X.w X.K X.mg X.base $x*)
local macro_rules|`(M_ $x*)=>`(cI X.prog X.w C.K X.mg X.base CX0 j $x*)
local macro_rules|`(N_ 0)=>`(s.heap.get? b)
local macro_rules|`(O_ $x*)=>`(Ext h $x*)
local macro_rules|`(P1 $x*)=>`(i_ H $x*)
local macro_rules|`(P2 $x*)=>`(post C φ H $x*)
local macro_rules|`(P_ $x*)=>`(po.val rh $x*)
local macro_rules|`(Q_ 0)=>`(re.mono p1 t1)
local macro_rules|`(R_ $x*)=>`(FB h a0 l lt lm lf ll $x*)
local macro_rules|`(S1 $x*)=>`(upd H $x*)
local macro_rules|`(S2 $x*)=>`(X.comp sc $x*)
local macro_rules|`(S_ $x*)=>`(iF X.env.cells sc.names $x*)
local macro_rules|`(T_ 0)=>`(X.env.cells.lookup x)
local macro_rules|`(U_ 0)=>`(eval e X.env)
local macro_rules|`(V_ 0)=>`(X.env.scope.names.lookup x)
local macro_rules|`(W_ 0)=>`(Vg es X.env)
local macro_rules|`(X_ $x*)=>`(s.heap.update a $x*)
local macro_rules|`(YR $x*)=>`(HT.sIx xs.length $x*)
local macro_rules|`(YS 0)=>`(if_pos rfl)
local macro_rules|`(YT $x*)=>`(sIx items.size $x*)
local macro_rules|`(YU $x*)=>`(t2 w0 $x*)
local macro_rules|`(YV 0)=>`(Array s_)
local macro_rules|`(YW $x*)=>`(rh.at' n a _ ha $x*)
local macro_rules|`(YX 0)=>`(D.depths ds)
local macro_rules|`(YY $x*)=>`(t1 w0 $x*)
local macro_rules|`(YZ $x*)=>`(backTo pos $x*)
local macro_rules|`(Y0 $x*)=>`(OpS C k X $x*)
local macro_rules|`(Y1 $x*)=>`(aF kvs $x*)
local macro_rules|`(Y2 $x*)=>`(Cxt C k $x*)
local macro_rules|`(Y3 $x*)=>`(OpR X $x*)
local macro_rules|`(Y4 0)=>`(B_ PV)
local macro_rules|`(Y5 0)=>`(RE C φ H δ σ)
local macro_rules|`(Y6 $x*)=>`(EP X jn σ $x*)
local macro_rules|`(Y7 $x*)=>`(katRev b $x*)
local macro_rules|`(Y8 $x*)=>`(pa' p $x*)
local macro_rules|`(Y9 0)=>`(pv root)
local macro_rules|`(Y_ 0)=>`(s.heap.get? a)
local macro_rules|`(Za 0)=>`(U3 _ rfl)
local macro_rules|`(Zb 0)=>`(Array Nat)
local macro_rules|`(Zc 0)=>`(sc.names.lookup x)
local macro_rules|`(Zd 0)=>`(cvB e.seen c.nm)
local macro_rules|`(Ze 0)=>`(h'.get? b)
local macro_rules|`(Zf 0)=>`(B_ Str)
local macro_rules|`(Zg $x*)=>`(h jn s σ H $x*)
local macro_rules|`(Zh $x*)=>`(RKv C φ H $x*)
local macro_rules|`(Zi $x*)=>`(RH C φ' H' $x*)
local macro_rules|`(Zj 0)=>`(RH C φ1 H1 h1)
local macro_rules|`(Zk 0)=>`(vs.getD i Vj)
local macro_rules|`(Zl $x*)=>`(aB vEq $x*)
local macro_rules|`(Zm $x*)=>`(FB h' h.length h.length lt lm lf ll $x*)
local macro_rules|`(Zn $x*)=>`(SZ _ $x*)
local macro_rules|`(Zo $x*)=>`(xQ CX P w K mg base N qual scope f $x*)
local macro_rules|`(Zp 0)=>`(if_neg e)
local macro_rules|`(Zq 0)=>`(B_ Key)
local macro_rules|`(Zr $x*)=>`(PE X $x*)
local macro_rules|`(Zs 0)=>`(S2 N C fp s₀ H₀)
local macro_rules|`(Zt 0)=>`(s.heap.get? dc)
local macro_rules|`(Zu 0)=>`(c_ h.length)
local macro_rules|`(Zv 0)=>`(ns.map PV.int)
local macro_rules|`(Zw $x*)=>`(slotAt w t $x*)
local macro_rules|`(Zx $x*)=>`(Kp H $x*)
local macro_rules|`(Zy $x*)=>`(kas_asc p $x*)
local macro_rules|`(Zz $x*)=>`(SSt C k X $x*)
local macro_rules|`(ZA $x*)=>`(Binds X.K fd ps $x*)
local macro_rules|`(ZC $x*)=>`(aB aR $x*)
local macro_rules|`(ZD 0)=>`(if_neg nofun)
local macro_rules|`(ZE $x*)=>`(SqT K H $x*)
local macro_rules|`(ZF $x*)=>`(RelV x $x*)
local macro_rules|`(ZG $x*)=>`(RelV v $x*)
local macro_rules|`(ZH 0)=>`(ha pos jn s σ H _ I h)
local macro_rules|`(ZI 0)=>`(Rs Bool)
local macro_rules|`(ZJ $x*)=>`(cvB d.seen $x*)
local macro_rules|`(ZK $x*)=>`(kas_place p k $x*)
local macro_rules|`(ZL $x*)=>`(h.set n $x*)
local macro_rules|`(ZM 0)=>`(B_ s_)
local macro_rules|`(ZN 0)=>`(sv d.seen)
local macro_rules|`(ZO 0)=>`(ns.map V.int)
local macro_rules|`(ZP 0)=>`(eval o X.env)
local macro_rules|`(ZQ $x*)=>`(cN b vs.length $x*)
local macro_rules|`(ZR 0)=>`(E_ xs vs)
local macro_rules|`(ZS 0)=>`(I.tok _)
local macro_rules|`(ZT $x*)=>`(SqL K H $x*)
local macro_rules|`(ZU $x*)=>`(envOfC qual scope $x*)
local macro_rules|`(ZV $x*)=>`(Inv X jn σ' H' $x*)
local macro_rules|`(ZW 0)=>`(t.fits es.size)
local macro_rules|`(ZX 0)=>`(ds.map dP)
local macro_rules|`(ZY $x*)=>`(wiS w0 v R $x*)
local macro_rules|`(Z0 0)=>`(zs.map PV.str)
local macro_rules|`(Z1 0)=>`(xs.map PV.int)
local macro_rules|`(Z2 0)=>`(C_ Int)
local macro_rules|`(Z3 0)=>`(mk2 w0)
local macro_rules|`(Z4 0)=>`(model prog w)
local macro_rules|`(Z5 0)=>`(if_pos e)
local macro_rules|`(Z6 $x*)=>`(HOk P w H $x*)
local macro_rules|`(Z7 $x*)=>`(cI P w K mg base $x*)
local macro_rules|`(Z8 0)=>`(B_ Int)
local macro_rules|`(Z9 $x*)=>`(isD X.K H $x*)
local macro_rules|`(Z_ $x*)=>`(kas_rev p $x*)
local macro_rules|`(q0a $x*)=>`(s.heap.update it $x*)
local macro_rules|`(q0b 0)=>`(RKd C φ H kvs ks)
local macro_rules|`(q0c 0)=>`(WA iter X.env x)
local macro_rules|`(q0d 0)=>`(kas_descPart n nrem p)
local macro_rules|`(q0e 0)=>`(ha jn s σ H _ I h)
local macro_rules|`(q0f $x*)=>`(IsTup s.heap $x*)
local macro_rules|`(q0g 0)=>`(YT items.size hi)
local macro_rules|`(q0h 0)=>`(jU w a ep es)
local macro_rules|`(q0i 0)=>`(c_ h0.length)
local macro_rules|`(q0j $x*)=>`(cD X.prog X.w $x*)
local macro_rules|`(q0k 0)=>`(Heap.ExtBut it s.heap h')
local macro_rules|`(tactic|rfl')=>`(tactic|refine now ?_)
local macro_rules|`(def $i:declId $s:optDeclSig $v:declVal)=>do let t:Lean.TSyntax ``Lean.Parser.Command.declSig:=⟨.node .none ``Lean.Parser.Command.declSig #[s.raw[0],s.raw[1][0]]⟩;let c<-`(theorem $i:declId $t $v:declVal);pure (c.raw.rewriteBottomUp (·.setInfo .none))
local macro_rules|`(abbrev $i:declId $s:optDeclSig $v:declVal)=>do let c<-`(noncomputable def $i:declId $s:optDeclSig $v:declVal);pure (c.raw.rewriteBottomUp (·.setInfo .none))
set_option tactic.hygienic false
namespace L2
@[reducible]def Key:=Sum Int Str
abbrev uJ:Key->s_->Bool
 |.inl k,v=>Value.isInt k v
 |.inr x,v=>Value.isStrOf x v
abbrev Lw(w:x_):Key->Int
 |.inl k=>hashInt k
 |.inr x=>hashStr w x
def bM:∀{k:Key}{v:s_},uJ k v=true->(∃i t,k=Sum.inl i/\v=Wg i t)\/(∃x t,k=Wa x/\v=Value.str x t)
 |.inl i,v,h=>by let⟨t,e⟩:=Value.isInt_shape (k:=i) (v:=v) h;show .inl ⟨i,t,rfl,e⟩
 |.inr x,v,h=>by let⟨t,e⟩:=Value.isStrOf_shape (x:=x) (v:=v) h;show .inr ⟨x,t,rfl,e⟩
def EK(i:Int)(t:Tok):uJ (.inl i) (.int i t)=true:=by simp[uJ,Value.isInt]
def EL(x:Str)(t:Tok):uJ (.inr x) (.str x t)=true:=by simp[uJ,Value.isStrOf]
def Lx(a b:Int):decide ((Sum.inl a:Key)=Sum.inl b)=(a == b):=by
 by_cases e:a=b
 ·subst e;simp
 ·let h:¬ (Sum.inl a:Key)=Sum.inl b:=λq=>e<|Sum.inl.inj q;rw[decide_eq_false h];show(beq_eq_false_iff_ne.mpr e).symm
def Ly(a b:Str):decide ((Wa a:Key)=Wa b)=decide (a=b):=by
 by_cases e:a=b
 ·subst e;simp
 ·let h:¬ (Wa a:Key)=Wa b:=λq=>e<|Sum.inr.inj q;rw[decide_eq_false h,decide_eq_false e]
def Lz(a:Int)(b:Str):decide ((Sum.inl a:Key)=Wa b)=false:=decide_eq_false<|λq=>nomatch q
def LA(a:Str)(b:Int):decide ((Wa a:Key)=Sum.inl b)=false:=decide_eq_false<|λq=>nomatch q
abbrev bA(prog:y_)(w:x_):PySem.KeyKind prog w Key where
 is:=uJ
 hash:=Lw w
 inj:=λv a b ha hb=>by
  rcases bM ha with⟨i,t,rfl,rfl⟩|⟨x,t,rfl,rfl⟩
  ·rcases bM hb with⟨j,u,rfl,e⟩|⟨y,u,rfl,e⟩
   ·injection e with e1 _;rw[e1]
   ·show nomatch e
  ·rcases bM hb with⟨j,u,rfl,e⟩|⟨y,u,rfl,e⟩
   ·show nomatch e
   ·injection e with e1 _;rw[e1]
 byValue:=λk v h=>by rcases bM h with⟨i,t,rfl,rfl⟩|⟨x,t,rfl,rfl⟩ <;> rfl
 pyHash:=λhv h=>by
  rcases bM hv with⟨i,t,rfl,rfl⟩|⟨x,t,rfl,rfl⟩
  ·show wpAny_pyHash_int h
  ·show wpAny_pyHash_str h
 eqBool:=λhu hv h=>by
  rcases bM hu with⟨i,t,rfl,rfl⟩|⟨x,t,rfl,rfl⟩
  ·rcases bM hv with⟨j,u,rfl,rfl⟩|⟨y,u,rfl,rfl⟩
   ·rw[Lx]at h;show wpAny_eqBool_int h
   ·rw[Lz]at h;show SeqAt.EqAt.int_str i t y u _ _ _ _ h
  ·rcases bM hv with⟨j,u,rfl,rfl⟩|⟨y,u,rfl,rfl⟩
   ·rw[LA]at h;show SeqAt.EqAt.str_int x t j u _ _ _ _ h
   ·rw[Ly]at h;show wpAny_eqBool_str h
 «strs»:=λk x t v h=>by
  rcases bM h with⟨i,u,rfl,e⟩|⟨y,u,rfl,e⟩
  ·show nomatch e
  ·injection e with e1 _;subst e1;cases v <;> rfl
def B3(prog:y_)(w:x_)(i:Int)(t:Tok):(bA prog w).is (.inl i) (.int i t)=true:=EK i t
def sM(prog:y_)(w:x_)(x:Str)(t:Tok):(bA prog w).is (.inr x) (.str x t)=true:=EL x t
inductive V where
 |non|bl (b:Bool)|int (i:Int)|str (x:Str)|byt (b:Array UInt8)|flt (b:UInt64)|ref (a:Addr)|ty (n:String)
 deriving DecidableEq
abbrev RelV:V->s_->Prop
 |.non,u=>u=Vj
 |.bl b,u=>u=Value.bool b
 |.int i,u=>∃t,u=Wg i t
 |.str x,u=>∃t,u=Value.str x t
 |.byt b,u=>∃t,u=Value.bytes b t
 |.flt b,u=>∃t,u=Value.float b t
 |.ref a,u=>u=Vt a
 |.ty n,u=>u=WO n
@[reducible]def aK:B_ V->ZM 0->Prop:=Paired RelV
variable{us:ZM 0}
def aK.length{xs:B_ V}(r:aK xs us):xs.length=us.length:=VU r
def aK.get:∀{xs:B_ V}{us:ZM 0}{i:Nat}{x:V},aK xs us->xs[i]?=a_ x->∃u,us[i]?=a_ u/\ZF u
 |_,_,_,_,.nil,e=>by simp at e
 |_,_,0,_,.cons r _,e=>by simp at e;subst e;show⟨_,rfl,r⟩
 |_,_,i+1,x,.cons _ t,e=>by
  let⟨u,h1,h2⟩:=aK.get (i:=i) (x:=x) t<|l_ e;show⟨u,l_ h1,h2⟩
variable{u:s_}
def aK.set{x:V}(r:ZF u):∀{xs:B_ V}{us:ZM 0}(i:Nat),aK xs us->aK (xs.set i x) (us.set i u)
 |_,_,_,.nil=>.nil
 |_,_,0,.cons _ t=>.cons r t
 |_,_,i+1,.cons q t=>.cons q (aK.set r i t)
def aK.append:∀{xs ys:B_ V}{us ws:ZM 0},aK xs us->aK ys ws->aK (xs++ys) (us++ws)
 |_,_,_,_,.nil,s=>s
 |_,_,_,_,.cons r t,s=>.cons r (aK.append t s)
def aK.take:∀{xs:B_ V}{us:ZM 0}(n:Nat),aK xs us->aK (xs.take n) (us.take n)
 |_,_,0,_=>.nil
 |_,_,_+1,.nil=>.nil
 |_,_,n+1,.cons r t=>.cons r (aK.take n t)
def aK.drop:∀{xs:B_ V}{us:ZM 0}(n:Nat),aK xs us->aK (xs.drop n) (us.drop n)
 |_,_,0,r=>r
 |_,_,_+1,.nil=>.nil
 |_,_,n+1,.cons _ t=>aK.drop n t
abbrev lO:C_ V->C_ s_->Prop
 |some v,a_ u=>ZG u
 |none,b_=>True
 |_,_=>False
abbrev KV{κ:Type}:B_ (κ×V)->B_ (κ×s_)->Prop:=Paired λ(p:κ×V)(q:κ×s_)=>p.1=q.1/\RelV p.2 q.2
abbrev kV:Key->V
 |.inl i=>.int i
 |.inr x=>.str x
inductive HO where
 /-- a list -/
 |lst (xs:B_ V)
 /-- a tuple (never changes) -/
 |tup (xs:B_ V)
 /-- a dict whose keys are ints and texts;one whose keys are tuples of ints and texts (the empty one is both) -/
 |dK (kvs:B_ (Key×V))|dT (kvs:B_ (B_ Key×V))
 /-- a set of ints: its members,its size -/
 |set (S:Int->Bool) (n:Nat)
 /-- an instance of the class at C,its dict at dx,its attributes -/
 |ins (C dx:Addr) (fs:B_ (Str×V))
 /-- the dict of the instance at x -/
 |own (x:Addr)
 /-- the dict of an exception -/
 |xd (fs:B_ (Str×V))
 /-- a bound method,f of x -/
 |met (f x:Addr)
 /-- a range object lo,lo+1,.. below hi -/
 |rng (lo hi:Int)
 /-- a thing that is known to the object (the script;a dict while a loop walks it): read,never written while it is so -/
 |frz (o:Obj) (u:HO)
 /-- a code object's table -/
 |tbl (ps:Array Value)
 /-- any other thing,by what is true of its one object (a def of one's own: SetO a S n:=HO.ext λh=>..) -/
 |ext (φ:Heap->Prop)
@[reducible]def Hp:=t_->C_ HO
abbrev upd(H:Hp)(a:t_)(o:HO):Hp:=λb=>if b=a then a_ o else H b
variable{H:Hp}{a:t_}
def aL{o:HO}:S1 a o a=a_ o:=by unfold upd;rw[YS 0]
def aH{b:t_}{o:HO}(h:b≠a):S1 a o b=H b:=by unfold upd;rw[if_neg h]
def O0{b:t_}{o u:HO}(h:H a=a_ o)(h':H b=a_ u)(d:o≠u):a≠b:=by intro e;subst e;rw[h]at h';show d<|Vq h'
def cR{b:t_}{o:HO}(h:H a=a_ o)(h':H b=b_):a≠b:=by intro e;subst e;rw[h]at h';cases h'
abbrev tL(h:w_)(a:t_)(items:YV 0):Prop:=∃o,h.get? a=a_ o/\o.cls=.type "tuple" /\ (∃n,o.data=.seq items n)/\o.dict=b_
variable{items:YV 0}
def tL.is{h:w_}(x:tL h a items):PyProof.Rows.IsTup h a items:=let ⟨o,h1,h2,h3,_⟩:=x;⟨o,h1,h2,h3⟩
def tL.lt{h:w_}(x:tL h a items):a<h.objs.size:=let ⟨_,h1,_⟩:=x;U8 h1
def tL.new(h:w_)(items:YV 0):tL (h.push {cls:=.type "tuple",data:=.seq items 0}) h.objs.size items:=⟨_,Za 0,rfl,⟨_,rfl⟩,rfl⟩
section
variable(P:y_)(w:x_)
abbrev cD(H:Hp)(h:w_)(a:t_):HO->Prop
 |.lst xs=>xs.length<=U9/\∃(its:ZM 0)(n:Nat),aK xs its/\h.get? a=a_ {cls:=.type "list",data:=.seq its.toArray n}
 |.tup xs=>xs.length<=U9/\∃its:ZM 0,aK xs its/\tL h a its.toArray
 |.dK kvs=>kvs.length<=U9/\(a == We)=false/\∃vs,KV kvs vs/\h.DictOf (bA P w) a vs
 | .dT kvs=>kvs.length<=U9/\(a == We)=false/\∃ xs:B_ (Zq 0×t_×s_),
   Paired (λ(p:Zq 0×V)(q:Zq 0×t_×s_)=>p.1=q.1/\H q.2.1=a_ (.tup<|p.1.map kV)/\RelV p.2 q.2.2) kvs xs/\
   ∃o es ep,h.get? a=a_ o/\o.ExactDict/\o.data=.dict es ep/\es.toList=xs.map (entryOfKey<|tupleKind<|bA P w)/\(xs.map (·.1)).Nodup
 |.set S n=>h.SetOf (intKind P w) a S n
 | .ins C dx fs=>H dx=a_ (.own a)/\fs.length<=1000/\dx≠a/\h.get? a=a_ (Xi C dx)/\
   ∃mA,h.Ns1 dx mA/\(∀f,lO (fs.lookup f)<|mA f)/\PySem.Within mA (fs.map (·.1))
 |.own _=>∃o,h.get? a=a_ o
 |.xd fs=>∃mA,h.Ns1 a mA/\∀f,lO (fs.lookup f)<|mA f
 |.rng lo hi=>∃t u v,h.get? a=a_ {cls:=.type "range",data:=.fields #[.int lo t,.int hi u,.int 1 v]}
 |.frz o u=>h.get? a=a_ o/\cD H h a u
 |.tbl ps=>h.get? a=a_ {cls:=.none,data:=.fields ps}
 |.met f x=>h.get? a=a_ (PySem.W.methodObj (.ref f)<|.ref x)
 |.ext φ=>φ h/\(∃o,h.get? a=a_ o)/\∀h1 h2:w_,φ h1->(∀o,h1.get? a=a_ o->h2.get? a=a_ o)->φ h2
abbrev HOk(H:Hp)(h:w_):Prop:=∀a o,H a=a_ o->cD P w H h a o
end
variable{P:y_}{w:x_}
def cD.lt{h:w_}{o:HO}(x:cD P w H h a o):a<h.objs.size:=by
 cases o with
 |lst xs=>let⟨_,_,_,_,e⟩:=x;show U8 e
 |tup xs=>let⟨_,_,_,p⟩:=x;show tL.lt p
 |dK kvs=>let⟨_,_,_,_,o,_,_,e,_⟩:=x;show U8 e
 |dT kvs=>let⟨_,_,_,_,o,_,_,e,_⟩:=x;show U8 e
 |set S n=>let⟨o,_,_,_,e,_⟩:=x;show U8 e
 |ins C dx fs=>let⟨_,_,_,e,_⟩:=x;show U8 e
 |own y=>let⟨_,e⟩:=x;show U8 e
 |xd fs=>let⟨_,⟨_,_,_,e,_⟩,_⟩:=x;show U8 e
 |rng lo hi=>let⟨_,_,_,e⟩:=x;show U8 e
 |frz ob u=>let⟨e,_⟩:=x;show U8 e
 |tbl ps=>exact U8 (show h.get? a=a_ _ from x)
 |met f y=>exact U8 (show h.get? a=a_ _ from x)
 |ext φ=>let⟨_,⟨_,e⟩,_⟩:=x;show U8 e
def Paired.mapP{α β:Type}{F G:α->β->Prop}:∀{l₁:B_ α}{l₂:B_ β},Paired F l₁ l₂->(∀a b,F a b->G a b)->Paired G l₁ l₂
 |_,_,.nil,_=>.nil
 |_,_,.cons r t,f=>.cons (f _ _ r) (Paired.mapP t f)
variable{H':Hp}{h':w_}
def cD.stay{h:w_}{o:HO}(x:cD P w H h a o)(k:∀b u,(b=a\/H b=a_ (.own a))->h.get? b=a_ u->Ze 0=a_ u)(ho:∀b,H b=a_ (.own a)->H' b=a_ (.own a))(ht:∀b xs,H b=a_ (.tup xs)->H' b=a_ (.tup xs)):cD P w H' h' a o:=by
 induction o with
 |lst xs=>let⟨z,its,n,r,e⟩:=x;show⟨z,its,n,r,k _ _ (.inl rfl) e⟩
 |tup xs=>let⟨z,its,r,ob,e,c⟩:=x;show⟨z,its,r,ob,k _ _ (.inl rfl) e,c⟩
 |dK kvs=>let⟨z,y,vs,r,ob,es,ep,e,c⟩:=x;show⟨z,y,vs,r,ob,es,ep,k _ _ (.inl rfl) e,c⟩
 |dT kvs=>let⟨z,y,xs,r,ob,es,ep,e,c⟩:=x;show⟨z,y,xs,Paired.mapP r λp q z=>⟨z.1,ht _ _ z.2.1,z.2.2⟩,ob,es,ep,k _ _ (.inl rfl) e,c⟩
 |set S n=>let⟨ob,es,ep,t,e,c⟩:=x;show⟨ob,es,ep,t,k _ _ (.inl rfl) e,c⟩
 |ins C dx fs=>let⟨d,z,ne,e,mA,⟨od,es,ep,e2,c⟩,r⟩:=x;show⟨ho _ d,z,ne,k _ _ (.inl rfl) e,mA,⟨od,es,ep,k _ _ (.inr d) e2,c⟩,r⟩
 |own y=>let⟨ob,e⟩:=x;show⟨ob,k _ _ (.inl rfl) e⟩
 |xd fs=>let⟨mA,⟨od,es,ep,e,c⟩,r⟩:=x;show⟨mA,⟨od,es,ep,k _ _ (.inl rfl) e,c⟩,r⟩
 |rng lo hi=>let⟨t,u,v,e⟩:=x;show⟨t,u,v,k _ _ (.inl rfl) e⟩
 |frz ob u ih=>let⟨e,q⟩:=x;show⟨k _ _ (.inl rfl) e,ih q⟩
 |tbl ps=>
  let e:h.get? a=a_ {cls:=.none,data:=.fields ps}:=x
  change h'.get? a=a_ {cls:=.none,data:=.fields ps}
  show k a _ (.inl rfl) e
 |met f y=>
  let e:h.get? a=a_ (PySem.W.methodObj (.ref f)<|.ref y):=x
  change h'.get? a=a_ (PySem.W.methodObj (.ref f)<|.ref y)
  show k a _ (.inl rfl) e
 |ext φ=>let⟨p,⟨o,e⟩,st⟩:=x;show⟨st _ _ p λo q=>k _ _ (.inl rfl) q,⟨o,k _ _ (.inl rfl) e⟩,st⟩
def HOk.lt{h:w_}{o:HO}(x:Z6 h)(e:H a=a_ o):a<h.objs.size:=(x a o e).lt
def HOk.fresh{h:w_}(x:Z6 h)(e:h.objs.size<=a):H a=b_:=by
 cases q:H a with
 |none=>rfl
 |some u=>exact absurd (Vo (x.lt q) e)<|WT _
def HOk.kept{h:w_}(x:Z6 h)(k:∀b u,h.get? b=a_ u->Ze 0=a_ u):Z6 h':=λa o e=>(x a o e).stay (λb u _ q=>k b u q) (λ_ q=>q) λ_ _ q=>q
def HOk.laid{h:w_}{o:HO}(x:Z6 h)(k:∀b u,h.get? b=a_ u->Ze 0=a_ u)(hp:h.objs.size<=a)(new:cD P w (S1 a o) h' a o):HOk P w (S1 a o) h':=λb u e=>by
 let hn:=x.fresh hp;by_cases hb:b=a
 ·subst hb;rw[aL]at e;cases e;show new
 ·rw[aH hb]at e;show(x b u e).stay (λc v _ q=>k c v q) (λc q=>by rw[aH<|cR q hn];show q) λc xs q=>by rw[aH<|cR q hn];show q
abbrev Rd(H:Hp)(a:t_)(u:HO):Prop:=H a=a_ u\/∃o,H a=a_ (.frz o u)
def Rd.ok{h:w_}{u:HO}(r:Rd H a u)(x:Z6 h):cD P w H h a u:=by
 rcases r with r|⟨o,r⟩
 ·show x a u r
 ·let⟨_,q⟩:=x a _ r;show q
abbrev Mut:C_ HO->Prop
 |some (.lst _)=>True
 |some (.dK _)=>True
 |some (.dT _)=>True
 |some (.set _ _)=>True
 |some (.ins _ _ _)=>True
 |some (.ext _)=>True
 |_=>False
section
variable{h:w_}{x e:t_}{o':HO}
def HOk.write(ok:Z6 h)(mu:Mut (H x))(he:e=x\/H e=a_ (.own x))(k:∀b u,b≠e->h.get? b=a_ u->Ze 0=a_ u)(oh:∃u,h'.get? e=a_ u)
  (new:cD P w (S1 x o') h' x o'):HOk P w (S1 x o') h':=λb u q=>by
 let sg:∀c y,H c=a_ (.own y)->c≠x:=λc y r z=>by subst z;rw[r]at mu;show mu
 let xb:∀c xs,H c=a_ (.tup xs)->c≠x:=λc xs r z=>by subst z;rw[r]at mu;show mu
 by_cases hb:b=x
 ·subst hb;rw[aL]at q;cases q;show new
 ·rw[aH hb]at q;by_cases hbe:b=e
  ·let q':H b=a_ (.own x):=by
    rcases he with z|z
    ·show absurd (hbe.trans z) hb
    ·rw[hbe];show z
   rw[q]at q';cases q';let⟨v,hv⟩:=oh;show⟨v,by rw[hbe];show hv⟩
  ·refine(ok b u q).stay (λc v hc r=>k c v ?_ r) (λc r=>by rw[aH<|sg c b r];show r) λc xs r=>by rw[aH<|xb c xs r];show r
   rcases hc with rfl|hc
   ·show hbe
   ·rintro rfl;rcases he with z|z
    ·show sg c b hc z
    ·rw[hc]at z;cases z;show hb rfl
end
structure Un(fs ex:B_ t_)(H H':Hp)(h h':w_):Prop where
 keep:∀b o,h.get? b=some o->H b=none->b∉fs->b∉ex->h'.get? b=some o
 slot:∀b o,h.get? b=some o->H b=none->b∈fs->b∉ex->∃sl,h'.get? b=some { o with slots:=sl}
 free:∀b o,h.get? b=some o->H b=none->b∉ex->H' b=none
 there:∀b o,h.get? b=some o->b∉ex->∃o',h'.get? b=some o'
 tups:∀b xs,H b=some (.tup xs)->H' b=some (.tup xs)
 frzs:∀b o u,H b=some (.frz o u)->H' b=some (.frz o u)
 tbls:∀b ps,H b=some (.tbl ps)->∃more,H' b=some (.tbl (ps++more))
variable{H1:Hp}{ex:B_ t_}{ob:Obj}
section
variable{fs ng ex':B_ t_}{h h1 h2:w_}{x e:t_}{o:HO}
def Un.any(u:Un fs ex H H1 h h1){b:t_}(q:h.get? b=a_ ob)(n:H b=b_)(hx:b∉ex):∃sl,h1.get? b=a_ { ob with slots:=sl}:=by
 by_cases hb:b∈fs
 ·show u.slot b ob q n hb hx
 ·show⟨ob.slots,u.keep b ob q n hb hx⟩
def Un.kept(k:∀b u,h.get? b=a_ u->Ze 0=a_ u):Un fs ex H H h h':=⟨λb ob q _ _ _=>k b ob q,λb ob q _ _ _=>⟨ob.slots,k b ob q⟩,λ_ _ _ n _=>n,λb ob q _=>⟨ob,k b ob q⟩,λ_ _ q=>q,λ_ _ _ q=>q,λ_ ps q=>⟨#[],by rw[q];simp⟩⟩
def Un.refl:Un fs ex H H h h:=Un.kept λ_ _ q=>q
def Un.laid(k:∀b u,h.get? b=a_ u->Ze 0=a_ u)(hp:h.objs.size<=a)(hn:H a=b_):Un fs ex H (S1 a o) h h' where
 keep:=λb u q _ _ _=>k b u q
 slot:=λb u q _ _ _=>⟨u.slots,k b u q⟩
 free:=λb u q n _=>by rw[aH<|Vc<|Vo (U8 q) hp];show n
 there:=λb u q _=>⟨u,k b u q⟩
 tups:=λb xs q=>by rw[aH<|cR q hn];show q
 frzs:=λb u xs q=>by rw[aH<|cR q hn];show q
 tbls:=λb ps q=>⟨#[],by rw[aH<|cR q hn,q];simp⟩
def Un.write(mu:Mut (H x))(he:e=x\/H e=a_ (.own x))(k:∀b u,b≠e->h.get? b=a_ u->Ze 0=a_ u)(oh:∃u,h'.get? e=a_ u):Un fs ex H (S1 x o) h h':=by
 let hx:∀b,H b=b_->b≠x:=λb n z=>by subst z;rw[n]at mu;show mu
 let hb:∀b,H b=b_->b≠e:=λb n z=>by
  subst z;rcases he with r|r
  ·show hx b n r
  ·rw[n]at r;cases r
 let hm:∀b u,H b=a_ u->¬ Mut (a_ u)->b≠x:=λb u q nm z=>by subst z;rw[q]at mu;show nm mu
 refine⟨λb u q n _ _=>k b u (hb b n) q,λb u q n _ _=>⟨u.slots,k b u (hb b n) q⟩,λb u q n _=>by rw[aH (hx b n)];show n,λb u q _=>?_,
  λb xs q=>by rw[aH (hm b _ q λz=>z)];show q,λb u xs q=>by rw[aH (hm b _ q λz=>z)];show q,λb ps q=>⟨#[],by rw[aH (hm b _ q λz=>z),q];simp⟩⟩
 by_cases hbe:b=e
 ·subst hbe;show oh
 ·show⟨u,k b u hbe q⟩
end
abbrev trk(h:w_)(H:Hp):B_ t_:=(Vi h.objs.size).filter λa=>(H a).isSome
abbrev A8(h:w_)(H:Hp):w_:=PySem.W.hideAll h<|trk h H
def EM(h:w_)(H:Hp):(A8 h H).objs.size=h.objs.size:=PySem.W.hideAll_size _ _
def G9{h:w_}{b:t_}{o:Obj}(e:h.get? b=a_ o)(n:H b=b_):(A8 h H).get? b=a_ o:=PySem.W.hideAll_get _ e λhm=>by let q:(H b).isSome=true:=(V2.mp hm).2;rw[n]at q;simp at q
def J4{h:w_}{b:t_}{o:Obj}(e:(A8 h H).get? b=a_ o):h.get? b=a_ o/\H b=b_:=by
 let e':h.get? b=a_ o:=PySem.W.of_hideAll (trk h H) e;refine⟨e',?_⟩;cases q:H b with
 |none=>rfl
 |some x=>have hm:b∈trk h H:=V2.mpr ⟨Xd.mpr<|U8 e',by simp[q]⟩;let z:(A8 h H).get? b=b_:=PySem.W.hideAll_none (trk h H) hm;rw[z]at e;cases e
abbrev J5(g h:w_)(L:t_):g_ 0:=(Vi h.objs.size).filterMap λa=>if a=L\/(g.get? a).isSome=true then b_ else(h.get? a).map λo=>(a,o)
abbrev rest(g h:w_)(L d:t_):g_ 0:=(J5 g h L).filter λp=>decide (p.1≠d)
structure Mod(K:UF)(mg:o_ 0)(base:w_):Prop where
 kin:K.In base
 glob:base.Ns Wb mg
 blt:∃mb,base.Ns builtinsNs mb/\∀x:Str,x≠"__name__" -> mb x=Xp x
 nolimit:base.NoLimit
structure Cx where
 prog:y_
 w:x_
 K:UF
 mg:o_ 0
 base:w_
 A:v_
 N:B_ Str
 s₀:td
 H₀:Hp
 env:Env
 outer:B_ Env
 stack:B_ Env
 ex:B_ t_
 fn:Str->Bool
 calm:Bool
 pn:g_ 0
 xe:f_ 0
abbrev frs(l:B_ Env):B_ t_:=l.filterMap (·.frame)
@[reducible]def Cx.fs(X:Cx):B_ t_:=frs X.outer
abbrev Vis(sc:Scope)(x:Str):Prop:=Zc 0=a_ .local\/Zc 0=a_ .cell\/Zc 0=a_ .free
abbrev Loc(sc:Scope)(x:Str):Prop:=Zc 0=a_ .local\/Zc 0=a_ .cell
abbrev Look(env:Env)(h:w_)(m:o_ 0)(x:Str)(u:s_):Prop:=(env.kindOf x=a_ .local/\m x=a_ u)\/((env.kindOf x=a_ .cell\/env.kindOf x=a_ .free)/\∃c,env.cells.lookup x=a_ c/\h.IsCell c (a_ u))
structure Cx.Ok(X:Cx):Prop where
 mod:Mod X.K X.mg X.base
 kind:X.env.scope.kind=.function
 glob:X.env.globals=Wb
 blt:X.env.builtins=builtinsNs
 above:X.s₀.heap.objs.size<=X.env.locals
 inj:∀x y c,X.env.cells.lookup x=some c->X.env.cells.lookup y=some c->x=y
 has:∀x,(X.env.kindOf x=some .cell\/X.env.kindOf x=some .free)->∃c,X.env.cells.lookup x=some c
 cab:∀x c,X.fn x=true->X.env.cells.lookup x=some c->X.s₀.heap.objs.size<=c
 hd:X.calm=true->X.A.handled=none
 frames:X.A.frames=some X.stack
 stk:X.stack=X.outer\/(X.stack=X.env::X.outer/\X.env.frame=some X.env.locals)
 exf:∀b∈X.ex,b≠X.env.locals/\∀x c,X.env.cells.lookup x=some c->c≠b
 bs:∀b o,X.base.get? b=some o->X.s₀.heap.get? b=some o/\X.H₀ b=none
 bsz:X.base.objs.size<=X.s₀.heap.objs.size
 noex:∀b o,X.base.get? b=some o->b∉X.ex
 exfs:∀b∈X.ex,b∉X.fs
 funs:X.s₀.heap.FunFrames X.base X.outer
 frf:∀b∈X.fs,X.H₀ b=none
structure Inv(X:Cx)(jn:g_ 0)(σ:B_ (C_ V))(H:Hp)(s:td):Prop where
 ok:X.Ok
 os:s.os=X.s₀.os
 bare:AllBare s.gens
 base:Un X.fs X.ex X.H₀ H X.s₀.heap s.heap
 loc:∃m,s.heap.Ns X.env.locals m/\∀(i:Nat)(x:Str)(v:V),X.N[i]?=some x->σ[i]?=some (some v)->Vis X.env.scope x->∃u,RelV v u/\Look X.env s.heap m x u
 cell:∀x c,X.env.cells.lookup x=some c->∃v,s.heap.IsCell c v
 free:H X.env.locals=none
 freeC:∀x c,X.env.cells.lookup x=some c->H c=none
 pin:∀p∈X.pn++jn,s.heap.get? p.1=some p.2/\H p.1=none/\p.1≠X.env.locals/\p.1∉X.fs/\∀v,p.2.data≠.cell v
 hok:HOk X.prog X.w H s.heap
 len:σ.length=X.N.length
variable{X:Cx}
def Cx.Ok.nofr(ok:X.Ok){b:t_}{o:Obj}(e:X.base.get? b=a_ o):b∉X.fs:=λhb=>by have:=(ok.funs.mem hb).1;rw[e]at this;cases this
variable{jn:g_ 0}{s:td}{σ:B_ (C_ V)}
def Inv.bs(I:P1 s):∀b o,X.base.get? b=a_ o->N_ 0=a_ o/\H b=b_:=λb o e=>⟨I.base.keep b o (I.ok.bs b o e).1 (I.ok.bs b o e).2 (I.ok.nofr e)<|I.ok.noex b o e,I.base.free b o (I.ok.bs b o e).1 (I.ok.bs b o e).2<|I.ok.noex b o e⟩
def Inv.bk(I:P1 s):∀b o,X.base.get? b=a_ o->N_ 0=a_ o:=λb o e=>(I.bs b o e).1
def Inv.mod(I:P1 s):Mod X.K X.mg X.base:=I.ok.mod
def Inv.kIn(I:P1 s):X.K.In s.heap:=I.ok.mod.kin.keeps I.bk
def Inv.lt(I:P1 s):X.env.locals<(e_ s):=let ⟨_,hn,_⟩:=I.loc;hn.lt
def Inv.sz(I:P1 s):X.s₀.heap.objs.size<=(e_ s):=VO I.ok.above<|Xq I.lt
def Inv.nofs(I:P1 s)(h:(e_ s)<=a):a∉X.fs:=λhb=>by let⟨_,o,ho,_⟩:=I.ok.funs.mem hb;show absurd (Vo (U8 ho)<|VO I.sz h)<|WT _
def Inv.cne(I:P1 s):∀x c,T_ 0=a_ c->c≠X.env.locals:=λx c e z=>by let⟨v,o,ho,hd⟩:=I.cell x c e;let⟨m,⟨o',es,ep,de,d8,_⟩,_⟩:=I.loc;rw[z,de]at ho;cases ho;rw[d8]at hd;cases hd
def Inv.funs(I:P1 s):s.heap.FunFrames X.base X.outer:=by
 let all:∀(l:B_ Env),(∀b∈frs l,b∈X.fs)->X.s₀.heap.FunFrames X.base l->s.heap.FunFrames X.base l:=by
  intro l
  induction l with
  |nil=>intro _ _;trivial
  |cons env r ih=>intro hs hl;let⟨hk,⟨L,o,hf,hn,ho,hd⟩,hr⟩:=hl;let hL:L∈X.fs:=hs L (by unfold frs;rw[V1,hf];show UV);let⟨sl,e⟩:=I.base.slot L o ho (I.ok.frf L hL) hL λz=>I.ok.exfs L z hL;show⟨hk,⟨L,_,hf,hn,e,hd⟩,ih (λb hb=>hs b (by unfold frs;rw[V1,hf];show U4 _ hb)) hr⟩
 show all X.outer (λ_ hb=>hb) I.ok.funs
def Inv.stack(I:P1 s):s.heap.FunFrames X.base X.stack:=by
 rcases I.ok.stk with e|⟨e,hf⟩
 ·rw[e];show I.funs
 ·rw[e];let⟨m,hn,_⟩:=I.loc;refine .cons (by rw[I.ok.kind];decide) hf hn ?_ I.funs;show Heap.get?_none_of_le<|VO I.ok.bsz I.ok.above
def Inv.stkSub(I:P1 s):∀b∈frs X.stack,b∈X.env.locals::X.fs:=λb hb=>by
 rcases I.ok.stk with e|⟨e,hf⟩
 ·rw[e]at hb;show U4 _ hb
 ·rw[e]at hb;unfold frs at hb;rw[V1,hf]at hb;show hb
def Inv.stkFree(I:P1 s):∀b∈frs X.stack,H b=b_:=λb hb=>by
 rcases U5.mp (I.stkSub b hb) with e|hb
 ·rw[e];show I.free
 ·let⟨_,o,ho,_⟩:=I.ok.funs.mem hb;show I.base.free b o ho (I.ok.frf b hb) λz=>I.ok.exfs b z hb
variable{ch:B_ t_}{d':Drawn}{g':Array GenState}{t':Nat}
def Inv.step(I:P1 s)(jc:∀b∈ch,(b∈X.ex\/X.s₀.heap.objs.size<=b)/\b≠X.env.locals/\(∀x c,T_ 0=a_ c->c≠b)/\∀p∈X.pn++jn,p.1≠b)(keep:∀b o,b≠X.env.locals->b∉X.fs->b∉ch->N_ 0=a_ o->H b=b_->Ze 0=a_ o)(slot:∀b o,b≠X.env.locals->b∈X.fs->b∉ch->N_ 0=a_ o->H b=b_->∃sl,Ze 0=a_ { o with slots:=sl})(free:∀b o,b∉ch->N_ 0=a_ o->H b=b_->H' b=b_)(there:∀b o,b∉ch->N_ 0=a_ o->∃o',Ze 0=a_ o')(tups:∀b xs,H b=a_ (.tup xs)->H' b=a_ (.tup xs))(frzs:∀b o u,H b=a_ (.frz o u)->H' b=a_ (.frz o u))(tbls:∀b ps,H b=a_ (.tbl ps)->∃more,H' b=a_ (.tbl<|ps++more))(ns:∀m,s.heap.Ns X.env.locals m->h'.Ns X.env.locals m)(hok:HOk X.prog X.w H' h')(hg:AllBare g'):
  i_ H' {s with heap:=h',gens:=g',drawn:=d',toks:=t'}:=by
 let z8:∀b o,X.s₀.heap.get? b=a_ o->b≠X.env.locals:=λb o e=>Vc<|Vo (U8 e) I.ok.above;let vd:∀b o,X.s₀.heap.get? b=a_ o->b∉X.ex->b∉ch:=λb o e hx hb=>by
  rcases(jc b hb).1 with z|z
  ·show hx z
  ·show absurd (Vo (U8 e) z) (WT _)
 let cellK:∀x c,T_ 0=a_ c->∀v,s.heap.IsCell c v->h'.IsCell c v:=λx c e v ⟨o,ho,hd⟩=>by
  let tf:c∉ch:=λz=>(jc c z).2.2.1 x c e rfl;by_cases hc:c∈X.fs
  ·let⟨sl,q⟩:=slot c o (I.cne x c e) hc tf ho<|I.freeC x c e;show⟨_,q,hd⟩
  ·show⟨o,keep c o (I.cne x c e) hc tf ho<|I.freeC x c e,hd⟩
 refine⟨I.ok,I.os,hg,⟨λb o e n hb hx=>?_,λb o e n hb hx=>?_,λb o e n hx=>?_,λb o e hx=>?_,λb xs e=>tups b xs<|I.base.tups b xs e,λb o xs e=>frzs b o xs<|I.base.frzs b o xs e,λb ps e=>?_⟩,?_,λx c e=>?_,?_,λx c e=>?_,λp hp=>?_,hok,I.len⟩
 ·show keep b o (z8 b o e) hb (vd b o e hx) (I.base.keep b o e n hb hx) (I.base.free b o e n hx)
 ·let⟨sl,e1⟩:=I.base.slot b o e n hb hx;let⟨Ub,e2⟩:=slot b _ (z8 b o e) hb (vd b o e hx) e1<|I.base.free b o e n hx;show⟨Ub,e2⟩
 ·let⟨o',e1⟩:=I.base.there b o e hx;show free b o' (vd b o e hx) e1<|I.base.free b o e n hx
 ·let⟨o',e1⟩:=I.base.there b o e hx;show there b o' (vd b o e hx) e1
 ·let⟨m1,e1⟩:=I.base.tbls b ps e;let⟨m2,e2⟩:=tbls b _ e1;show⟨m1++m2,by rw[e2,Array.append_assoc]⟩
 ·let⟨m,hn,hl⟩:=I.loc;refine⟨m,ns m hn,λi x v e1 e2 e3=>?_⟩;let⟨u,r,l⟩:=hl i x v e1 e2 e3;refine⟨u,r,?_⟩;rcases l with l|⟨k,c,e,z⟩
  ·show .inl l
  ·show .inr ⟨k,c,e,cellK x c e _ z⟩
 ·let⟨v,z⟩:=I.cell x c e;show⟨v,cellK x c e v z⟩
 ·let⟨m,⟨o,_,_,ho,_⟩,_⟩:=I.loc;show free _ o (λz=>(jc _ z).2.1 rfl) ho I.free
 ·let⟨v,o,ho,hd⟩:=I.cell x c e;show free c o (λz=>(jc c z).2.2.1 x c e rfl) ho<|I.freeC x c e
 ·let⟨e,n,ne,nf,d⟩:=I.pin p hp;let tf:p.1∉ch:=λz=>(jc p.1 z).2.2.2 p hp rfl;show⟨keep p.1 p.2 ne nf tf e n,free p.1 p.2 tf e n,ne,nf,d⟩
def Inv.un(I:P1 s)(u:Un X.fs [] H H' s.heap h')(hok:HOk X.prog X.w H' h'):i_ H' {s with heap:=h',toks:=t'}:=by let⟨m,⟨o,es,ep,ho,r⟩,_⟩:=id I.loc;let⟨sl,hL⟩:=u.any ho I.free (by simp);show I.step (g':=s.gens) (d':=s.drawn) (ch:=[]) (λ_ z=>nomatch z) (λb o _ hb _ e n=>u.keep b o e n hb<|by simp) (λb o _ hb _ e n=>u.slot b o e n hb<|by simp) (λb o _ e n=>u.free b o e n<|by simp) (λb o _ e=>u.there b o e<|by simp) u.tups u.frzs u.tbls (λm' hm=>by let⟨o',es',ie,de,r'⟩:=hm;rw[ho]at de;cases de;show⟨_,es',ie,hL,r'⟩) hok I.bare
def Inv.call(I:P1 s)(u:Un (frs X.stack) ch H H' s.heap h')(hok:HOk X.prog X.w H' h')(hg:AllBare g')(jc:∀b∈ch,(b∈X.ex\/X.s₀.heap.objs.size<=b)/\b≠X.env.locals/\(∀x c,T_ 0=a_ c->c≠b)/\∀p∈X.pn++jn,p.1≠b):
  i_ H' {s with heap:=h',gens:=g',drawn:=d',toks:=t'}:=by
 let⟨m,⟨o,es,ep,ho,r⟩,_⟩:=id I.loc;let⟨sl,hL⟩:=u.any ho I.free λz=>(jc _ z).2.1 rfl;show I.step (ch:=ch) jc (λb o hL hb hc e n=>u.keep b o e n (λz=>(U5.mp<|I.stkSub b z).elim hL hb) hc) (λb o _ _ hc e n=>u.any e n hc) (λb o hc e n=>u.free b o e n hc) (λb o hc e=>u.there b o e hc) u.tups u.frzs u.tbls (λm' hm=>by let⟨o',es',ie,de,r'⟩:=hm;rw[ho]at de;cases de;show⟨_,es',ie,hL,r'⟩) hok hg
variable{it:t_}
def Inv.turned(I:P1 s)(k:∀b o,b≠it->N_ 0=a_ o->Ze 0=a_ o)(hn:H it=b_)(hL:it≠X.env.locals)(h1:it∈X.ex\/X.s₀.heap.objs.size<=it)(h2:∀x c,T_ 0=a_ c->c≠it)(h3:∀p∈X.pn++jn,p.1≠it):P1 {s with heap:=h',toks:=t'}:=by
 let sx:∀b u,H b=a_ u->b≠it:=λb u e z=>by rw[z,hn]at e;cases e
 refine I.step (g':=s.gens) (d':=s.drawn) (ch:=[it]) (λb hb=>?_) (λb o _ _ hc e _=>k b o (λz=>hc<|by simp[z]) e) (λb o _ _ hc e _=>⟨o.slots,k b o (λz=>hc<|by simp[z]) e⟩) (λ_ _ _ _ n=>n)
  (λb o hc e=>⟨o,k b o (λz=>hc<|by simp[z]) e⟩) (λ_ _ e=>e) (λ_ _ _ e=>e) (λb ps e=>⟨#[],by rw[e];simp⟩) (λm hm=>?_) (λb u e=>?_) I.bare
 ·let e:b=it:=by simpa using hb
  subst e;show⟨h1,hL,h2,h3⟩
 ·let⟨o,es,ep,ho,r⟩:=hm;show⟨o,es,ep,k _ o (Wu hL) ho,r⟩
 ·refine(I.hok b u e).stay (λc v hc q=>k c v ?_ q) (λ_ q=>q) λ_ _ q=>q;rcases hc with z|z
  ·rw[z];show sx b u e
  ·show sx c _ z
def Inv.tok(I:P1 s)(t:Nat):P1 { s with toks:=t}:=I.un (h':=s.heap) (t':=t) Un.refl I.hok
def Inv.kept(I:P1 s)(k:∀b u,N_ 0=a_ u->Ze 0=a_ u):P1 {s with heap:=h',toks:=t'}:=I.un (Un.kept k)<|I.hok.kept k
def Inv.laid{o:HO}(I:P1 s)(k:∀b u,N_ 0=a_ u->Ze 0=a_ u)(hp:(e_ s)<=a)(new:q0j (S1 a o) h' a o):
  i_ (S1 a o) {s with heap:=h',toks:=t'}:=I.un (Un.laid k hp<|I.hok.fresh hp)<|I.hok.laid k hp new
def Inv.write{x e:t_}{o:HO}(I:P1 s)(mu:Mut (H x))(he:e=x\/H e=a_ (.own x))(k:∀b u,b≠e->N_ 0=a_ u->Ze 0=a_ u)(oh:∃u,h'.get? e=a_ u)(new:q0j (S1 x o) h' x o):i_ (S1 x o) {s with heap:=h',toks:=t'}:=I.un (Un.write mu he k oh)<|I.hok.write mu he k oh new
variable{dq:g_ 0}
def Inv.pins_of(I:P1 s)(h:∀p∈dq,s.heap.get? p.1=a_ p.2/\H p.1=b_/\p.1≠X.env.locals/\p.1∉X.fs/\∀v,p.2.data≠.cell v):Inv X dq σ H s:=⟨I.ok,I.os,I.bare,I.base,I.loc,I.cell,I.free,I.freeC,λp hp=>(Vx.mp hp).elim (λz=>I.pin p<|Ws _ z)<|h p,I.hok,I.len⟩
variable{N:Zf 0}{i j:Nat}{x:Str}
def B4(hN:N.Nodup)(a:N[i]?=a_ x)(b:N[j]?=a_ x):i=j:=by let⟨h1,e1⟩:=SC.mp a;let⟨h2,e2⟩:=SC.mp b;show(List.getElem_inj hN).mp (e1.trans e2.symm)
variable{A:v_}{E:f_ 0}{M:Model}{v:V}
def yJ{Q:j_ Unit}(I:P1 s)(hN:X.N.Nodup)(hi:X.N[i]?=a_ x)(hx:Loc X.env.scope x)(r:ZG u)(h:∀s',Inv X jn (σ.set i<|a_ v) H s'->(∃a,Wy a s.heap s'.heap/\(a=X.env.locals\/T_ 0=a_ a))->Q () s')(hf:X.fn x=true\/V_ 0=a_ .local:=by first|exact .inl rfl|exact .inr rfl|assumption):wpAny M A (storeName X.env x u) Q E s:=by
 let⟨m,hn,hl⟩:=id I.loc;let w8:(X.env.scope.kind == .class || (X.env.scope.kind == .module&&X.env.locals != X.env.globals))=false:=by rw[I.ok.kind];rfl
 let SD:i<σ.length:=by rw[I.len];show(SC.mp hi).1
 let cne:=I.cne;let tracked:∀{a:t_}{h':w_},(∃o,Y_ 0=a_ o/\H a=b_)->Wy a s.heap h'->HOk X.prog X.w H h':=λ{a h'} ha hs b ob e=>by
  let⟨_,_,kg⟩:=ha;refine(I.hok b ob e).stay (λc w' hc q=>(hs.2 c ?_).trans q) (λ_ q=>q) λ_ _ q=>q;rintro rfl;rcases hc with rfl|hc
  ·rw[kg]at e;cases e
  ·rw[kg]at hc;cases hc
 rcases hx with hk|hk
 ·refine wpAny_storeName_local hk hn (λh' ue hs=>?_) w8;let⟨oL,_,_,fg,_⟩:=id hn;refine h _ ⟨I.ok,I.os,I.bare,⟨λb o e n hb hx=>?_,λb o e n hb hx=>?_,I.base.free,λb o e hx=>?_,I.base.tups,I.base.frzs,I.base.tbls⟩,⟨_,ue,λj y v' e1 e2 e3=>?_⟩,λy c e=>?_,I.free,I.freeC,λp hp=>?_,tracked ⟨oL,fg,I.free⟩ hs,l_ I.len⟩ ⟨_,hs,.inl rfl⟩
  ·show(hs.2 b<|Vc<|Vo (U8 e) I.ok.above).trans (I.base.keep b o e n hb hx)
  ·let⟨sl,e1⟩:=I.base.slot b o e n hb hx;show⟨sl,(hs.2 b<|Vc<|Vo (U8 e) I.ok.above).trans e1⟩
  ·let⟨o',e1⟩:=I.base.there b o e hx;show⟨o',(hs.2 b<|Vc<|Vo (U8 e) I.ok.above).trans e1⟩
  ·by_cases hj:j=i
   ·subst hj;rw[hi]at e1;cases e1;rw[VW SD]at e2;cases e2
    show⟨u,r,.inl ⟨hk,by simp⟩⟩
   ·rw[VD<|Wu hj]at e2;let⟨u',r',q⟩:=hl j y v' e1 e2 e3;refine⟨u',r',?_⟩;rcases q with⟨k,e⟩|⟨k,c,e,z⟩
    ·refine .inl ⟨k,?_⟩;have:y≠x:=λe=>hj<|B4 hN e1<|e▸hi;simp[this,e]
    ·show .inr ⟨k,c,e,z.sameBut hs<|cne y c e⟩
  ·let⟨w',z⟩:=I.cell y c e;show⟨w',z.sameBut hs<|cne y c e⟩
  ·let⟨e,n,ne,nf,d⟩:=I.pin p hp;show⟨(hs.2 p.1 ne).trans e,n,ne,nf,d⟩
 ·let xj:X.fn x=true:=by
   rcases hf with z|z
   ·show z
   ·rw[z]at hk;cases hk
  let⟨c,hc⟩:=I.ok.has x<|.inl hk;let⟨w',z⟩:=I.cell x c hc;refine wpAny_storeName_cell I.ok.kind hk hc z<|λh' kz hs=>?_;let⟨oc,je,xn⟩:=id z;refine h {s with heap:=h'} ⟨I.ok,I.os,I.bare,⟨λb o e n hb hx=>?_,λb o e n hb hx=>?_,I.base.free,λb o e hx=>?_,I.base.tups,I.base.frzs,I.base.tbls⟩,⟨m,hn.sameBut hs<|Wu<|cne x c hc,λj y v' e1 e2 e3=>?_⟩,λy c' e=>?_,I.free,I.freeC,λp hp=>?_,tracked ⟨oc,je,I.freeC x c hc⟩ hs,l_ I.len⟩ ⟨c,hs,.inr hc⟩
  ·show(hs.2 b<|Vc<|Vo (U8 e)<|I.ok.cab x c xj hc).trans (I.base.keep b o e n hb hx)
  ·let⟨sl,e1⟩:=I.base.slot b o e n hb hx;show⟨sl,(hs.2 b<|Vc<|Vo (U8 e)<|I.ok.cab x c xj hc).trans e1⟩
  ·let⟨o',e1⟩:=I.base.there b o e hx;show⟨o',(hs.2 b<|Vc<|Vo (U8 e)<|I.ok.cab x c xj hc).trans e1⟩
  ·by_cases hj:j=i
   ·subst hj;rw[hi]at e1;cases e1;rw[VW SD]at e2;cases e2
    show⟨u,r,.inr ⟨.inl hk,c,hc,kz⟩⟩
   ·rw[VD<|Wu hj]at e2;let⟨u',r',q⟩:=hl j y v' e1 e2 e3;refine⟨u',r',?_⟩;rcases q with q|⟨k,c',e,z'⟩
    ·show .inl q
    ·refine .inr ⟨k,c',e,z'.sameBut hs ?_⟩;rintro rfl;show hj<|B4 hN e1<|I.ok.inj _ _ _ e hc▸hi
  ·by_cases j9:c'=c
   ·subst j9;show⟨_,kz⟩
   ·let⟨w2,z2⟩:=I.cell y c' e;show⟨w2,z2.sameBut hs j9⟩
  ·let⟨e,n,ne,nf,d⟩:=I.pin p hp;refine⟨(hs.2 p.1 ?_).trans e,n,ne,nf,d⟩;intro q;rw[q,je]at e;let q':oc=p.2:=Vq e;show d w' (by rw[<-q'];show xn)
def B5{Q:j_ Unit}(I:P1 s)(hN:X.N.Nodup)(hi:X.N[i]?=a_ x)(hx:Loc X.env.scope x)(r:ZG u)(h:∀s',Inv X jn (σ.set i<|a_ v) H s'->Q () s')(hf:X.fn x=true\/V_ 0=a_ .local:=by first|exact .inl rfl|exact .inr rfl|assumption):wpAny M A (storeName X.env x u) Q E s:=yJ I hN hi hx r (λs' I' _=>h s' I') hf
variable{s':td}
def Inv.call'(I:P1 s)(ho:s'.os=s.os)(u:Un (frs X.stack) ch H H' s.heap s'.heap)(hok:HOk X.prog X.w H' s'.heap)(hg:AllBare s'.gens)(jc:∀b∈ch,(b∈X.ex\/X.s₀.heap.objs.size<=b)/\b≠X.env.locals/\(∀x c,T_ 0=a_ c->c≠b)/\∀p∈X.pn++jn,p.1≠b):i_ H' s':=by let⟨h',g',d',t',o'⟩:=s';let e:o'=s.os:=ho;subst e;show I.call (g':=g') (t':=t') (d':=d') u hok hg jc
@[reducible]def XK:=s_->C_ t_->Hp->Prop
@[reducible]def St:=B_<|C_ V
@[reducible]def VK:=V->Hp->Prop
@[reducible]def TE:=St->Hp->VK->Prop
@[reducible]def TT:=St->Hp->(Bool->Hp->Prop)->Prop
@[reducible]def TA:=St->Hp->(B_ V->Hp->Prop)->Prop
structure Ends where
 nx:St->Hp->Prop
 rt:VK
 bk:St->Hp->Prop:=λ_ _=>False
 ct:St->Hp->Prop:=λ_ _=>False
@[reducible]def TS:=Ends->St->Hp->Prop
abbrev EP(X:Cx)(jn:g_ 0)(σ:St)(Q:VK)(u:s_)(s':td):Prop:=∃v H',i_ H' s'/\ZG u/\Q v H'
abbrev TP(X:Cx)(jn:g_ 0)(σ:St)(Q:Bool->Hp->Prop)(b:Bool)(s':td):Prop:=∃H',i_ H' s'/\Q b H'
abbrev AP(X:Cx)(jn:g_ 0)(σ:St)(Q:B_ V->Hp->Prop)(us:ZM 0)(s':td):Prop:=∃vs H',i_ H' s'/\aK vs us/\Q vs H'
abbrev SP(X:Cx)(jn:g_ 0)(D:Ends)(f:Flow)(s':td):Prop:=
 match f with
 |.next=>∃σ' H',ZV s'/\D.nx σ' H'
 |.brk=>∃σ' H',ZV s'/\D.bk σ' H'
 |.cont=>∃σ' H',ZV s'/\D.ct σ' H'
 |.ret u=>∃v σ' H',ZV s'/\ZG u/\D.rt v H'
abbrev PE(X:Cx)(e:z_)(t:TE):Prop:=
 ∀(jn:g_ 0)(s:td)(σ:St)(H:Hp)(Q:VK),P1 s->t σ H Q->wpAny (h_ X) X.A (U_ 0) (Y6 Q) X.xe s
abbrev PT(X:Cx)(e:z_)(t:TT):Prop:=
 ∀(jn:g_ 0)(s:td)(σ:St)(H:Hp)(Q:Bool->Hp->Prop),P1 s->t σ H Q->wpAny (h_ X) X.A (isTrue e X.env<|U_ 0) (TP X jn σ Q) X.xe s
abbrev PW(X:Cx)(e:z_)(t:TT):Prop:=
 ∀(whole:Sem s_)(jn:g_ 0)(s:td)(σ:St)(H:Hp)(Q:Bool->Hp->Prop),P1 s->t σ H Q->wpAny (h_ X) X.A (isTrue e X.env whole) (TP X jn σ Q) X.xe s
variable{e:z_}
def PW.pt{t:TT}(h:PW X e t):PT X e t:=h _
abbrev PA(X:Cx)(es:B_ z_)(t:TA):Prop:=
 ∀(pos:Pos)(jn:g_ 0)(s:td)(σ:St)(H:Hp)(Q:B_ V->Hp->Prop),P1 s->t σ H Q->wpAny (h_ X) X.A (spliced<|YZ<|W_ 0) (AP X jn σ Q) X.xe s
abbrev PS(X:Cx)(st:A_)(t:TS):Prop:=
 ∀(jn:g_ 0)(s:td)(σ:St)(H:Hp)(D:Ends),P1 s->t D σ H->wpAny (h_ X) X.A (exec st X.env) (SP X jn D) X.xe s
abbrev PSs(X:Cx)(st:B_ A_)(t:TS):Prop:=
 ∀(jn:g_ 0)(s:td)(σ:St)(H:Hp)(D:Ends),P1 s->t D σ H->wpAny (h_ X) X.A (execs st X.env) (SP X jn D) X.xe s
def thn{α:Type}{t:Sem α}{Q Q':α->td->Prop}(h:wpAny M A t Q E s)(hQ:∀a s,Q a s->Q' a s):wpAny M A t Q' E s:=Wz h hQ λ_ _ x=>x
variable{pos:Pos}{Q:f_ 0}{tA:TT}{c:z_}{ta tb:TE}
section
abbrev QA(i:Nat):TE:=λσ H Q=>∃v,σ[i]?=a_ (a_ v)/\Q v H
abbrev tC(v:V):TE:=λ_ H Q=>Q v H
def Ga(hN:X.N[i]?=a_ x)(hv:Vis X.env.scope x)(hd:(x == ("__debug__" : Str))=false:=by decide)(g8:(x == ("__classdict__" : Str))=false:=by decide):Zr (.Name x pos) (QA i):=by
 intro jn s σ H Q I h;let⟨v,e,h⟩:=h;let⟨m,hn,hl⟩:=I.loc;let⟨u,r,l⟩:=hl i x v hN e hv;let fin:Y6 Q u s:=⟨v,H,I,r,h⟩;rcases l with⟨hk,hm⟩|⟨hk,c,hc,fv⟩
 ·show wpAny_Name (wpAny_loadName_local I.ok.kind hk hn hm fin) hd
 ·rcases hk with hk|hk
  ·show wpAny_Name (wpAny_loadName_cell I.ok.kind hk hc fv fin) hd
  ·show wpAny_Name (wpAny_loadName_free I.ok.kind hk hc fv fin g8) hd
def LB{i j pos}:Zr (.Constant (.int i) j pos) (tC<|.int i):=λ_ _ _ H _ I h=>wpAny_Constant_int ⟨.int i,H,ZS 0,⟨_,rfl⟩,h⟩
def O1{b j pos}:Zr (.Constant (.bool b) j pos) (tC<|.bl b):=λ_ _ _ H _ I h=>Constant_bool ⟨.bl b,H,I,rfl,h⟩
def LC{j pos}:Zr (.Constant .none j pos) (tC .non):=λ_ _ _ H _ I h=>Constant_none ⟨.non,H,I,rfl,h⟩
def LD{x j pos}:Zr (.Constant (.str x) j pos) (tC<|.str x):=λ_ _ _ H _ I h=>Calls.Constant_str ⟨.str x,H,ZS 0,⟨_,rfl⟩,h⟩
abbrev Gl(X:Cx)(x:Str):Prop:=X.env.kindOf x=a_ .globalImplicit
def kB{σ:St}(I:P1 s)(hg:Gl X x)(hm:X.mg x=a_ u)(h:Q u s)(hd:(x == ("__debug__" : Str))=false:=by decide):wpAny (h_ X) X.A (eval (.Name x pos) X.env) Q E s:=Calls.Name_function_global I.ok.kind hg (Calls.loadGlobal_global (by rw[I.ok.glob];show I.mod.glob.keeps I.bk) hm h) hd
def jD{σ:St}(I:P1 s)(hg:Gl X x)(hm:X.mg x=b_)(hv:Xp x=a_ u)(h:Q u s)(hn:x≠"__name__" := by decide)(hd:(x == ("__debug__" : Str))=false:=by decide):wpAny (h_ X) X.A (eval (.Name x pos) X.env) Q E s:=by let⟨mb,h1,h2⟩:=I.mod.blt;show Calls.Name_function_global I.ok.kind hg (Calls.loadGlobal_builtin (by rw[I.ok.glob];show I.mod.glob.keeps I.bk) hm (by rw[I.ok.blt];show h1.keeps I.bk) ((h2 x hn).trans hv) h) hd
def DQ(hg:Gl X x)(hm:X.mg x=a_ u)(r:ZG u)(hd:(x == ("__debug__" : Str))=false:=by decide):Zr (.Name x pos) (tC v):=
 λ_ _ _ H _ I h=>kB I hg hm ⟨v,H,I,r,h⟩ hd
def J6(hg:Gl X x)(hm:X.mg x=b_)(hv:Xp x=a_ u)(r:ZG u)(hn:x≠"__name__" := by decide)(hd:(x == ("__debug__" : Str))=false:=by decide):Zr (.Name x pos) (tC v):=
 λ_ _ _ H _ I h=>jD I hg hm hv ⟨v,H,I,r,h⟩ hn hd
variable{a b:z_}{zg:TT}{rest:B_ z_}
abbrev QB(t u:TT):TT:=λσ H Q=>t σ H λc H1=>if c=true then u σ H1 Q else Q false H1
abbrev QC(t:TT):TT:=λσ H Q=>t σ H λc H1=>Q (!c) H1
def J7(ha:PT X a tA):PW X (.BoolOp .And [a] pos) tA:=by
 intro wh jn s σ H Q I h;refine isTrue_and<|thn (ha jn s σ H Q I h) λc s1 e=>?_;cases c with
 |true=>exact isTrue_and_nil e
 |false=>exact e
def LF(ha:PT X a tA)(hb:PW X (.BoolOp .And (b::rest) pos) zg):PW X (.BoolOp .And (a::b::rest) pos) (QB tA zg):=by
 intro wh jn s σ H Q I h;refine isTrue_and<|thn (q0e 0) λc s1 z9=>?_;let⟨H1,I1,q1⟩:=z9;cases c with
 |true=>exact hb wh jn s1 σ H1 Q I1 q1
 |false=>exact⟨H1,I1,q1⟩
def LG(ha:PT X a tA):PT X (.UnaryOp .Not a pos) (QC tA):=by intro jn s σ H Q I h;show isTrue_not<|ha jn s σ H (λc H1=>Q (!c) H1) I h
def LH{op}{t:TE}(h:Zr a t):Zr (.BoolOp op [a] pos) t:=λjn s σ H Q I hw=>BoolOp_one<|Zg Q I hw
abbrev tIf(t:TT)(ta tb:TE):TE:=λσ H Q=>t σ H λc H1=>if c=true then ta σ H1 Q else tb σ H1 Q
def Gb(hc:PT X c tA)(ha:Zr a ta)(hb:Zr b tb):Zr (.IfExp c a b pos) (tIf tA ta tb):=by
 intro jn s σ H Q I h;refine wpAny_IfExp<|thn (hc jn s σ H _ I h) λd s1 z9=>?_;let⟨H1,I1,q1⟩:=z9;cases d with
 |true=>exact ha jn s1 σ H1 Q I1 q1
 |false=>exact hb jn s1 σ H1 Q I1 q1
end
abbrev SqL(K:UF)(H:Hp)(a:t_)(xs:B_ V):Prop:=
 Rd H a (.lst xs)\/
  ∃(o:Obj)(its:YV 0)(n:Nat),K.lookup a=a_ o/\o.cls=.type "list" /\ o.dict=b_/\o.data=.seq its n/\its.size<=U9/\aK xs its.toList
abbrev SqT(K:UF)(H:Hp)(a:t_)(xs:B_ V):Prop:=
 Rd H a (.tup xs)\/
  ∃(o:Obj)(its:YV 0)(n:Nat),K.lookup a=a_ o/\o.cls=.type "tuple" /\ o.data=.seq its n/\its.size<=U9/\aK xs its.toList/\o.dict=b_
abbrev QD:s_->C_ V
 |.none=>a_ .non
 |.bool b=>a_ (.bl b)
 |.int i _=>d_ i
 |.str x _=>a_ (.str x)
 |.bytes b _=>a_ (.byt b)
 |.float b _=>a_ (.flt b)
 |.ref a=>c_ a
 |.type n=>a_ (.ty n)
 |_=>b_
def RelV.abs{x:V}(r:ZF u):QD u=a_ x:=by
 cases x with
 |non=>cases r;rfl
 |bl _=>cases r;rfl
 |int _=>let⟨t,rfl⟩:=r;rfl
 |str _=>let⟨t,rfl⟩:=r;rfl
 |byt _=>let⟨t,rfl⟩:=r;rfl
 |flt _=>let⟨t,rfl⟩:=r;rfl
 |ref _=>cases r;rfl
 |ty _=>cases r;rfl
variable{y:V}
def RelV.inj{x:V}(r:ZF u)(q:RelV y u):x=y:=Vq<|r.abs.symm.trans q.abs
def aK.inj:∀{xs ys:B_ V}{us:ZM 0},aK xs us->aK ys us->xs=ys
 |_,_,_,.nil,.nil=>rfl
 |_,_,_,.cons r t,.cons r' t'=>by rw[r.inj r',aK.inj t t']
variable{K:UF}
section
variable{σ:St}{xs ys:B_ V}
def SqL.of(h:H a=a_ (.lst xs)):ZT a xs:=.inl<|.inl h
def SqT.of(h:H a=a_ (.tup xs)):ZE a xs:=.inl<|.inl h
def Inv.list(I:P1 s)(h:SqL X.K H a xs):∃its:ZM 0,aK xs its/\PlainL s.heap a its.toArray/\xs.length<=U9:=by
 rcases h with h|⟨o,its,n,hk,hc,hd,hs,hz,r⟩
 ·let⟨z,its,n,r,e⟩:=h.ok I.hok;show⟨its,r,⟨_,n,e,rfl,rfl,rfl⟩,z⟩
 ·refine⟨its.toList,r,⟨o,n,I.kIn a o hk,hc,hd,l_ hs⟩,?_⟩;let e:=r.length;simp only[X0]at e;omega
def Inv.tuple(I:P1 s)(h:SqT X.K H a xs):∃its:ZM 0,aK xs its/\q0f a its.toArray/\xs.length<=U9:=by
 rcases h with h|⟨o,its,n,hk,hc,hs,hz,r,_⟩
 ·let⟨z,its,r,p⟩:=h.ok I.hok;show⟨its,r,p.is,z⟩
 ·refine⟨its.toList,r,⟨o,I.kIn a o hk,hc,n,l_ hs⟩,?_⟩;let e:=r.length;simp only[X0]at e;omega
def Inv.list_inj(I:P1 s)(h:SqL X.K H a xs)(h':SqL X.K H a ys):xs=ys:=by
 let⟨its,r,⟨o,n,e,_,_,d⟩,_⟩:=I.list h;let⟨its',r',⟨o',n',e',_,_,d'⟩,_⟩:=I.list h';rw[e]at e';cases e';rw[d]at d';injection d' with d1 _;have:its=its':=by simpa using congrArg Array.toList d1
 subst this;show r.inj r'
def Inv.tuple_inj(I:P1 s)(h:SqT X.K H a xs)(h':SqT X.K H a ys):xs=ys:=by
 let⟨its,r,⟨o,e,_,n,d⟩,_⟩:=I.tuple h;let⟨its',r',⟨o',e',_,n',d'⟩,_⟩:=I.tuple h';rw[e]at e';cases e';rw[d]at d';injection d' with d1 _;have:its=its':=by simpa using congrArg Array.toList d1
 subst this;show r.inj r'
end
@[reducible]def Cx.wish(X:Cx)(E:f_ 0):Cx:={ X with xe:=E}
@[reducible]def Cx.nox(X:Cx):Cx:=X.wish λ_ _=>False
def Cx.Ok.wish(ok:X.Ok)(E:f_ 0):(X.wish E).Ok:=⟨ok.mod,ok.kind,ok.glob,ok.blt,ok.above,ok.inj,ok.has,ok.cab,ok.hd,ok.frames,ok.stk,ok.exf,ok.bs,ok.bsz,ok.noex,ok.exfs,ok.funs,ok.frf⟩
def Cx.Ok.unwish(ok:(X.wish E).Ok):X.Ok:=⟨ok.mod,ok.kind,ok.glob,ok.blt,ok.above,ok.inj,ok.has,ok.cab,ok.hd,ok.frames,ok.stk,ok.exf,ok.bs,ok.bsz,ok.noex,ok.exfs,ok.funs,ok.frf⟩
section
variable{σ:St}
def Inv.wish(I:P1 s)(E:f_ 0):Inv (X.wish E) jn σ H s:=⟨I.ok.wish E,I.os,I.bare,I.base,I.loc,I.cell,I.free,I.freeC,I.pin,I.hok,I.len⟩
def Inv.unwish(I:Inv (X.wish E) jn σ H s):P1 s:=⟨I.ok.unwish,I.os,I.bare,I.base,I.loc,I.cell,I.free,I.freeC,I.pin,I.hok,I.len⟩
def SP.unwish{D:Ends}{f:Flow}(h:SP (X.wish E) jn D f s'):SP X jn D f s':=by
 cases f with
 |next=>let⟨σ',H',I,q⟩:=h;show⟨σ',H',I.unwish,q⟩
 |brk=>let⟨σ',H',I,q⟩:=h;show⟨σ',H',I.unwish,q⟩
 |cont=>let⟨σ',H',I,q⟩:=h;show⟨σ',H',I.unwish,q⟩
 |ret u=>let⟨v,σ',H',I,r,q⟩:=h;show⟨v,σ',H',I.unwish,r,q⟩
def PSs.nox{st:B_ A_}{t:TS}(h:PSs X.nox st t):PSs X st t:=λjn s σ H D I hw=>Wz (Zg D (I.wish _) hw) (λ_ _ q=>q.unwish) λ_ _ z=>WQ z
end
variable{st:A_}{te:TE}{tc:TT}
section
variable{rest:B_ A_}{t u:TS}
abbrev O2:TS:=λD σ H=>D.nx σ H
abbrev QE(t u:TS):TS:=λD σ H=>t { D with nx:=u D} σ H
def J8:PSs X [] O2:=λ_ _ σ H _ I h=>wpAny_execs_nil ⟨σ,H,I,h⟩
def Gc(h1:PS X st t)(h2:PSs X rest u):PSs X (st::rest) (QE t u):=by
 intro jn s σ H D I h;refine wpAny_execs_cons<|thn (h1 jn s σ H { D with nx:=u D} I h) λf s1 q=>?_;cases f with
 |next=>let⟨σ',H',I',q⟩:=q;show h2 jn s1 σ' H' D I' q
 |ret v=>exact q
 |brk=>exact q
 |cont=>exact q
def J9(h1:PS X st t):PSs X [st] t:=by
 intro jn s σ H D I h;refine wpAny_execs_cons<|thn (h1 jn s σ H D I h) λf s1 q=>?_;cases f with
 |next=>exact wpAny_execs_nil q
 |ret v=>exact q
 |brk=>exact q
 |cont=>exact q
abbrev O3:TS:=λD σ H=>D.ct σ H
def B6:PS X (.Continue pos) O3:=λ_ _ σ H _ I h=>wpAny_Continue ⟨σ,H,I,h⟩
def Inv.quiet{σ:St}(I:P1 s):interactive X.env=false:=by simp[interactive,I.ok.kind]
abbrev O4(te:TE):TS:=λD σ H=>te σ H λ_ H1=>D.nx σ H1
def J'(he:Zr e te)(hs:YE e b_ pos.line X.env=pure false:=by rfl):PS X (.Expr e pos) (O4 te):=by intro jn s σ H D I h;show wpAny_Expr_any (thn (he jn s σ H _ I h) λv s1 ⟨x,H1,I1,r1,q1⟩=>⟨σ,H1,I1,q1⟩) I.quiet hs
abbrev QF(te:TE):TS:=λD σ H=>te σ H D.rt
def LI(he:Zr e te):PS X (.Return (a_ e) pos) (QF te):=by intro jn s σ H D I h;show wpAny_Return_some<|thn (he jn s σ H _ I h) λv s1 ⟨x,H1,I1,r1,q1⟩=>⟨x,σ,H1,I1,r1,q1⟩
abbrev QG(c:TT)(t u:TS):TS:=λD σ H=>c σ H λb H1=>if b=true then t D σ H1 else u D σ H1
def O5{a b:B_ A_}(hc:PT X c tc)(ha:PSs X a t)(hb:PSs X b u):PS X (.If c a b pos) (QG tc t u):=by
 intro jn s σ H D I h;refine wpAny_If<|thn (hc jn s σ H _ I h) λd s1 z9=>?_;let⟨H1,I1,q1⟩:=z9;cases d with
 |true=>exact ha jn s1 σ H1 D I1 q1
 |false=>exact hb jn s1 σ H1 D I1 q1
end
@[reducible]def TG:=V->St->Hp->(St->Hp->Prop)->Prop
@[reducible]def TGs:=B_ V->St->Hp->(St->Hp->Prop)->Prop
abbrev PG(X:Cx)(target:z_)(t:TG):Prop:=
 ∀(jn:g_ 0)(s:td)(σ:St)(H:Hp)(v:V)(u:s_)(Q:St->Hp->Prop),P1 s->ZG u->t v σ H Q->
  wpAny (h_ X) X.A (assign target X.env u) (λ_ s'=>∃σ' H',ZV s'/\Q σ' H') X.xe s
abbrev PGs(X:Cx)(ts:B_ z_)(t:TGs):Prop:=
 ∀(jn:g_ 0)(s:td)(σ:St)(H:Hp)(vs:B_ V)(us:ZM 0)(Q:St->Hp->Prop),P1 s->aK vs us->t vs σ H Q->
  wpAny (h_ X) X.A (assignInOrder ((Xn ts X.env).map (·.2)) us) (λ_ s'=>∃σ' H',ZV s'/\Q σ' H') X.xe s
@[reducible]def QH:=V->V->V->Hp->(Hp->Prop)->Prop
abbrev QI(X:Cx)(t:QH):Prop:=
 ∀(jn:g_ 0)(s:td)(σ:St)(H:Hp)(o i v:V)(ov iv u:s_)(Q:Hp->Prop),P1 s->RelV o ov->RelV i iv->ZG u->t o i v H Q->
  wpAny (h_ X) X.A (setItem ov iv u) (λ_ s'=>∃H',i_ H' s'/\Q H') X.xe s
abbrev Gd(i:Nat):TG:=λv σ H Q=>Q (σ.set i<|a_ v) H
def Ja(hN:X.N.Nodup)(hi:X.N[i]?=a_ x)(hx:Loc X.env.scope x)(hf:X.fn x=true\/V_ 0=a_ .local:=by first|exact .inl rfl|exact .inr rfl|assumption):PG X (.Name x pos) (Gd i):=by intro jn s σ H v u Q I r h;show wpAny_assign_Name<|B5 I hN hi hx r (λs' I'=>⟨_,H,I',h⟩) hf
abbrev QJ:TGs:=λvs σ H Q=>vs=[]/\Q σ H
abbrev O6(t:TG)(u:TGs):TGs:=λvs σ H Q=>∃v r,vs=v::r/\t v σ H λσ' H'=>u r σ' H' Q
def Jb:PGs X [] QJ:=by
 intro jn s σ H vs us Q I r h;let⟨e,h⟩:=h;subst e;cases r
 show assignInOrder_nil ⟨σ,H,I,h⟩
variable{es:B_ z_}
def Ge{t:TG}{u:TGs}(h1:PG X e t)(h2:PGs X es u)(hs:(Xn (e::es) X.env).map (·.2)=assign e X.env::(Xn es X.env).map (·.2):=by rfl):PGs X (e::es) (O6 t u):=by
 intro jn s σ H vs us Q I r h;let⟨v,vr,e1,h⟩:=h;subst e1;cases r with
 |cons r rr=>rw[hs];refine assignInOrder_cons<|thn (h1 jn s σ H _ _ _ I r h) λ_ s1 z9=>?_;let⟨σ1,H1,I1,q1⟩:=z9;show h2 jn s1 σ1 H1 _ _ Q I1 rr q1
abbrev O7(K:UF)(n:Nat)(t:TGs):TG:=λv σ H Q=>∃a xs,v=.ref a/\ZE a xs/\xs.length=n/\t xs σ H Q
variable{n:Nat}
def LJ{k:Nat}{t:TGs}(hc:X.calm=true)(h:PGs X es t)(hn:(Xn es X.env).length=n:=by rfl)(cg:(Xn es X.env).findIdx? (·.1)=b_:=by rfl):PG X (.Tuple es k pos) (O7 X.K n t):=by
 intro jn s σ H v u Q I r hw;let⟨a,xs,e1,hq,hl,hw⟩:=hw;subst e1;cases r
 let⟨its,rv,ht,hz⟩:=I.tuple hq;refine assign_Tuple_tuple (I.ok.hd hc) ht (by simp[hn,<-hl,rv.length]) cg λh' hx=>?_;let I1:P1 {s with heap:=h'}:=I.kept (t':=s.toks) λb o e=>hx b o (Vc<|U8 e) e;show h jn _ σ H xs _ Q I1 (l_ rv) hw
abbrev LK(te:TE)(g:TG):TS:=λD σ H=>te σ H λx H1=>g x σ H1 D.nx
variable{tg:z_}
def LL{g:TG}(he:Zr e te)(hg:PG X tg g)(hs:swapsWithSole [tg] e pos.line X.env=pure false:=by rfl)(hw:swappedStores [tg] e X.env=pure b_:=by rfl)(h1:(Xn [tg] X.env).map (·.2)=[assign tg X.env]:=by rfl):PS X (.Assign [tg] e pos) (LK te g):=by intro jn s σ H D I h;refine wpAny_Assign_stores (thn (he jn s σ H _ I h) λv s1 z9=>?_) hs hw;let⟨x,H1,I1,r1,q1⟩:=z9;rw[h1];show thn (hg jn s1 σ H1 x v _ I1 r1 q1) λ_ s2 q=>q
variable{pos':Pos}
def LM(hN:X.N.Nodup)(hi:X.N[i]?=a_ x)(hx:Loc X.env.scope x)(he:Zr e te)(hs:YE e (a_<|.Name x pos') pos.line X.env=pure false:=by rfl)(hf:X.fn x=true\/V_ 0=a_ .local:=by first|exact .inl rfl|exact .inr rfl|assumption):
  PS X (.Assign [.Name x pos'] e pos) (LK te<|Gd i):=by
 intro jn s σ H D I h;refine wpAny_Assign_Name (thn (he jn s σ H _ I h) λv s1 z9=>?_) hs;let⟨y,H1,I1,r1,q1⟩:=z9;show B5 I1 hN hi hx r1 (λs2 I2=>⟨_,H1,I2,q1⟩) hf
abbrev LN(c:TT)(tb:TS):TS:=λD σ H=>∃W:Nat->St->Hp->Prop,(∃m,W m σ H)/\∀m σ H,W m σ H->
 c σ H λb H1=>if b=true then ∃N:St->Hp->Prop,(∀σ' H',N σ' H'->∃m',m'<m/\W m' σ' H')/\tb { D with nx:=N,ct:=N,bk:=D.nx} σ H1 else D.nx σ H1
variable{body:B_ A_}
def Gf{tb:TS}(hp:PassesOwn (h_ X) X.A X.env X.xe)(hc:PT X c tc)(hb:PSs X body tb):PS X (.While c body [] pos) (LN tc tb):=by
 intro jn s σ H D I h;let⟨W,⟨m0,w0⟩,turn⟩:=h;refine wpAny_While<|codeAny_whileLoop (λn s'=>∃σ' H',ZV s'/\W n σ' H') ?_ m0 ⟨σ,H,I,w0⟩;rintro n s1 ⟨σ1,H1,I1,w1⟩;refine XF hp<|thn (hc jn s1 σ1 H1 _ I1<|turn n σ1 H1 w1) λb s2 z9=>?_;let⟨H2,I2,q2⟩:=z9;cases b with
 |true=>
  let⟨N,hN,q2⟩:=q2;rw[YS 0];refine XF hp<|thn (hb jn s2 σ1 H2 _ I2 q2) λf s3 q3=>?_;cases f with
  |next=>let⟨σ3,H3,I3,n3⟩:=q3;let⟨m',hm,w3⟩:=hN σ3 H3 n3;show⟨m',hm,σ3,H3,I3,w3⟩
  |cont=>let⟨σ3,H3,I3,n3⟩:=q3;let⟨m',hm,w3⟩:=hN σ3 H3 n3;show⟨m',hm,σ3,H3,I3,w3⟩
  |brk=>exact q3
  |ret v=>exact q3
 |false=>rw[if_neg Ve];show wpAny_execs_nil ⟨σ1,H2,I2,q2⟩
structure It where
 go:Nat->Hp->Prop
 yld:Nat->Hp->V->Hp->Prop
 stop:Nat->Hp->Prop
abbrev B7(X:Cx)(jn:g_ 0)(H:Hp)(b:t_):Prop:=H b=b_/\b≠X.env.locals/\b∉X.fs/\(b∈X.ex\/X.s₀.heap.objs.size<=b)/\(∀x c,T_ 0=a_ c->c≠b)/\∀p∈X.pn++jn,p.1≠b
def Inv.fpOk{σ:St}{b:t_}(I:P1 s)(hb:(e_ s)<=b)(hn:H' b=b_):B7 X jn H' b:=by
 refine⟨hn,WL<|Vo I.lt hb,I.nofs hb,.inr<|VO I.sz hb,λx c e z=>?_,λp hp z=>?_⟩
 ·let⟨v,q⟩:=I.cell x c e;show absurd (Vo q.lt (by rw[z];show hb))<|WT _
 ·show absurd (Vo (U8 (I.pin p hp).1) (by rw[z];show hb)) (WT _)
structure Turn(P:y_)(w:x_)(K:UF)(tg:z_)(J:It)(fp:B_ t_)(it:t_)(tn:Nat->w_->Prop):Prop where
 mem:it∈fp
 obj:∀i h,tn i h->∀b∈fp,∃o,h.get? b=some o/\∀v,o.data≠.cell v
 keep:∀i h h',tn i h->(∀b∈fp,∀o,h.get? b=some o->h'.get? b=some o)->tn i h'
 item:∀(X:Cx),X.prog=P->X.w=w->X.K=K->X.calm=true->∀(i:Nat)(jn:g_ 0)(s:td)(σ:St)(H:Hp)(E:f_ 0),Inv X jn σ H s->(∀b∈fp,B7 X jn H b)->tn i s.heap->J.go i H->
  wpAny (model P w) X.A (pyNext (.ref it)) (λr s1=>∃u,r=some u/\
   wpAny (model P w) X.A (letOwnedTupleGo tg (.ref it) u) (λ_ s2=>∃x H',Inv X jn σ H' s2/\RelV x u/\J.yld i H x H'/\tn (i+1) s2.heap/\∀b∈fp,H' b=none) E s1) E s
 done:∀(X:Cx),X.prog=P->X.w=w->X.K=K->X.calm=true->∀(i:Nat)(jn:g_ 0)(s:td)(σ:St)(H:Hp)(E:f_ 0),Inv X jn σ H s->(∀b∈fp,B7 X jn H b)->tn i s.heap->J.stop i H->
  wpAny (model P w) X.A (pyNext (.ref it)) (λr s1=>r=none/\Inv X jn σ H s1) E s
 self:∀(A:v_)(i:Nat)(s:td)(Q:f_ 0)(E:f_ 0),tn i s.heap->Q (.ref it) s->wpAny (model P w) A (pyIter (.ref it)) Q E s
@[reducible]def TI:=St->Hp->(It->Hp->Prop)->Prop
abbrev PIE(X:Cx)(jn:g_ 0)(σ:St)(tg:z_)(R:It->Hp->Prop)(xt:s_)(s2:td):Prop:=
 ∃(it:t_)(fp:B_ t_)(tn:Nat->w_->Prop)(J:It)(H':Hp),xt=.ref it/\i_ H' s2/\Turn X.prog X.w X.K tg J fp it tn/\tn 0 s2.heap/\(∀b∈fp,B7 X jn H' b)/\R J H'
abbrev PI(X:Cx)(tg iter:z_)(wi:TI):Prop:=
 ∀(jn:g_ 0)(s:td)(σ:St)(H:Hp)(R:It->Hp->Prop),P1 s->wi σ H R->
  wpAny (h_ X) X.A (eval iter X.env) (λv s1=>wpAny (h_ X) X.A (pyIter v) (PIE X jn σ tg R) X.xe s1) X.xe s
def B8{o:Obj}{n:String}{vs:YV 0}{Q:j_ Unit}(ho:s.heap.get? it=a_ o)(hc:o.cls=.type n)(hd:o.data=.fields vs)(hn:["enumerate","zip","dict_itemiterator","dict_reverseitemiterator","odict_iterator","itertools.zip_longest","itertools.pairwise"].contains n=false)(hQ:Q () s):wpAny M A (letOwnedTupleGo tg (.ref it) u) Q E s:=by
 unfold letOwnedTupleGo;cases tg <;> first
  |exact SL hQ
  | (cases u <;> first
    |exact SL hQ
    | (refine SB (wpAny_load ho ?_)
       rw[hc,hd]
       change wpAny M A (if(["enumerate","zip","dict_itemiterator","dict_reverseitemiterator","odict_iterator","itertools.zip_longest","itertools.pairwise"].contains n&&vs[0]? == a_ (rawInt _))=true then _ else _) Q E s
       rw[if_neg (by intro h;rw[hn,Bool.false_and]at h;cases h)];show SL hQ))
abbrev Itl(K:UF)(a:t_):It:=⟨λi H=>∃xs x,ZT a xs/\xs[i]?=a_ x,λi H x H'=>H'=H/\∀xs,ZT a xs->xs[i]?=a_ x,λi H=>∃xs,ZT a xs/\xs.length<=i⟩
abbrev Itt(K:UF)(a:t_):It:=⟨λi H=>∃xs x,ZE a xs/\xs[i]?=a_ x,λi H x H'=>H'=H/\∀xs,ZE a xs->xs[i]?=a_ x,λi H=>∃xs,ZE a xs/\xs.length<=i⟩
abbrev Itr(lo:Int)(n:Nat):It:=⟨λi _=>i<n,λi H x H'=>H'=H/\x=.int (lo+i),λi _=>n<=i⟩
def yK(a it:t_):Turn P w K tg (Itl K a) [it] it (λi h=>h.IsListIter it a i) where
 mem:=by simp
 obj:=λi h st b hb=>by
  let e:b=it:=by simpa using hb
  subst e;let⟨o,e,c,d⟩:=st;show⟨o,e,λv z=>by rw[d]at z;cases z⟩
 keep:=λi h h' st k=>st.at λo e=>k it (by simp) o e
 item:=by
  intro X hP hw hK hc i jn s σ H E I hf st hg;subst hP hw hK;let⟨xs,x,hq,hx⟩:=hg;let⟨its,rv,p,hz⟩:=I.list hq;let⟨u,hu,ru⟩:=rv.get hx;let⟨f0,f1,f2,f3,f4,f5⟩:=hf it (by simp);refine wpAny_pyNext_list_item st p.isList (x:=u) (l_ hu) λh' bw sb=>?_;let I1:P1 {s with heap:=h'}:=I.turned (t':=s.toks) (λb o hb e=>(sb.2 b hb).trans e) f0 f1 f3 f4 f5;let⟨o,e,c,d⟩:=id bw;show⟨u,rfl,B8 (s:={s with heap:=h'}) e c d nofun ⟨x,H,I1,ru,⟨rfl,λys hy=>by rw[I.list_inj hy hq];show hx⟩,bw,λb hb=>(hf b hb).1⟩⟩
 done:=by intro X hP hw hK hc i jn s σ H E I hf st hg;subst hP hw hK;let⟨xs,hq,hx⟩:=hg;let⟨its,rv,p,hz⟩:=I.list hq;let⟨f0,f1,f2,f3,f4,f5⟩:=hf it (by simp);let hl:=rv.length;show wpAny_pyNext_list_end (I.ok.hd hc) st p.isList (by simp;omega) λh' eb=>⟨rfl,I.turned (t':=s.toks) (λb o hb e=>eb b o hb e) f0 f1 f3 f4 f5⟩
 self:=λ_ _ _ _ _ st h=>wpAny_pyIter_listiter st h
def Co(a it:t_):Turn P w K tg (Itt K a) [it] it (λi h=>h.IsTupleIter it a i) where
 mem:=by simp
 obj:=λi h st b hb=>by
  let e:b=it:=by simpa using hb
  subst e;let⟨o,e,c,d⟩:=st;show⟨o,e,λv z=>by rw[d]at z;cases z⟩
 keep:=λi h h' st k=>st.at λo e=>k it (by simp) o e
 item:=by
  intro X hP hw hK hc i jn s σ H E I hf st hg;subst hP hw hK;let⟨xs,x,hq,hx⟩:=hg;let⟨its,rv,p,hz⟩:=I.tuple hq;let⟨u,hu,ru⟩:=rv.get hx;let⟨f0,f1,f2,f3,f4,f5⟩:=hf it (by simp);refine wpAny_pyNext_tuple_item st (show s.heap.IsTuple a its.toArray from p) (x:=u) (l_ hu) λh' bw sb=>?_
  let I1:P1 {s with heap:=h'}:=I.turned (t':=s.toks) (λb o hb e=>(sb.2 b hb).trans e) f0 f1 f3 f4 f5;let⟨o,e,c,d⟩:=id bw;show⟨u,rfl,B8 (s:={s with heap:=h'}) e c d nofun ⟨x,H,I1,ru,⟨rfl,λys hy=>by rw[I.tuple_inj hy hq];show hx⟩,bw,λb hb=>(hf b hb).1⟩⟩
 done:=by intro X hP hw hK hc i jn s σ H E I hf st hg;subst hP hw hK;let⟨xs,hq,hx⟩:=hg;let⟨its,rv,p,hz⟩:=I.tuple hq;let⟨f0,f1,f2,f3,f4,f5⟩:=hf it (by simp);let hl:=rv.length;show wpAny_pyNext_tuple_end (I.ok.hd hc) st (show s.heap.IsTuple a its.toArray from p) (by simp;omega) λh' eb=>⟨rfl,I.turned (t':=s.toks) (λb o hb e=>eb b o hb e) f0 f1 f3 f4 f5⟩
 self:=λ_ _ _ _ _ st h=>wpAny_pyIter_tupleiter st h
def Cp(it:t_)(lo:Int)(n:Nat):Turn P w K tg (Itr lo n) [it] it (λi h=>IsRangeIter h it (lo+(i:Nat)*1) ((n:Int)-(i:Nat)) 1) where
 mem:=by simp
 obj:=λi h st b hb=>by
  let e:b=it:=by simpa using hb
  subst e;show⟨_,st,λv z=>by let z':Data.fields _=Data.cell v:=z;cases z'⟩
 keep:=λi h h' st k=>k it (by simp) _ st
 item:=by
  intro X hP hw hK hc i jn s σ H E I hf st hg;subst hP hw hK;let⟨f0,f1,f2,f3,f4,f5⟩:=hf it (by simp);let W:=Walks.range (prog:=X.prog) (w:=X.w) (I.ok.hd hc) it lo 1 n;refine W.item i s _ _ hg st λv h' tk hv bw kk=>?_;let⟨t,rfl⟩:=hv;let I1:P1 {s with heap:=h',toks:=tk}:=I.turned (λb o hb e=>kk b o (l_ hb) e) f0 f1 f3 f4 f5;refine⟨_,rfl,B8 (s:={s with heap:=h',toks:=tk}) (n:="range_iterator") bw rfl rfl nofun ⟨.int<|lo+i,H,I1,⟨t,?_⟩,⟨rfl,rfl⟩,bw,λb hb=>(hf b hb).1⟩⟩;rw[Int.mul_one]
 done:=by intro X hP hw hK hc i jn s σ H E I hf st hg;subst hP hw hK;let⟨f0,f1,f2,f3,f4,f5⟩:=hf it (by simp);show wpAny_pyNext_range_end (I.ok.hd hc) st (by have:n<=i:=hg;omega) λh' eb=>⟨rfl,I.turned (t':=s.toks) (λb o hb e=>eb b o hb e) f0 f1 f3 f4 f5⟩
 self:=λ_ _ _ _ _ st h=>wpAny_pyIter_rangeiter st h
def B9{σ:St}{R:It->Hp->Prop}{lo hi:Int}{t u v:Tok}{tk:Nat}(I:P1 s)(h1:-(2 ^ 62)<=lo)(h2:lo<2 ^ 62)(h3:-(2 ^ 62)<=hi)(h4:hi<2 ^ 62)(q:R (Itr lo (hi-lo).toNat) H):wpAny (h_ X) X.A (pyIter<|.ref<|e_ s) (PIE X jn σ tg R) E {s with heap:=s.heap.push {cls:=.type "range",data:=.fields #[.int lo t,.int hi u,.int 1 v]},toks:=tk}:=by
 refine wpAny_pyIter_range (IsRange.new ..) (small_one h1 h2 h3 h4) ?_;let I1:P1 {s with heap:=s.heap.push {cls:=.type "range",data:=.fields #[.int lo t,.int hi u,.int 1 v]},toks:=tk}:=I.kept λb o e=>Zn e;refine⟨(s.heap.push {cls:=.type "range",data:=.fields #[.int lo t,.int hi u,.int 1 v]}).objs.size,[(s.heap.push {cls:=.type "range",data:=.fields #[.int lo t,.int hi u,.int 1 v]}).objs.size],_,_,H,rfl,
  I1.kept (t':=tk) λb o e=>Zn e,Cp _ lo (hi-lo).toNat,?_,λb hb=>?_,q⟩
 ·let e1:lo+((0:Nat):Int)*1=lo:=by simp
  let e2:(((hi-lo).toNat:Nat):Int)-((0:Nat):Int)=Builtin.Range.rangeSize lo hi 1:=by rw[rangeSize_one];split <;> omega
  change IsRangeIter _ _ (lo+((0:Nat):Int)*1) ((((hi-lo).toNat:Nat):Int)-((0:Nat):Int)) 1
  rw[e1,e2];show Za 0
 ·let e:b=(s.heap.push {cls:=.type "range",data:=.fields #[.int lo t,.int hi u,.int 1 v]}).objs.size:=by simpa using hb
  subst e;show I1.fpOk (U1 _)<|I1.hok.fresh<|U1 _
abbrev QK(wi:TI)(g:TG)(tb:TS):TS:=λD σ H=>wi σ H λJ H1=>∃W:Nat->Nat->St->Hp->Prop,(∃m,W 0 m σ H1)/\∀i m σ H,W i m σ H->
 (J.stop i H/\D.nx σ H)\/(J.go i H/\∃N:St->Hp->Prop,(∀σ' H',N σ' H'->∃m',m'<m/\W (i+1) m' σ' H')/\∀x H',J.yld i H x H'->g x σ H' λσ2 H2=>tb { D with nx:=N,ct:=N,bk:=D.nx} σ2 H2)
abbrev uK(fp:B_ t_)(h:w_):g_ 0:=fp.filterMap λb=>(h.get? b).map λo=>(b,o)
variable{fp:B_ t_}
def kC{h:w_}{b:t_}{o:Obj}(hb:b∈fp)(e:h.get? b=a_ o):(b,o)∈uK fp h:=List.mem_filterMap.mpr ⟨b,hb,by rw[e];rfl⟩
def EN{h:w_}{p:t_×Obj}(hp:p∈uK fp h):p.1∈fp/\h.get? p.1=a_ p.2:=by
 let⟨b,hb,e⟩:=List.mem_filterMap.mp hp;cases q:h.get? b with
 |none=>rw[q]at e;cases e
 |some o=>rw[q]at e;let e':(b,o)=p:=Vq e;subst e';show⟨hb,q⟩
def Inv.pinned{σ:St}(I:P1 s)(hf:∀b∈fp,B7 X jn H b)(ho:∀b∈fp,∃o,N_ 0=a_ o/\∀v,o.data≠.cell v):Inv X (jn++uK fp s.heap) σ H s:=I.pins_of λp hp=>(Vx.mp hp).elim (λz=>I.pin p<|Vb _ z) λz=>by let⟨hb,e⟩:=EN z;let⟨f0,f1,f2,_⟩:=hf p.1 hb;let⟨o,e',d⟩:=ho p.1 hb;rw[e]at e';cases e';show⟨e,f0,f1,f2,d⟩
def Inv.unpinned{pl:g_ 0}{σ:St}(I:Inv X (jn++pl) σ H s):P1 s:=I.pins_of λp hp=>I.pin p<|Vb _<|Ws _ hp
variable{iter:z_}{wi:TI}
def LO{g:TG}{tb:TS}(hp:PassesOwn (h_ X) X.A X.env X.xe)(hc:X.calm=true)(hi:PI X tg iter wi)(hg:PG X tg g)(hb:PSs X body tb)(hs:∀x,q0c 0=pure x:=by intro _;rfl):PS X (.For tg iter body [] pos) (QK wi g tb):=by
 intro jn s σ H D I h;refine wpAny_For (thn (hi jn s σ H _ I h) λv s1 h1=>thn h1 λxt s2 h2=>?_) hs;let⟨it,fp,tn,J,H2,e,I2,T,ji,f2,W,⟨m0,w0⟩,turn⟩:=h2;subst e
 -- what stays true of the iterator's objects through the loop
 let nv:∀{H':Hp},(∀b∈fp,H' b=b_)->∀b∈fp,B7 X jn H' b:=λhn b hb=>⟨hn b hb,(f2 b hb).2⟩;refine codeAny_forLoop_any (λn s'=>∃i σ' H',ZV s'/\tn i s'.heap/\(∀b∈fp,H' b=b_)/\W i n σ' H') ?_ m0 ⟨0,σ,H2,I2,ji,λb hb=>(f2 b hb).1,w0⟩;rintro n s3 ⟨i,σ3,H3,I3,rn,fr3,w3⟩;rcases turn i n σ3 H3 w3 with⟨stop,qn⟩|⟨go,N,hN,step⟩
 ·refine XF hp (thn (T.done X rfl rfl rfl hc i jn s3 σ3 H3 X.xe I3 (nv fr3) rn stop) λr s4 z9=>?_);let⟨hr,I4⟩:=z9;subst hr;show wpAny_execs_nil ⟨σ3,H3,I4,qn⟩
 ·refine XF hp (thn (T.item X rfl rfl rfl hc i jn s3 σ3 H3 X.xe I3 (nv fr3) rn go) λr s4 z9=>?_);let⟨u,hr,h4⟩:=z9;subst hr;refine XF hp<|thn h4 λ_ s5 z9=>?_;let⟨x,H5,I5,r5,y5,ow,jv⟩:=z9;let Ut:=I5.pinned (nv jv)<|T.obj _ _ ow;refine XF hp<|thn (hg _ s5 σ3 H5 x u _ Ut r5<|step x H5 y5) λ_ s6 z9=>?_;let⟨σ6,H6,I6,q6⟩:=z9;refine XF hp<|thn (hb _ s6 σ6 H6 _ I6 q6) λf s7 q7=>?_;let again:∀{σ7:St}{H7:Hp},Inv X (jn++uK fp s5.heap) σ7 H7 s7->N σ7 H7->∃m,m<n/\∃i σ' H',ZV s7/\tn i s7.heap/\(∀b∈fp,H' b=b_)/\W i m σ' H':=λ{σ7 H7} I7 n7=>by let⟨m',hm,w7⟩:=hN σ7 H7 n7;refine⟨m',hm,i+1,σ7,H7,I7.unpinned,T.keep _ _ _ ow λb hb o e=>(I7.pin (b,o)<|Vb _<|Vb _<|kC hb e).1,λb hb=>?_,w7⟩;let⟨o,e,d⟩:=T.obj _ _ ow b hb;show(I7.pin (b,o)<|Vb _<|Vb _<|kC hb e).2.1
  cases f with
  |next=>let⟨σ7,H7,I7,n7⟩:=q7;show again I7 n7
  |cont=>let⟨σ7,H7,I7,n7⟩:=q7;show again I7 n7
  |brk=>let⟨σ7,H7,I7,q7⟩:=q7;show⟨σ7,H7,I7.unpinned,q7⟩
  |ret v=>let⟨x7,σ7,H7,I7,r7,q7⟩:=q7;show⟨x7,σ7,H7,I7.unpinned,r7,q7⟩
@[reducible]def R2:=V->V->Hp->VK->Prop
abbrev OpR(X:Cx)(f:s_->s_->Sem s_)(r:R2):Prop:=
 ∀(jn:g_ 0)(s:td)(σ:St)(H:Hp)(x y:V)(v u:s_)(Q:VK),P1 s->ZF v->RelV y u->r x y H Q->
  wpAny (h_ X) X.A (f v u) (Y6 Q) X.xe s
abbrev cS(X:Cx)(f:s_)(r:B_ V->Hp->VK->Prop):Prop:=
 ∀(jn:g_ 0)(s:td)(σ:St)(H:Hp)(xs:B_ V)(us:ZM 0)(Q:VK),P1 s->aK xs us->r xs H Q->
  wpAny (h_ X) X.A (call f us) (Y6 Q) X.xe s
abbrev QL(X:Cx)(r:V->Hp->(Bool->Hp->Prop)->Prop):Prop:=
 ∀(jn:g_ 0)(s:td)(σ:St)(H:Hp)(x:V)(v:s_)(Q:Bool->Hp->Prop),P1 s->ZF v->r x H Q->
  wpAny (h_ X) X.A (truthy v) (TP X jn σ Q) X.xe s
abbrev tOp(r:R2)(ta tb:TE):TE:=λσ H Q=>ta σ H λx H1=>tb σ H1 λy H2=>r x y H2 Q
abbrev rI(C:Int->Int->Prop)(g:Int->Int->V):R2:=λx y H Q=>∃i j,x=.int i/\y=.int j/\C i j/\Q (g i j) H
abbrev rI0(g:Int->Int->V):R2:=λx y H Q=>∃i j,x=.int i/\y=.int j/\Q (g i j) H
variable{f:s_->s_->Sem s_}{g:Int->Int->Int}
section
variable{a b:z_}{tc:TE}
def LP(ha:Zr a ta)(hb:Zr b tb){σ:St}{R:V->V->Hp->Prop}(I:P1 s)(h:ta σ H λx H1=>tb σ H1 λy H2=>R x y H2)(hf:∀v u s2 x y H2,i_ H2 s2->ZF v->RelV y u->R x y H2->wpAny (h_ X) X.A (f v u) Q X.xe s2):
  wpAny (h_ X) X.A (eval a X.env) (λv s₁=>wpAny (h_ X) X.A (eval b X.env) (λu s₂=>wpAny (h_ X) X.A (f v u) Q X.xe s₂) X.xe s₁) X.xe s:=by
 refine thn (q0e 0) λv s1 z9=>?_;let⟨x,H1,I1,r1,q1⟩:=z9;refine thn (hb jn s1 σ H1 _ I1 q1) λu s2 z9=>?_;let⟨y,H2,I2,r2,q2⟩:=z9;show hf v u s2 x y H2 I2 r1 r2 q2
def O8{op:Operator}{r:R2}(ho:Y3 (Wx op) r)(ha:Zr a ta)(hb:Zr b tb):Zr (.BinOp a op b pos) (tOp r ta tb):=by intro jn s σ H Q I h;show wpAny_BinOp<|LP ha hb I h λv u s2 x y H2 I2 rx ry q=>ho jn s2 σ H2 x y v u Q I2 rx ry q
def opI{C:Int->Int->Prop}(rule:∀(i j:Int)(t u:Tok)(s:td)(Q:f_ 0)(E:f_ 0),C i j->Q (.int (g i j) s.toks) { s with toks:=s.toks+1}->wpAny (h_ X) X.A (f (.int i t)<|.int j u) Q E s):
  Y3 f (rI C λi j=>.int<|g i j):=by
 intro jn s σ H x y v u Q I rx ry h;let⟨i,j,rfl,rfl,hc,q⟩:=h;let⟨t,rfl⟩:=rx;let⟨t',rfl⟩:=ry;show rule i j t t' s _ _ hc ⟨.int<|g i j,H,ZS 0,⟨_,rfl⟩,q⟩
def O9(rule:∀(i j:Int)(t u:Tok)(s:td)(Q:f_ 0)(E:f_ 0),Q (.int (g i j) s.toks) { s with toks:=s.toks+1}->wpAny (h_ X) X.A (f (.int i t)<|.int j u) Q E s):
  Y3 f (rI0 λi j=>.int<|g i j):=by
 intro jn s σ H x y v u Q I rx ry h;let⟨i,j,rfl,rfl,q⟩:=h;let⟨t,rfl⟩:=rx;let⟨t',rfl⟩:=ry;show rule i j t t' s _ _ ⟨.int<|g i j,H,ZS 0,⟨_,rfl⟩,q⟩
def Jc{g:Int->Int->Bool}(rule:∀(i j:Int)(t u:Tok)(s:td)(Q:f_ 0)(E:f_ 0),Q (.bool<|g i j) s->wpAny (h_ X) X.A (f (.int i t)<|.int j u) Q E s):
  Y3 f (rI0 λi j=>.bl<|g i j):=by
 intro jn s σ H x y v u Q I rx ry h;let⟨i,j,rfl,rfl,q⟩:=h;let⟨t,rfl⟩:=rx;let⟨t',rfl⟩:=ry;show rule i j t t' s _ _ ⟨.bl<|g i j,H,I,rfl,q⟩
abbrev Gg(i j:Int):Prop:=0<j/\j<1073741824
abbrev EO(i j:Int):Prop:=0<=j/\j<=1000000/\i.natAbs<2 ^ 64
abbrev Ba(i j:Int):Prop:=(-(2 ^ 64)<i/\i<2 ^ 64)\/(-(2 ^ 64)<j/\j<2 ^ 64)
def Ba.ok{i j:Int}(h:Ba i j):IntMulOk i j:=by
 rcases h with⟨h1,h2⟩|⟨h1,h2⟩
 ·show .of_left (intBits_le_64 h1 h2)
 ·show .of_right (intBits_le_64 h1 h2)
def LQ:Y3 (Wx .Add) (rI0 λi j=>.int<|i+j):=O9 λ_ _ _ _ _ _ _ q=>add_int q
def LR:Y3 (Wx .Sub) (rI0 λi j=>.int<|i-j):=O9 λ_ _ _ _ _ _ _ q=>sub_int q
def LS:Y3 (Wx .Mult) (rI Ba λi j=>.int<|i*j):=opI λ_ _ _ _ _ _ _ hc q=>mul_int q hc.ok
def Jd:Y3 (Wx .FloorDiv) (rI Gg λi j=>.int<|i/j):=opI λi j _ _ _ _ _ hc q=>by let h1:(0:Int)<j:=hc.1;let h2:j<1073741824:=hc.2;show floordiv_int ⋯ (by rw[Int.fdiv_eq_ediv_of_nonneg i ⋯];show q) (.inl<|PyProof.noPylong_small ⋯)
def LU:Y3 (Wx .Mod) (rI (λ_ j=>0<j) λi j=>.int<|i%j):=opI λi j _ _ _ _ _ hc q=>by let h1:(0:Int)<j:=hc;show mod_int' ⋯ (by rw[Int.fmod_eq_emod_of_nonneg i ⋯];show q)
def LW:Y3 (Wx .Pow) (rI EO λi j=>.int<|i ^ j.toNat):=opI λ_ _ _ _ _ _ _ hc q=>pow_int_small hc.1 hc.2.1 hc.2.2 q
end
def Je{i j:Int}:decide (V.int i=V.int j)=(i == j):=by rw[WE];simp
def Jf{i j:Str}:decide (V.str i=V.str j)=(i == j):=by rw[WE];simp
def oG{σ:St}{Q:VK}{k k':Bool}(I:P1 s)(q:Q (.bl k) H)(e:k=k'):Y6 Q (.bool k') s:=by subst e;show⟨.bl k,H,I,rfl,q⟩
def Oa:Y3 (VC .Lt) (rI0 λi j=>.bl<|decide (i<j)):=Jc λ_ _ _ _ _ _ _ q=>lt_int q
def Ob:Y3 (VC .LtE) (rI0 λi j=>.bl<|decide (i<=j)):=Jc λ_ _ _ _ _ _ _ q=>le_int q
def Oc:Y3 (VC .Gt) (rI0 λi j=>.bl<|decide (j<i)):=Jc λ_ _ _ _ _ _ _ q=>gt_int q
def Od:Y3 (VC .GtE) (rI0 λi j=>.bl<|decide (j<=i)):=Jc λ_ _ _ _ _ _ _ q=>ge_int q
def ER:Y3 (VC .Lt) (λx y H Q=>∃i j,x=.str i/\y=.str j/\Q (.bl<|decide (i.cps.toList<j.cps.toList)) H):=by intro jn s σ H x y v u Q I rx ry h;let⟨i,j,rfl,rfl,q⟩:=h;let⟨t,rfl⟩:=rx;let⟨t',rfl⟩:=ry;show lt_str<|oG I q rfl
def Jg:Y3 (VC .IsNot) (λx y H Q=>y=.non/\Q (.bl<|!decide (x=.non)) H):=by
 intro jn s σ H x y v u Q I rx ry h;let⟨rfl,q⟩:=h;cases ry
 refine isnot_none_gen<|oG I q ?_;cases x <;> first
  |(cases rx;rfl)
  |(let⟨t,rfl⟩:=rx;rfl)
def OpR.or{r r':R2}(h:Y3 f r)(h':Y3 f r'):Y3 f (λx y H Q=>r x y H Q\/r' x y H Q):=by
 intro jn s σ H x y v u Q I rx ry q;rcases q with q|q
 ·show Zg x y v u Q I rx ry q
 ·show h' jn s σ H x y v u Q I rx ry q
variable{op:CmpOp}
def Gh(b:z_)(h:op≠.In:=by decide)(h2:op≠.NotIn:=by decide):behindInMarks op b=false:=by
 let e1:(op == CmpOp.In)=false:=by cases op <;> first|rfl|exact absurd rfl h
 let e2:(op == CmpOp.NotIn)=false:=by cases op <;> first|rfl|exact absurd rfl h2
 cases b <;> simp[behindInMarks,e1,e2]
def Jh{a:z_}{b:z_}{r:R2}(ho:Y3 (VC op) r)(ha:Zr a ta)(hb:Zr b tb)(hm:behindInMarks op b=false):Zr (.Compare a [op] [b] pos) (tOp r ta tb):=by intro jn s σ H Q I h;show wpAny_Compare1 (LP ha hb I h λv u s2 x y H2 I2 rx ry q=>ho jn s2 σ H2 x y v u Q I2 rx ry q) hm
abbrev Oe(t:TE):TT:=λσ H Q=>t σ H λx H'=>∃k,x=.bl k/\Q k H'
abbrev Gi(r r':R2)(ta tb tc:TE):TE:=λσ H Q=>ta σ H λx H1=>tb σ H1 λy H2=>r x y H2 λz H3=>∃k,z=.bl k/\
 (if k=true then tc σ H3 λw' H4=>r' y w' H4 Q else Q (.bl false) H3)
variable{ko:CmpOp}
def Gj{a:z_}{b:z_}{tc:TE}{r r':R2}(ho:Y3 (VC op) r)(de:Y3 (VC ko) r')(ha:Zr a ta)(hb:Zr b tb)(hc:Zr c tc)(hm:lastMarks [op,ko] [b,c]=false:=by with_unfolding_all rfl):PT X (.Compare a [op,ko] [b,c] pos) (Oe<|Gi r r' ta tb tc):=by
 intro jn s σ H Q I h;refine isTrue_chain (thn (q0e 0) λv s1 ⟨x,H1,I1,r1,q1⟩=>test_link<|thn (hb jn s1 σ H1 _ I1 q1) λu s2 ⟨y,H2,I2,r2,q2⟩=>thn (ho jn s2 σ H2 x y v u _ I2 r1 r2 q2) λd s3 ⟨z,H3,I3,r3,k,e,q3⟩=>?_) hm;subst e;cases r3
 refine XH ?_;cases k with
 |false=>
  let⟨k',e',q'⟩:=q3;cases e'
  show ite_ff ⟨H3,I3,q'⟩
 |true=>
  refine ite_tt<|test_last<|thn (hc jn s3 σ H3 _ I3 q3) λw' s4 ⟨z',H4,I4,r4,q4⟩=>thn (de jn s4 σ H4 y z' u w' _ I4 r2 r4 q4) λd' s5 z9=>?_;let⟨z2,H5,I5,r5,k2,e2,q5⟩:=z9;subst e2;cases r5
  show XH ⟨H5,I5,q5⟩
abbrev Cq(K:UF)(x:V)(H:Hp)(k:Bool):Prop:=
 match x with
 |.non=>k=false
 |.bl b=>k=b
 |.int i=>k=(i != 0)
 |.str y=>y.length<=U9/\k=((y.length:Int) != 0)
 |.byt y=>y.size<=U9/\k=((y.size:Int) != 0)
 |.ref p=>(∃xs,ZT p xs/\k=!xs.isEmpty)\/(∃xs,ZE p xs/\k=!xs.isEmpty)\/∃kvs,H p=a_ (.dK kvs)/\k=!kvs.isEmpty
 |_=>False
def Cr{κ:Type}{kvs:B_ (κ×V)}{vs:B_ (κ×s_)}(r:KV kvs vs):(!vs.isEmpty)=!kvs.isEmpty:=by cases r <;> rfl
variable{its:ZM 0}
def uL{xs:B_ V}(r:aK xs its):(!its.toArray.isEmpty)=!xs.isEmpty:=by cases r <;> simp
def oH:(U9:Nat)<2 ^ 63:=by rw[VN];decide
def Gk:QL X (λx H Q=>∃k,Cq X.K x H k/\Q k H):=by
 intro jn s σ H x v Q I rx h;let⟨k,e,q⟩:=h;let hl:=oH;let hs:U9=16777216:=VN;cases x with
 |non=>
  cases rx
  let e':k=false:=e;subst e';show truthy_none ⟨H,I,q⟩
 |bl b=>
  cases rx
  let e':k=b:=e;subst e';show XH ⟨H,I,q⟩
 |int i=>let⟨t,rfl⟩:=rx;let e':k=(i != 0):=e;subst e';show PySem.P.truthy_int ⟨H,I,q⟩
 |str y=>let⟨t,rfl⟩:=rx;obtain⟨hy,e'⟩:y.length<=U9/\k=((y.length:Int) != 0):=e;subst e';show PySem.P.truthy_str ⋯ ⟨H,ZS 0,q⟩
 |byt y=>let⟨t,rfl⟩:=rx;obtain⟨hy,e'⟩:y.size<=U9/\k=((y.size:Int) != 0):=e;subst e';show PySem.W.truthy_bytes ⋯ ⟨H,ZS 0,q⟩
 |ref p=>
  cases rx
  let e':(∃xs,SqL X.K H p xs/\k=!xs.isEmpty)\/(∃xs,SqT X.K H p xs/\k=!xs.isEmpty)\/∃kvs,H p=a_ (.dK kvs)/\k=!kvs.isEmpty:=e;rcases e' with⟨xs,hx,e'⟩|⟨xs,hx,e'⟩|⟨kvs,hx,e'⟩
  ·subst e';let⟨its,r,pl,hz⟩:=I.list hx;let hlen:=r.length;show wpAny_truthy_list pl.isList (by simp only[U6];omega) ⟨H,ZS 0,by rw[uL r];show q⟩
  ·subst e';let⟨its,r,pl,hz⟩:=I.tuple hx;let hlen:=r.length;show truthy_tuple pl (by simp only[U6];omega) ⟨H,ZS 0,by rw[uL r];show q⟩
  ·subst e';obtain⟨hz,hS,vs,r,m⟩:kvs.length<=U9/\(p == We)=false/\∃vs,KV kvs vs/\s.heap.DictOf (bA X.prog X.w) p vs:=I.hok p _ hx;let hlen:kvs.length=vs.length:=VU r;show wpAny_truthy_dict hS m ⋯ ⟨H,ZS 0,by rw[Cr r];show q⟩
 |_=>exact(show False from e).elim
def Gm{a:z_}(ha:Zr a ta)(he:∀whole,isTrue a X.env whole=(do let v <-whole;standAt a.pos;holding [v] (truthy v))):
  PT X a (λσ H Q=>ta σ H λx H'=>∃k,Cq X.K x H' k/\Q k H'):=by
 intro jn s σ H Q I h
 exact isTrue_plain (thn (q0e 0) λv s1 ⟨x,H1,I1,r1,q1⟩=>Gk jn s1 σ H1 x v Q I1 r1 q1)<|he _
def Cs:Y3 (Wx .Add) (λx y H Q=>∃i j,x=.str i/\y=.str j/\i.length+j.length<=U9/\Q (.str<|i++j) H):=by intro jn s σ H x y v u Q I rx ry h;let⟨i,j,rfl,rfl,hz,q⟩:=h;let⟨t,rfl⟩:=rx;let⟨t',rfl⟩:=ry;show add_str (λt' tk=>⟨.str<|i++j,H,ZS 0,⟨_,rfl⟩,q⟩) hz
def vals1{x:V}(r:aK [x] us):∃u,us=[u]/\ZF u:=by
 cases r with
 |cons r1 r2=>cases r2;show⟨_,rfl,r1⟩
def vals2{x:V}(r:aK [x,y] us):∃u w',us=[u,w']/\ZF u/\RelV y w':=by
 cases r with
 |cons r1 r2=>
  cases r2 with
  |cons r3 r4=>cases r4;show⟨_,_,rfl,r1,r3⟩
def ES(hc:X.calm=true):cS X (.builtin "max") (λxs H Q=>∃i j,xs=[.int i,.int j]/\Q (.int<|if j>i then j else i) H):=by
 intro jn s σ H xs us Q I r h;let⟨i,j,rfl,q⟩:=h;let⟨u,w',rfl,⟨t,rfl⟩,⟨t',rfl⟩⟩:=vals2 r;refine max_two_ints (I.ok.hd hc) λh' tk k=>⟨_,H,I.kept k,?_,q⟩;by_cases hj:j>i
 ·rw[if_pos hj,if_pos hj];show⟨_,rfl⟩
 ·rw[if_neg hj,if_neg hj];show⟨_,rfl⟩
abbrev QM(K:UF)(x:V)(H:Hp)(n:Nat):Prop:=
 match x with
 |.str y=>y.length<=U9/\n=y.length
 |.byt y=>y.size<=U9/\n=y.size
 |.ref p=>(∃xs,ZT p xs/\n=xs.length)\/∃xs,ZE p xs/\n=xs.length
 |_=>False
def Gn:cS X (.builtin "len") (λxs H Q=>∃x n,xs=[x]/\QM X.K x H n/\Q (.int n) H):=by
 intro jn s σ H xs us Q I r h;let⟨x,n,rfl,e,q⟩:=h;let⟨u,rfl,rx⟩:=vals1 r;let hl:=oH;let hs:U9=16777216:=VN;cases x with
 |str y=>let⟨t,rfl⟩:=rx;obtain⟨hy,e'⟩:y.length<=U9/\n=y.length:=e;subst e';show len_str ⋯ ⟨.int _,H,ZS 0,⟨_,rfl⟩,q⟩
 |byt y=>let⟨t,rfl⟩:=rx;obtain⟨hy,e'⟩:y.size<=U9/\n=y.size:=e;subst e';show PySem.W.len_bytes ⋯ ⟨.int _,H,ZS 0,⟨_,rfl⟩,q⟩
 |ref p=>
  cases rx
  let e':(∃xs,SqL X.K H p xs/\n=xs.length)\/∃xs,SqT X.K H p xs/\n=xs.length:=e;rcases e' with⟨xs,hx,e'⟩|⟨xs,hx,e'⟩
  ·subst e';let⟨its,r',pl,hz⟩:=I.list hx;let hlen:=r'.length;show Calls.call_len_list pl.isList (by simp only[U6];omega) ⟨.int xs.length,H,ZS 0,⟨_,by simp only[U6];rw[hlen]⟩,q⟩
  ·subst e';let⟨its,r',pl,hz⟩:=I.tuple hx;let hlen:=r'.length;show len_tuple pl (by simp only[U6];omega) ⟨.int xs.length,H,ZS 0,⟨_,by simp only[U6];rw[hlen]⟩,q⟩
 |_=>exact(show False from e).elim
structure Cu(h:w_)(x dx C:t_)(mA:o_ 0):Prop where
 obj:h.get? x=some (Xi C dx)
 ns:h.Ns1 dx mA
 ne:dx≠x
variable{dx:t_}{mA:o_ 0}
set_option tactic.hygienic true in
def ET{h:w_}(n:h.Ns1 dx mA):∃od,h.get? dx=a_ od/\∀name,PySem.W.lookIn name od=a_ (mA name):=by
 let⟨o,es,ep,ho,hd,hk,_,hm⟩:=n;refine⟨o,ho,λname=>?_⟩;let e:=hm name;unfold nsFind findBy at e;rw[<-Array.find?_toList]at e;unfold PySem.W.lookIn;rw[hd];dsimp only;split
 ·rename_i y q;rw[q]at e;show congrArg a_ e
 ·rename_i q;rw[q]at e;let a:es.toList.any (·.refKey)=false:=by rw[List.any_eq_false];intro y hy;let⟨z,t,bg⟩:=hk y<|Array.mem_toList_iff.mp hy;simp[DictEntry.refKey,bg]
  let a':¬ es.toList.any (·.refKey)=true:=by rw[a];show Ve
  rw[if_neg a'];show congrArg a_ e
def Cu.look{h:w_}{x C:t_}(I:Cu h x dx C mA):∃od,PySem.W.InstAt h x (Xi C dx) C (a_ od)/\∀name,PySem.W.lookIn name od=a_ (mA name):=
 let ⟨od,ho,hl⟩:=ET I.ns
 ⟨od,⟨I.obj,rfl,rfl,ho⟩,hl⟩
variable{expr:Bool}{name:Str}{prog:y_}{R:j_ Result}{kw:B_ (Str×s_)}
section
variable{x C f:t_}{v:s_}
def get_map(X:K.In s.heap)(I:Cu s.heap x dx C mA)(hg:Yt K C name=true)(hh:PySem.W.hasDictIn K C=true)(ha:V7 K (.ref C) name=a_ b_)(hv:mA name=a_ v)(oz:PySem.W.handedIn v=true)(h:Q v { s with toks:=s.toks+1}):
  r_ (getAttr (.ref x) name expr) Q E s:=by
 let⟨od,J,hl⟩:=I.look;show PySem.W.get_value X J (PySem.W.plainGet_of hg).1 (PySem.W.findObj_own hh ha rfl<|by rw[hl,hv]) oz h
def Gp{pl:Sem Bool}{Q:s_×ZM 0->td->Prop}(X:K.In s.heap)(I:Cu s.heap x dx C mA)(hg:Yt K C name=true)
  (hf:V7 K (.ref C) name=a_ (c_ f)) (ht:PySem.W.isFn K (.ref f)=true) (hv:mA name=b_) (h:Q (.ref f,[.ref x]) s):
  r_ (getMethod (.ref x) name pl) Q E s:=by
 let⟨od,J,hl⟩:=I.look;show PySem.W.method_fn X J (PySem.W.plainGet_of hg).1 (PySem.W.plainGet_of hg).2 hf (beq_iff_eq.mp ht) (by change(PySem.W.lookIn name od).map (·.isSome)=a_ false;rw[hl,hv];rfl) h
def Ji{ns:Zf 0}{Q:j_ Unit}(X:K.In s.heap)(I:Cu s.heap x dx C mA)
  (hs:V7 K (.ref C) "__setattr__" = a_ (a_<|.builtin "object.__setattr__")) (hp:PySem.W.plainOver K C=true) (ht:PySem.W.takerIn K C name=a_ b_) (hh:PySem.W.hasDictIn K C=true)
  (hw:PySem.Within mA ns) (hsz:ns.length<=U9)
  (h:∀h',Cu h' x dx C (λy=>if y=name then a_ v else mA y)->Wy dx s.heap h'->Q () {s with heap:=h',toks:=s.toks+2}):
  r_ (setAttr (.ref x) name v) Q E s:=by
 let⟨od,J,hl⟩:=I.look;refine PySem.W.set_plain X J hs<|PySem.W.osa_open (s:={ s with toks:=s.toks+1}) (r:=b_) X J hp ht λb=>?_;let⟨cd,hc,d8⟩:=PySem.W.any_some hh;let hx:s.heap.get? x=a_ ⟨.ref C,a_ dx,.plain,#[]⟩:=I.obj;refine SB<|SL<|SB<|SB<|wpAny_loadPart hx<|SB<|PySem.W.Looks.here (s:={ s with toks:=s.toks+1}) (PySem.W.looks_clsIn X hc) ?_;rw[d8];refine SL (a:=a_ dx)<|SB<|SL<|SB ?_;refine wpAny_nsSet1 (s:={ s with toks:=s.toks+1}) I.ns λh' uz fj=>?_;let⟨oD,esD,epD,UR,hdD,S'⟩:=uz.count<|PySem.Within.cons name v hw;refine SB (wpAny_lookBehind UR (by rw[hdD];show pastItsLine_dict<|VO S' (by rw[VI];omega)) ?_);show SL<|h _ ⟨(fj.2 _<|Wu I.ne).trans I.obj,uz,I.ne⟩ fj
def Gq{vs:ZM 0}(X:K.In s.heap)(hm:PySem.W.makesIn K C=true)(hi:V7 K (.ref C) "__init__" = a_ (c_ f))(hf:PySem.W.typeIn K (.ref f)=a_ (.type "function"))(h:codeAny (Z4 0) (A.under (.builtin "type.__call__" ⟨.ref C::vs,kw⟩)) (.call (.ref f) ⟨.ref (s.heap.objs.size+1)::vs,kw⟩) (PySem.W.InitBack (s.heap.objs.size+1) R)
   {s with heap:=(s.heap.push WB).push (Xi C (e_ s))}):
  codeAny (Z4 0) A (.call (.ref C) ⟨vs,kw⟩) R s:=by
 let⟨hh,g,d,t,os⟩:=s;show PySem.W.make_core (PySem.W.makes_of X hm) (PySem.W.looks_findIn X hi) (λself=>PySem.W.bind_fn X self hf) (.inl rfl) h
end
abbrev jE(f:Str)(v:V):B_ (Str×V)->B_ (Str×V)
 |[]=>[(f,v)]
 |(g,x)::r=>if g=f then(g,v)::r else(g,x)::jE f v r
def sN(f g:Str)(v:V):∀fs:B_ (Str×V),(jE f v fs).lookup g=if g=f then a_ v else fs.lookup g
 |[]=>by
  change Yf g [(f,v)]=_
  by_cases h:g=f
  ·let hb:(g == f)=true:=beq_iff_eq.mpr h;simp only[Yf,hb,if_pos h]
  ·let hb:(g == f)=false:=beq_eq_false_iff_ne.mpr h;simp only[Yf,hb,if_neg h]
 |(k,x)::r=>by
  let ih:=sN f g v r;rw[show jE f v ((k,x)::r)=(if k=f then(k,v)::r else(k,x)::jE f v r) from rfl]
  by_cases hk:k=f
  ·rw[if_pos hk];by_cases h:g=k
   ·let hb:(g == k)=true:=beq_iff_eq.mpr h;simp only[Yf,hb,if_pos<|h.trans hk]
   ·let hb:(g == k)=false:=beq_eq_false_iff_ne.mpr h;simp only[Yf,hb,if_neg (λe:g=f=>h<|e.trans hk.symm)]
  ·rw[if_neg hk];by_cases h:g=k
   ·let hb:(g == k)=true:=beq_iff_eq.mpr h;simp only[Yf,hb,if_neg (λe:g=f=>hk<|h.symm.trans e)]
   ·let hb:(g == k)=false:=beq_eq_false_iff_ne.mpr h;simp only[Yf,hb];show ih
def qV(f:Str)(v:V):∀fs:B_ (Str×V),f∈(jE f v fs).map (·.1)/\∀g,g∈fs.map (·.1)->g∈(jE f v fs).map (·.1)
 |[]=>⟨by simp[jE],λg h=>by simp at h⟩
 |(k,x)::r=>by
  let⟨i1,i2⟩:=qV f v r;rw[show jE f v ((k,x)::r)=(if k=f then(k,v)::r else(k,x)::jE f v r) from rfl]
  by_cases hk:k=f
  ·rw[if_pos hk];subst hk;show⟨by simp,λg h=>by simpa using h⟩
  ·rw[if_neg hk];refine⟨?_,λg h=>?_⟩
   ·rw[Vd];show U4 _ i1
   ·rw[Vd]at h⊢;rcases U5.mp h with e|e
    ·show U5.mpr (.inl e)
    ·show U4 _ (i2 g e)
def sO(f:Str)(v:V):∀fs:B_ (Str×V),(jE f v fs).length<=fs.length+1
 |[]=>by simp[jE]
 |(k,x)::r=>by
  let ih:=sO f v r;rw[show jE f v ((k,x)::r)=(if k=f then(k,v)::r else(k,x)::jE f v r) from rfl]
  by_cases hk:k=f
  ·rw[if_pos hk,VI,VI];omega
  ·rw[if_neg hk,VI,VI];omega
def lO.some_of{o:C_ s_}(r:lO (a_ v) o):∃u,o=a_ u/\ZG u:=by
 cases o with
 |none=>exact(show False from r).elim
 |some u=>exact⟨u,rfl,r⟩
def lO.none_of{o:C_ s_}(r:lO b_ o):o=b_:=by
 cases o with
 |none=>rfl
 |some u=>exact(show False from r).elim
def EU(r:ZG u):PySem.W.handedIn u=true:=by
 cases v with
 |non=>cases(show u=Vj from r);rfl
 |bl b=>cases(show u=Value.bool b from r);rfl
 |int i=>let⟨t,e⟩:=(show ∃t,u=Wg i t from r);cases e;rfl
 |str x=>let⟨t,e⟩:=(show ∃t,u=Value.str x t from r);cases e;rfl
 |byt b=>let⟨t,e⟩:=(show ∃t,u=Value.bytes b t from r);cases e;rfl
 |flt b=>let⟨t,e⟩:=(show ∃t,u=Value.float b t from r);cases e;rfl
 |ref a=>cases(show u=Vt a from r);rfl
 |ty n=>cases(show u=WO n from r);rfl
section
variable{h:w_}{C:t_}{fs ng:B_ (Str×V)}
def A9(hok:Z6 h)(e:H a=a_ (.ins C dx fs)):∃mA,Cu h a dx C mA/\(∀f,lO (fs.lookup f)<|mA f)/\PySem.Within mA (fs.map (·.1))/\fs.length<=1000/\H dx=a_ (.own a):=by
 let⟨d,z,ne,ob,mA,n,r,q⟩:=(show cD P w H h a (.ins C dx fs) from hok a _ e)
 show⟨mA,⟨ob,n,ne⟩,r,q,z,d⟩
end
structure Cls(K:UF)(C:t_):Prop where
 pg:Yt K C Str.empty=true
 hd:PySem.W.hasDictIn K C=true
 po:PySem.W.plainOver K C=true
 sa:V7 K (.ref C) "__setattr__" = some (some (.builtin "object.__setattr__"))
def Cls.get{C:t_}(c:Cls K C)(f:Str):Yt K C f=true:=c.pg
abbrev jF(K:UF)(C:t_)(f:Str):Prop:=V7 K (.ref C) f=a_ b_
def jF.taker{C:t_}{f:Str}(n:jF K C f):PySem.W.takerIn K C f=a_ b_:=by
 unfold PySem.W.takerIn;rw[show V7 K (.ref C) f=a_ b_ from n]
 rfl
structure Cv(K:UF)(C:t_)(m:Str)(f:t_):Prop where
 at_:V7 K (.ref C) m=some (c_ f)
 fn:PySem.W.isFn K (.ref f)=true
 kp:WU K (.ref f)=true
variable{b:Bool}{env:Env}
section
variable{σ:St}{C:t_}{fs:B_ (Str×V)}{f:Str}
def uM(I:P1 s)(e:H a=a_ (.ins C dx fs))(c:Cls X.K C)(n:jF X.K C f)(l:fs.lookup f=a_ v)(h:∀u s',P1 s'->ZG u->Q u s'):wpAny (h_ X) A (getAttr (.ref a) f b) Q E s:=by let⟨mA,O,r,_,_,_⟩:=A9 I.hok e;let⟨u,hu,ru⟩:=lO.some_of (v:=v) (o:=mA f) (by rw[<-l];show r f);show get_map I.kIn O (c.get f) c.hd n hu (EU ru)<|h u _ (ZS 0) ru
def uN{m:Str}{g:t_}{pl:Sem Bool}{Q:s_×ZM 0->td->Prop}(I:P1 s)(e:H a=a_ (.ins C dx fs))(c:Cls X.K C)(k:Cv X.K C m g)(l:fs.lookup m=b_)
  (h:Q (.ref g,[.ref a]) s):wpAny (h_ X) A (getMethod (.ref a) m pl) Q E s:=by
 let⟨mA,O,r,_,_,_⟩:=A9 I.hok e;let hn:mA m=b_:=lO.none_of (by rw[<-l];show r m);show Gp I.kIn O (c.get m) k.at_ k.fn hn h
def uO{Q:j_ Unit}(I:P1 s)(e:H a=a_ (.ins C dx fs))(c:Cls X.K C)(n:jF X.K C f)(hl:fs.length<1000)(ry:RelV y u)(h:∀s',i_ (S1 a<|.ins C dx<|jE f y fs) s'->Q () s'):wpAny (h_ X) A (setAttr (.ref a) f u) Q E s:=by
 let⟨mA,O,r,wi,_,ho⟩:=A9 I.hok e;let hz:(fs.map (·.1)).length<=U9:=by rw[U2,VN];omega
 refine Ji I.kIn O c.sa c.po n.taker c.hd wi hz λh' O' sb=>h _ ?_;let hd:∃o,h'.get? dx=a_ o:=let ⟨o,_,_,e',_⟩:=O'.ns;⟨o,e'⟩;refine I.write (x:=a) (e:=dx) (by rw[e];show WR) (.inr ho) (λb q hb z=>(sb.2 b hb).trans z) hd ?_;refine⟨by rw[aH O.ne];show ho,?_,O.ne,O'.obj,_,O'.ns,λg=>?_,λg hg=>?_⟩
 ·have:=sO f y fs;omega
 ·change lO ((jE f y fs).lookup g) (if g=f then a_ u else mA g)
  rw[sN];by_cases q:g=f
  ·rw[if_pos q,if_pos q];show ry
  ·rw[if_neg q,if_neg q];show r g
 ·by_cases q:g=f
  ·rw[q];show(qV f y fs).1
  ·refine(qV f y fs).2 g (wi g λz=>hg ?_)
   change(if g=f then a_ u else mA g)=b_
   rw[if_neg q];show z
def Inv.made(I:P1 s):i_ (upd (S1 (e_ s)<|.own<|s.heap.objs.size+1) (s.heap.objs.size+1)<|.ins C (e_ s) [])
  {s with heap:=(s.heap.push WB).push (Xi C<|e_ s)}:=by
 let e1:(s.heap.push WB).get? (e_ s)=a_ WB:=U3 s.heap rfl;let e2:((s.heap.push WB).push<|Xi C<|e_ s).get? (s.heap.objs.size+1)=a_ (Xi C<|e_ s):=by
  have:=U3 (s.heap.push WB) (o:=Xi C<|e_ s) rfl
  rwa[Xe]at this
 let e3:(s.heap.push WB).Ns (e_ s) (λ_=>b_):=⟨WB,#[],_,e1,rfl,(λe he=>absurd he<|by simp),λ_=>rfl⟩;let I1:=I.laid (a:=(e_ s)) (o:=.own<|s.heap.objs.size+1) (h':=s.heap.push WB) (t':=s.toks) (λb u q=>Zn q) (U1 _) ⟨_,e1⟩;refine I1.laid (a:=(e_ s)+1) (o:=.ins C (e_ s) []) (t':=s.toks) (λb u q=>Zn q) (Nat.le_of_eq<|Xe _ _) ?_;let ne:(e_ s)≠(e_ s)+1:=Vc<|Nat.lt_succ_self _;refine⟨by rw[aH ne,aL],Vr _,ne,e2,λ_=>b_,(Heap.Ns1.of_empty e3).at λo q=>Zn q,λ_=>WR,λy hy=>absurd rfl hy⟩
def Jj{f:Str}(hb:Xb e f env (eval e env)=eval e env)(h:r_ (eval e env) (λo s₁=>r_ (getAttr o f true) Q E s₁) E s):r_ (eval (.Attribute e f pos) env) Q E s:=Attribute_any_ h (by rw[arm_eval_Attribute,hb])
end
abbrev QN(K:UF)(ta:TE)(f:Str):TE:=λσ H Q=>ta σ H λx H1=>∃a C dx fs v,x=.ref a/\H1 a=a_ (.ins C dx fs)/\Cls K C/\jF K C f/\fs.lookup f=a_ v/\Q v H1
abbrev QO(K:UF)(ta tv:TE)(f:Str):TS:=λD σ H=>tv σ H λy H1=>ta σ H1 λx H2=>∃a C dx fs,x=.ref a/\H2 a=a_ (.ins C dx fs)/\Cls K C/\jF K C f/\fs.length<1000/\
 D.nx σ (upd H2 a<|.ins C dx<|jE f y fs)
abbrev Of(X:Cx)(op:Operator)(rd:V->V->Hp->VK->Prop):Prop:=
 ∀(jn:g_ 0)(s:td)(σ:St)(H:Hp)(x y:V)(u v:s_)(Q:VK),P1 s->ZF u->RelV y v->rd x y H Q->wpAny (h_ X) X.A (inplaceOp op u v) (Y6 Q) X.xe s
abbrev Jk(K:UF)(ta tv:TE)(rd:V->V->Hp->VK->Prop)(f:Str):TS:=λD σ H=>ta σ H λx H1=>∃a C dx fs v,x=.ref a/\H1 a=a_ (.ins C dx fs)/\Cls K C/\jF K C f/\fs.lookup f=a_ v/\
 tv σ H1 λy H2=>rd v y H2 λz H3=>∃yp ng,H3 a=a_ (.ins C yp ng)/\ng.length<1000/\D.nx σ (upd H3 a<|.ins C yp<|jE f z ng)
def LX{f:Str}(he:Zr e ta)(hb:Xb e f X.env (U_ 0)=U_ 0):Zr (.Attribute e f pos) (QN X.K ta f):=by intro jn s σ H Q I h;refine Jj hb<|thn (he jn s σ H _ I h) λu s1 z9=>?_;let⟨x,H1,I1,rx,a,C,dx,fs,v,ex,ea,c,n,l,q⟩:=z9;subst ex;obtain rfl:u=Vt a:=rx;show uM I1 ea c n l λu' s2 I2 ru=>⟨v,H1,I2,ru,q⟩
variable{tv:TE}{value:z_}
def LY{o:z_}{f:Str}(ha:Zr o ta)(hv:Zr value tv)(hs:YE value (a_<|.Attribute o f pos') pos.line X.env=pure false):PS X (.Assign [.Attribute o f pos'] value pos) (QO X.K ta tv f):=by intro jn s σ H D I h;refine plainObj_wpAny_Assign_Attribute (thn (hv jn s σ H _ I h) λu s1 ⟨y,H1,I1,ry,q⟩=>thn (ha jn s1 σ H1 _ I1 q) λov s2 z9=>?_) hs;let⟨x,H2,I2,rx,a,C,dx,fs,ex,ea,c,n,l,q2⟩:=z9;subst ex;obtain rfl:ov=Vt a:=rx;show uO I2 ea c n l ry λs3 I3=>⟨σ,_,I3,q2⟩
variable{j5:Pos}
def EV{o:z_}{f:Str}{op:Operator}{rd:V->V->Hp->VK->Prop}(ha:Zr o ta)(hv:Zr value tv)(Tx:Of X op rd):PS X (.AugAssign (.Attribute o f j5) op value pos) (Jk X.K ta tv rd f):=by intro jn s σ H D I h;refine wpAny_AugAssign_AttributeAny<|thn (q0e 0) λov s1 z9=>?_;let⟨x,H1,I1,rx,a,C,dx,fs,v,ex,ea,c,n,l,q⟩:=z9;subst ex;obtain rfl:ov=Vt a:=rx;refine uM I1 ea c n l λu s2 I2 ru=>thn (hv jn s2 σ H1 _ I2 q) λw3 s3 ⟨y,H2,I3,ry,q3⟩=>thn (Tx jn s3 σ H2 v y u w3 _ I3 ru ry q3) λw4 s4 z9=>?_;let⟨z,H3,I4,rz,yp,ng,Tf,l',q4⟩:=z9;show uO I4 Tf c n l' rz λs5 I5=>⟨σ,_,I5,q4⟩
abbrev QP:V->V->Hp->VK->Prop:=λx y H Q=>∃i j,x=.int i/\y=.int j/\Q (.int<|i+j) H
def LZ:Of X .Add QP:=by
 rintro jn s σ H x y u v Q I rx ry ⟨i,j,rfl,rfl,q⟩;let⟨t,rfl⟩:=(show ∃t,u=Wg i t from rx)
 let⟨t',rfl⟩:=(show ∃t',v=Wg j t' from ry)
 show PyProof.Rows.iadd_int ⟨.int<|i+j,H,ZS 0,⟨_,rfl⟩,q⟩
structure eI(k:Nat)(A:v_):Prop where
 hd:A.handled=none
 dp:A.depth+3*k+5<recursionLimit
 un:A.units+16*k+200<cLine
def eI.mono{k:Nat}(r:eI k A)(h:j<=k):eI j A:=⟨r.hd,by have:=r.dp;omega,by have:=r.un;omega⟩
def eI.deeper{k:Nat}(r:eI (k+1) A)(env:Env):eI k (A.deeper env):=⟨r.hd,by have:=r.dp;change A.depth+1+3*k+5<_;omega,by have:=r.un;change A.units+3+16*k+200<_;omega⟩
def eI.in1{k:Nat}(r:eI (k+1) A):eI k A.in1:=⟨r.hd,by have:=r.dp;change A.depth+3*k+5<_;omega,by have:=r.un;change A.units+1+16*k+200<_;omega⟩
def Cw{C:t_}:(A.under<|.builtin "type.__call__" ⟨.ref C::us,kw⟩).depth=A.depth+1:=by first|rfl|simp[Around.under,Code.weight,Code.isCreation,Code.isGuard,Code.isCaller,Code.frames,Code.isFrame,guardIds]
def Cy{C:t_}:(A.under<|.builtin "type.__call__" ⟨.ref C::us,kw⟩).units=A.units+1:=by first|rfl|simp[Around.under,Code.cUnits,Code.frames,Code.isFrame]
def eI.make{k:Nat}(r:eI (k+1) A)(C:t_)(us:ZM 0)(kw:B_ (Str×s_)):eI k (A.under<|.builtin "type.__call__" ⟨.ref C::us,kw⟩):=⟨r.hd,by have:=r.dp;rw[Cw];omega,by have:=r.un;rw[Cy];omega⟩
def eI.depth{k:Nat}(r:eI k A):A.depth<recursionLimit:=by have:=r.dp;omega
def eI.units{k:Nat}(r:eI k A):A.units+64<cLine:=by have:=r.un;omega
abbrev Jl:TA:=λ_ H Q=>Q [] H
abbrev Lb(ta:TE)(tr:TA):TA:=λσ H Q=>ta σ H λx H1=>tr σ H1 λxs H2=>Q (x::xs) H2
section
variable{t:TA}
def qW:PA X [] Jl:=λ_ _ _ _ H Q I h=>Calls.spliced_nil ⟨[],H,I,.nil,h⟩
def nE(ha:Zr e te)(hr:PA X es t)(hs:Vg (e::es) X.env=(false,U_ 0)::W_ 0:=by rfl):PA X (e::es) (Lb te t):=by
 intro pos jn s σ H Q I h;rw[hs]
 change u_ (spliced ((false,U_ 0)::YZ (W_ 0))) _ _ s
 refine Calls.spliced_cons<|thn (q0e 0) λu s1 z9=>?_;let⟨x,H1,I1,r1,q1⟩:=z9;show thn (hr pos jn s1 σ H1 _ I1 q1) λus s2 ⟨xs,H2,I2,r2,q2⟩=>⟨x::xs,H2,I2,.cons r1 r2,q2⟩
abbrev QQ(t:TA):TE:=λσ H Q=>t σ H λxs H1=>xs.length<=U9/\∀p,H1 p=b_->Q (.ref p) (upd H1 p<|.tup xs)
abbrev QR(t:TA):TE:=λσ H Q=>t σ H λxs H1=>xs.length<=U9/\∀p,H1 p=b_->Q (.ref p) (upd H1 p<|.lst xs)
def M0{x1}(h:PA X es t):Zr (.Tuple es x1 pos) (QQ t):=by intro jn s σ H Q I hq;refine wpAny_Tuple_spliced (thn (h pos jn s σ H _ I hq) λus s1 ⟨xs,H1,I1,r,z,q⟩=>⟨by rw[<-r.length];show z,?_⟩);let hf:H1 (e_ s1)=b_:=I1.hok.fresh<|U1 _;refine⟨.ref<|e_ s1,upd H1 (e_ s1)<|.tup xs,I1.laid (t':=s1.toks) (λb u e=>Zn e) (U1 _) ?_,rfl,q _ hf⟩;show⟨z,us,r,⟨_,Za 0,rfl,⟨_,rfl⟩,rfl⟩⟩
def M1(h:PA X es t):Zr (.List es pos) (QR t):=by intro jn s σ H Q I hq;refine wpAny_List_spliced (thn (h pos jn s σ H _ I hq) λus s1 ⟨xs,H1,I1,r,z,q⟩=>⟨by rw[<-r.length];show z,?_⟩);let hf:H1 (e_ s1)=b_:=I1.hok.fresh<|U1 _;refine⟨.ref<|e_ s1,upd H1 (e_ s1)<|.lst xs,I1.laid (t':=s1.toks) (λb u e=>Zn e) (U1 _) ?_,rfl,q _ hf⟩;show⟨z,us,0,r,Za 0⟩
end
@[reducible]def Sp:=B_ V->Hp->VK->XK->Prop
@[reducible]def CXT:=B_ Env->Hp->td->XK->f_ 0
structure xO(P:y_)(w:x_)(K:UF)(mg:o_ 0)(base:w_)(A:v_)(outer:B_ Env)(s:td)(H:Hp):Prop where
 frames:A.frames=some outer
 mod:Mod K mg base
 bs:∀b o,base.get? b=some o->s.heap.get? b=some o/\H b=none
 bsz:base.objs.size<=(e_ s)
 funs:s.heap.FunFrames base outer
 frf:∀b∈frs outer,H b=none
 hok:HOk P w H s.heap
 bare:AllBare s.gens
abbrev CE(outer:B_ Env)(P:y_)(w:x_)(H:Hp)(s:td)(Q:VK)(u:s_)(s':td):Prop:=
 ∃v H',s'.os=s.os/\AllBare s'.gens/\Un (frs outer) [] H H' s.heap s'.heap/\HOk P w H' s'.heap/\ZG u/\Q v H'
abbrev CR(CX:CXT)(outer:B_ Env)(P:y_)(w:x_)(H:Hp)(s:td)(Q:VK)(E:XK)(r:Result)(s':td):Prop:=
 match r with
 |.ok (.ret u)=>CE outer P w H s Q u s'
 |.ok _=>False
 |.error e=>CX outer H s E e s'
structure cI(P:y_)(w:x_)(K:UF)(mg:o_ 0)(base:w_)(CX:CXT)(k:Nat)(f:t_)(fd:WN)(ps:B_ Str)(sp:Sp):Prop where
 len:∀vs H Q E,sp vs H Q E->vs.length=ps.length
 run:∀(A:v_)(outer:B_ Env)(s:td)(H:Hp)(args:Args)(us:B_ s_)(vs:B_ V)(Q:VK)(E:XK),eI k A->xO P w K mg base A outer s H->BindsTo s fd args (ps.zip us)->aK vs us->sp vs H Q E->
  codeAny (model P w) A (.call (.ref f) args) (CR CX outer P w H s Q E) s
variable{CX:CXT}{base:w_}{fd:WN}{mg:o_ 0}{ps:Zf 0}{sp:Sp}
def cI.imp{k:Nat}{f:t_}{RT:Sp}(F:Z7 CX k f fd ps sp)(h:∀vs H Q E,RT vs H Q E->sp vs H Q E):Z7 CX k f fd ps RT:=⟨λvs H Q E q=>F.len vs H Q E<|h _ _ _ _ q,λA outer s H args us vs Q E hr he hb hv hs=>F.run A outer s H args us vs Q E hr he hb hv<|h _ _ _ _ hs⟩
variable{outer:B_ Env}
def xO.make(e:xO P w K mg base A outer s H)(C:t_)(us:ZM 0)(kw:B_ (Str×s_)):
  xO P w K mg base (A.under<|.builtin "type.__call__" ⟨.ref C::us,kw⟩) outer s H:=⟨by first|exact e.frames|(simpa[Around.under,Code.envs,Code.isFrame,pushEnvs] using e.frames),e.mod,e.bs,e.bsz,e.funs,e.frf,e.hok,e.bare⟩
def xO.in1(e:xO P w K mg base A outer s H):
  xO P w K mg base A.in1 outer s H:=⟨e.frames,e.mod,e.bs,e.bsz,e.funs,e.frf,e.hok,e.bare⟩
section
variable{σ:St}
def Inv.env0(I:P1 s):xO X.prog X.w X.K X.mg X.base X.A X.stack s H:=⟨I.ok.frames,I.ok.mod,I.bs,VO I.ok.bsz I.sz,I.stack,I.stkFree,I.hok,I.bare⟩
def Inv.after{Q:VK}(I:P1 s)(h:CE X.stack X.prog X.w H s Q u s'):Y6 Q u s':=by let⟨v,H',os,bare,un,hok,r,q⟩:=h;let⟨hh,g,d,t,Uq⟩:=s';obtain rfl:Uq=s.os:=os;show⟨v,H',I.call (h':=hh) (g':=g) (d':=d) (t':=t) (ch:=[]) un hok bare<|λb z=>absurd z<|by simp,r,q⟩
end
abbrev Gr(sp:Sp)(dg:B_ V)(E:XK)(t:TA):TE:=λσ H Q=>t σ H λvs H1=>sp (vs++dg) H1 Q E
abbrev Lc(C:t_)(sp:Sp)(dg:B_ V)(E:XK)(t:TA):TE:=λσ H Q=>t σ H λvs H1=>∀x dx,H1 x=b_->H1 dx=b_->dx≠x->
 sp (.ref x::(vs++dg)) (upd (upd H1 dx<|.own x) x<|.ins C dx []) (λv H2=>v=.non/\Q (.ref x) H2) E
abbrev Binds(K:UF)(fd:WN)(ps:Zf 0)(ds:ZM 0):Prop:=
 ∀(s:td)(us:ZM 0),K.In s.heap->(us++ds).length=ps.length->BindsTo s fd ⟨us,[]⟩ (ps.zip<|us++ds)
def Binds.all(h:∀us:ZM 0,us.length=ps.length->bindArgs fd ⟨us,[]⟩=pure (ps.zip us)):Binds K fd ps []:=λs us _ hl=>by rw[WZ]at hl⊢;show .of_eq<|h us hl
abbrev oI(CX:CXT)(X:Cx)(E:XK):Prop:=∀(jn:g_ 0)(σ:St)(H:Hp)(s:td)(e:s_)(s':td),P1 s->CX X.stack H s E e s'->X.xe e s'
variable{dg vs:B_ V}
section
variable{k:Nat}{f C:t_}{ds:ZM 0}{E:XK}{m:Str}{p:Pos}{o:z_}{t:TA}
def Aa{σ:St}{Q:VK}(F:L_ CX k f fd ps sp)(hr:eI k X.A)(hb:ZA ds)(hd:aK dg ds)(hx:oI CX X E)(I:P1 s)(r:aK vs us)(h:sp (vs++dg) H Q E):wpAny (h_ X) X.A (call (.ref f) us) (Y6 Q) X.xe s:=by
 let r2:aK (vs++dg) (us++ds):=r.append hd;let hl:(us++ds).length=ps.length:=by rw[<-r2.length];show F.len _ _ _ _ h
 refine wpAny_call<|codeAny_mono (F.run X.A X.stack s H ⟨us,[]⟩ (us++ds) (vs++dg) Q E hr I.env0 (hb s us I.kIn hl) r2 h) λr s' hq=>?_;cases r with
 |error e=>exact hx jn σ H s e s' I hq
 |ok fl=>
  cases fl with
  |ret u=>exact I.after hq
  |next=>exact WQ hq
  |brk=>exact WQ hq
  |cont=>exact WQ hq
def Jm(F:L_ CX k f fd ps sp)(hr:eI k X.A)(hg:Gl X x)(hm:X.mg x=c_ f)(hk:WU X.K (.ref f)=true)(hb:ZA ds)(hd:aK dg ds)(hx:oI CX X E)
  (ha:PA X (e::es) t) (cm:(x == ("__debug__" : Str))=false:=by decide) (he:Vg (e::es) X.env=(false,U_ 0)::W_ 0:=by rfl) (bf:(YZ<|W_ 0).any (·.1)=false:=by rfl):
  Zr (.Call (.Name x p) (e::es) [] pos) (Gr sp dg E t):=by
 intro jn s σ H Q I h;refine Wd<|kB I hg hm ?_ cm;refine PySem.W.callWith_K (h₀:=X.base) I.ok.mod.kin hk (thn (ZH 0) λus s1 ⟨vs,H1,I1,r,q⟩=>⟨I1.kIn,?_⟩) he bf;show Aa F hr hb hd hx I1 r q
def Gs(F:L_ CX k f fd ps sp)(hr:eI k X.A)(hg:Gl X x)(hm:X.mg x=c_ f)(hk:WU X.K (.ref f)=true)(hb:ZA ds)(hd:aK dg ds)(hx:oI CX X E)
  (cm:(x == ("__debug__" : Str))=false:=by decide):Zr (.Call (.Name x p) [] [] pos) (Gr sp dg E Jl):=by
 intro jn s σ H Q I h;refine Wd<|kB I hg hm ?_ cm;show PySem.W.callWith_K0 I.kIn hk<|Aa (us:=[]) F hr hb hd hx I .nil h
structure Mk(K:UF)(C f:t_):Prop where
 makes:PySem.W.makesIn K C=true
 init:V7 K (.ref C) "__init__" = some (c_ f)
 fn:PySem.W.isFn K (.ref f)=true
 kp:WU K (.ref C)=true
def Bb{σ:St}{Q:VK}(M:Mk X.K C f)(F:L_ CX k f fd ps sp)(hr:eI (k+1) X.A)(hb:ZA ds)(hd:aK dg ds)(hx:oI CX X E)(I:P1 s)(r:aK vs us)(h:∀x dx,H x=b_->H dx=b_->dx≠x->sp (.ref x::(vs++dg)) (upd (S1 dx<|.own x) x<|.ins C dx []) (λv H2=>v=.non/\Q (.ref x) H2) E):
  wpAny (h_ X) X.A (call (.ref C) us) (Y6 Q) X.xe s:=by
 let hq:=h (s.heap.objs.size+1) (e_ s) (I.hok.fresh<|Yz _) (I.hok.fresh<|U1 _)<|Vc<|Nat.lt_succ_self _;let I2:=Inv.made (C:=C) I;let r2:aK (V.ref (s.heap.objs.size+1)::(vs++dg)) (Vt (s.heap.objs.size+1)::(us++ds)):=.cons rfl<|r.append hd;let hl:(Vt (s.heap.objs.size+1)::us++ds).length=ps.length:=by let e:=r2.length;rw[F.len _ _ _ _ hq]at e;show e.symm
 refine wpAny_call (Gq (f:=f) I.kIn M.makes M.init (beq_iff_eq.mp M.fn) (codeAny_mono (F.run _ X.stack _ _ ⟨Vt (s.heap.objs.size+1)::us,[]⟩ (Vt (s.heap.objs.size+1)::(us++ds)) _ _ E (hr.make C us [])
  (I2.env0.make C us []) (hb _ (Vt (s.heap.objs.size+1)::us) I2.kIn hl) r2 hq) λr s' fu=>?_))
 cases r with
 |error e=>exact hx jn σ _ _ e s' I2 fu
 |ok fl=>
  cases fl with
  |ret u=>let⟨v,H',I3,rv,ev,q3⟩:=I2.after fu;subst ev;show⟨rv,⟨V.ref<|s.heap.objs.size+1,H',I3,rfl,q3⟩⟩
  |next=>exact WQ fu
  |brk=>exact WQ fu
  |cont=>exact WQ fu
def Jn(M:Mk X.K C f)(F:L_ CX k f fd ps sp)(hr:eI (k+1) X.A)(hg:Gl X x)(hm:X.mg x=c_ C)(hb:ZA ds)(hd:aK dg ds)(hx:oI CX X E)
  (ha:PA X (e::es) t) (cm:(x == ("__debug__" : Str))=false:=by decide) (he:Vg (e::es) X.env=(false,U_ 0)::W_ 0:=by rfl) (bf:(YZ<|W_ 0).any (·.1)=false:=by rfl):
  Zr (.Call (.Name x p) (e::es) [] pos) (Lc C sp dg E t):=by
 intro jn s σ H Q I h;refine Wd<|kB I hg hm ?_ cm;refine PySem.W.callWith_K (h₀:=X.base) I.ok.mod.kin M.kp (thn (ZH 0) λus s1 ⟨vs,H1,I1,r,q⟩=>⟨I1.kIn,?_⟩) he bf;show Bb M F hr hb hd hx I1 r q
def Gu(M:Mk X.K C f)(F:L_ CX k f fd ps sp)(hr:eI (k+1) X.A)(hg:Gl X x)(hm:X.mg x=c_ C)(hb:ZA ds)(hd:aK dg ds)(hx:oI CX X E)
  (cm:(x == ("__debug__" : Str))=false:=by decide):Zr (.Call (.Name x p) [] [] pos) (Lc C sp dg E Jl):=by
 intro jn s σ H Q I h;refine Wd<|kB I hg hm ?_ cm;show PySem.W.callWith_K0 I.kIn M.kp<|Bb (us:=[]) M F hr hb hd hx I .nil h
end
structure pO(N P:B_ Str)(sc:Scope):Prop where
 kind:sc.kind=.function
 co:sc.isCoroutine=false
 gen:sc.isGenerator=false
 nd:N.Nodup
 pre:N.take P.length=P
 par:∀x∈P,sc.names.lookup x=some .local\/sc.names.lookup x=some .cell
 nofree:∀y∈sc.names,y.2≠.free
def yL{kindOf:Str->C_ Yd}{x:Str}:∀{binds:B_ (Str×s_)}{m:o_ 0},(∀v,(x,v)∉binds)->bindL kindOf binds m x=m x
 |[],_,_=>rfl
 |(n,v)::r,m,h=>by
  unfold bindL;rw[yL λw hw=>h w<|U4 _ hw];split
  ·have:x≠n:=by rintro rfl;show h v UV
   simp[this]
  ·rfl
def yM{kindOf:Str->C_ Yd}{x:Str}:∀{binds:B_ (Str×s_)}{m:o_ 0},(∀v,(x,v)∉binds)->bindC kindOf binds m x=m x
 |[],_,_=>rfl
 |(n,v)::r,m,h=>by
  unfold bindC;rw[yM λw hw=>h w<|U4 _ hw];split
  ·rfl
  ·have:x≠n:=by rintro rfl;show h v UV
   simp[this]
def yN{kindOf:Str->C_ Yd}{x:Str}{v:s_}:∀{P:Zf 0}{vs:ZM 0}{i:Nat}{m:o_ 0},P.Nodup->P[i]?=a_ x->vs[i]?=a_ v->kindOf x=a_ .local->
  bindL kindOf (P.zip vs) m x=a_ v
 |[],_,_,_,_,h,_,_=>by simp at h
 |_::_,[],_,_,_,_,h,_=>by simp at h
 |p::P,w::vs,0,m,nd,h1,h2,hk=>by
  simp at h1 h2;subst h1;subst h2
  change bindL kindOf ((p,w)::P.zip vs) m p=_
  unfold bindL;rw[yL λv hv=>(Wh.mp nd).1 (List.of_mem_zip hv).1,if_pos hk];simp
 |p::P,w::vs,i+1,m,nd,h1,h2,hk=>by
  change bindL kindOf ((p,w)::P.zip vs) m x=_
  unfold bindL;show yN (i:=i) (Wh.mp nd).2 (l_ h1) (l_ h2) hk
def yO{kindOf:Str->C_ Yd}{x:Str}{v:s_}:∀{P:Zf 0}{vs:ZM 0}{i:Nat}{m:o_ 0},P.Nodup->P[i]?=a_ x->vs[i]?=a_ v->kindOf x≠a_ .local->
  bindC kindOf (P.zip vs) m x=a_ v
 |[],_,_,_,_,h,_,_=>by simp at h
 |_::_,[],_,_,_,_,h,_=>by simp at h
 |p::P,w::vs,0,m,nd,h1,h2,hk=>by
  simp at h1 h2;subst h1;subst h2
  change bindC kindOf ((p,w)::P.zip vs) m p=_
  unfold bindC;rw[yM λv hv=>(Wh.mp nd).1 (List.of_mem_zip hv).1,if_neg hk];simp
 |p::P,w::vs,i+1,m,nd,h1,h2,hk=>by
  change bindC kindOf ((p,w)::P.zip vs) m x=_
  unfold bindC;show yO (i:=i) (Wh.mp nd).2 (l_ h1) (l_ h2) hk
abbrev start(N:Zf 0)(vs:B_ V):St:=vs.map a_++Xz (N.length-vs.length) b_
abbrev xQ(CX:CXT)(P:y_)(w:x_)(K:UF)(mg:o_ 0)(base:w_)(N:Zf 0)(qual:Str)(scope:Scope)(f:t_)(cd:s_)(A:v_)(outer:B_ Env)(s:td)(H:Hp)(E:XK):Cx where
 prog:=P
 w:=w
 K:=K
 mg:=mg
 base:=base
 A:=A.deeper<|ZU (e_ s) f cd
 N:=N
 s₀:=s
 H₀:=H
 env:=ZU (e_ s) f cd
 outer:=outer
 stack:=ZU (e_ s) f cd::outer
 ex:=[]
 calm:=true
 fn:=λ_=>true
 pn:=[]
 xe:=λe s'=>wpAny (model P w) (A.deeper<|ZU (e_ s) f cd) (leaving (ZU (e_ s) f cd) e) (λ_ dk=>CX outer H s E e dk) (λe' dk=>CX outer H s E e' dk) s'
variable{sc:Scope}
def Bc(h:Zc 0=a_ .cell):∃c,(V3 n sc.names []).lookup x=a_ c:=by let q:=PySem.W.cellsFrom_some sc.names n []<|.inl h;show Option.isSome_iff_exists.mp q
variable{cd:s_}{qual:Str}{s1:td}{scope:Scope}
def EW{f:t_}{E:XK}(S:pO N ps scope)(hd:A.handled=b_)(e0:xO P w K mg base A outer s H)(hl:vs.length=ps.length)(r:aK vs us)(x:InCallC s (e_ s) (bindL (ZU (e_ s) f cd).kindOf (ps.zip us) λ_=>b_) (V3 (s.heap.objs.size+1) scope.names []) (bindC (ZU (e_ s) f cd).kindOf (ps.zip us) λ_=>b_) s1):
  Inv (Zo cd A outer s H E) [] (start N vs) H s1:=by
 let bf:ps.length<=N.length:=by have:=congrArg List.length S.pre;rw[VT]at this;omega
 let⟨h1,tk,rfl,hk⟩:=x.done;let qk:∀b:t_,b∉(Zo cd A outer s H E).ex:=λb z=>absurd (show b∈([]:B_ t_) from z) (by simp)
 refine⟨⟨e0.mod,S.kind,rfl,rfl,U1 _,λy z c h1 h2=>?_,λy hy=>?_,λy c _ h=>?_,λ_=>hd,Around.frames_deeper e0.frames,.inr ⟨rfl,rfl⟩,λb z=>absurd z (qk b),e0.bs,e0.bsz,λb _ _=>qk b,λb z=>absurd z (qk b),e0.funs,e0.frf⟩,
  rfl,e0.bare,Un.kept hk,⟨_,x.toInCall.ns,λi y v h1 h2 h3=>?_⟩,λy c h=>⟨_,x.cell y c h⟩,e0.hok.fresh (U1 _),λy c h=>?_,λp hp=>absurd (show p∈([]:g_ 0) from hp) (by simp),e0.hok.kept hk,?_⟩
 ·show name_of_addr x.apart (X1 h1) (X1 h2)
 ·let hy:scope.names.lookup y=a_ .cell\/scope.names.lookup y=a_ .free:=hy;rcases hy with hy|hy
  ·show Bc hy
  ·show absurd rfl (S.nofree _<|X1 hy)
 ·show Xq (x.above y c<|X1 h)
 ·let hi:i<vs.length:=by
   unfold start at h2;by_cases hi:i<vs.length
   ·show hi
   ·rw[Wq<|l_ hi]at h2;rw[List.getElem?_replicate]at h2;split at h2 <;> cases h2
  let ha:vs[i]?=a_ v:=by
   unfold start at h2;rw[VR<|l_ hi,Vf]at h2;cases e:vs[i]? with
   |none=>rw[e]at h2;cases h2
   |some a=>rw[e]at h2;cases h2;rfl
  let⟨u,hu,rv⟩:=r.get ha;let hp:ps[i]?=a_ y:=by rw[<-S.pre,List.getElem?_take_of_lt ⋯];show h1
  let RS:ps.Nodup:=by rw[<-S.pre];show S.nd.sublist<|List.take_sublist _ _
  refine⟨u,rv,?_⟩;rcases S.par y (VE hp) with k|k
  ·show .inl ⟨k,yN RS hp hu k⟩
  ·let⟨c,e⟩:=Bc (n:=(e_ s)+1) k;refine .inr ⟨.inl k,c,e,?_⟩;let q:=x.cell y c e;rw[yO RS hp hu (by change scope.names.lookup y≠_;rw[k];decide)]at q;show q
 ·show e0.hok.fresh (Xq<|x.above y c<|X1 h)
 ·unfold start
  change _=N.length
  rw[WG,U2,List.length_replicate];omega
variable{an od:C_ t_}{cdv ct doc pm:s_}{osl:n_ 0}{params:Arguments}
def Og{k:Nat}{f:t_}{dV kV oc:s_}(lk:K.lookup f=a_ ⟨oc,od,.func (WM name qual params body scope dV kV doc pm an cdv ct),osl⟩)(g8:YN K cdv qual=true)(S:pO N ps scope)(len:∀vs H Q E,sp vs H Q E->vs.length=ps.length)(iw:∀(A:v_)(outer:B_ Env)(s:td)(H:Hp)(vs:B_ V)(Q:VK)(E:XK),eI k (A.deeper (ZU (e_ s) f cdv))->sp vs H Q E->
   ∃t,PSs (Zo cdv A outer s H E) body t/\t { nx:=λ_ H'=>Q .non H',rt:=Q} (start N vs) H):
  Z7 CX (k+1) f (WM name qual params body scope dV kV doc pm an cdv ct) ps sp:=by
 refine⟨len,λA outer s H args us vs Q E hr e0 hb r j8=>?_⟩;let hl:=len _ _ _ _ j8;let KX:K.In s.heap:=e0.mod.kin.keeps λb o e=>(e0.bs b o e).1;let lim:s.heap.NoLimit:=e0.mod.nolimit.keeps λb o e=>(e0.bs b o e).1;let qx:∀y∈ps.zip us,scope.names.lookup y.1=a_ .local\/(scope.names.lookup y.1=a_ .cell/\((V3 (s.heap.objs.size+1) scope.names []).lookup y.1).isSome=true):=λ⟨n,v⟩ hy=>by
  rcases S.par n (List.of_mem_zip hy).1 with q|q
  ·show .inl q
  ·show .inr ⟨q,PySem.W.cellsFrom_some _ _ _<|.inl q⟩
 refine codeAny_call_function hr.depth (KX _ _ lk) rfl S.co S.gen rfl (PySem.W.codeRec_of KX g8)<|hb _ _ _ _ ?_;refine wpAny_newFunctionEnv_cells S.kind qx λenv he s1 x=>?_;subst he;refine⟨lim.keeps x.toInCall.keep,codeAny_func ?_⟩;let⟨t,ht,hq⟩:=iw A outer s H vs Q E (hr.deeper _) j8;let I:Inv (Zo cdv A outer s H E) [] (start N vs) H s1:=EW S hr.hd e0 hl r x;refine Wz (ht [] s1 (start N vs) H _ I hq) (λfl s' hs=>?_) λe s' hs=>hs;let fin:∀{σ':St}{H':Hp}{v:V}{u:s_},Inv (Zo cdv A outer s H E) [] σ' H' s'->ZG u->Q v H'->CE outer P w H s Q u s':=
  λ{σ' H' v u} J rv q=>⟨v,H',J.os,J.bare,J.base,J.hok,rv,q⟩
 cases fl with
 |ret u=>let⟨v,σ',H',J,rv,q⟩:=hs;show fin J rv q
 |next=>let⟨σ',H',J,q⟩:=hs;show fin (v:=V.non) (u:=Vj) J rfl q
 |brk=>let⟨_,_,_,q⟩:=hs;show WQ q
 |cont=>let⟨_,_,_,q⟩:=hs;show WQ q
variable{T:String}
section
variable{p:Pos}{t:TA}{id:String}{r:B_ V->Hp->VK->Prop}
abbrev tCB(r:B_ V->Hp->VK->Prop)(t:TA):TE:=λσ H Q=>t σ H λvs H1=>r vs H1 Q
def Be(hc:cS X (.builtin id) r)(hg:Gl X x)(hm:X.mg x=b_)(hv:Xp x=a_ (.builtin id))(ha:PA X (e::es) t)(hn:x≠"__name__" := by decide)(cm:(x == ("__debug__" : Str))=false:=by decide)
  (he:Vg (e::es) X.env=(false,U_ 0)::W_ 0:=by rfl) (bf:(YZ<|W_ 0).any (·.1)=false:=by rfl):Zr (.Call (.Name x p) (e::es) [] pos) (tCB r t):=by
 intro jn s σ H Q I h;refine Wd<|jD I hg hm hv ?_ hn cm;show PyProof.Rows.callWith_builtin1 (thn (ZH 0) λus s1 ⟨vs,H1,I1,r1,q1⟩=>hc jn s1 σ H1 vs us Q I1 r1 q1) he bf
def yP(hc:cS X (.type T) r)(hg:Gl X x)(hm:X.mg x=b_)(hv:Xp x=a_ (.type T))(ha:PA X (e::es) t)(hn:x≠"__name__" := by decide)(cm:(x == ("__debug__" : Str))=false:=by decide)
  (he:Vg (e::es) X.env=(false,U_ 0)::W_ 0:=by rfl) (bf:(YZ<|W_ 0).any (·.1)=false:=by rfl):Zr (.Call (.Name x p) (e::es) [] pos) (tCB r t):=by
 intro jn s σ H Q I h;refine Wd<|jD I hg hm hv ?_ hn cm;show Wi (thn (ZH 0) λus s1 ⟨vs,H1,I1,r1,q1⟩=>hc jn s1 σ H1 vs us Q I1 r1 q1) he bf
end
end L2
namespace HT
open PySem PyProof.Rows
variable{A:v_}{E Q:f_ 0}{prog:y_}{s:td}{vs ws:ZM 0}{w:x_}
def cat_tup{t b:t_}(ht:q0f t vs.toArray)(hb:q0f b ws.toArray)(hv:vs≠[])(h1:ws=[]->Q (.ref t) s)(h2:ws≠[]->Q (.ref<|e_ s) {s with heap:=s.heap.push {cls:=.type "tuple",data:=.seq (vs++ws).toArray} })(hsz:vs.length+ws.length<=U9):r_ (Wx .Add (.ref t)<|.ref b) Q E s:=by
 let⟨⟨cls,dd,data,sl⟩,ho,hc,n,hd⟩:=id ht;let⟨⟨v8,t9,data2,u1⟩,mn,gi,n2,hd2⟩:=id hb;simp only at hc hd gi hd2;subst hc hd gi hd2;let e:vs.toArray++ws.toArray=(vs++ws).toArray:=by simp
 by_cases hw:ws=[]
 ·show concat_meets ⟨_,ho,rfl⟩ ⟨_,mn,rfl⟩ noFill_tuple_add seq_tuple_add PySem.F.slot_tuple_add PySem.F.entry_tuple_add (PySem.F.args_tuple_add_2 _ _)
   (tuple_addW1 t b vs.toArray ws.toArray n n2 dd t9 sl u1 (l_ hv)<|by simp[hw]) ⟨ho,mn,h1 hw⟩
 ·refine concat_meets ⟨_,ho,rfl⟩ ⟨_,mn,rfl⟩ noFill_tuple_add seq_tuple_add PySem.F.slot_tuple_add PySem.F.entry_tuple_add (PySem.F.args_tuple_add_2 _ _)
   (tuple_addW2 t b vs.toArray ws.toArray n n2 dd t9 sl u1 (l_ hv) (l_ hw) (by rw[U6,U6];show hsz)) ⟨ho,mn,?_⟩
  rw[e];show h2 hw
abbrev sIx(n d:Nat):Z2 0->Nat
 |none=>d
 |some v=>if v<0 then(v+(n:Int)).toNat else min v.toNat n
def M3(n d:Nat)(hd:d<=n)(o:Z2 0):sIx n d o<=n:=by
 cases o with
 |none=>exact hd
 |some v=>
  change(if v<0 then(v+(n:Int)).toNat else min v.toNat n)<=n
  by_cases hv:v<0
  ·rw[if_pos hv];omega
  ·rw[if_neg hv];show Nat.min_le_right _ _
def DR(v:Int)(n d:Nat):(if v<0 then max (v+(n:Int)) 0 else min v (n:Int))=((sIx n d (a_ v):Nat):Int):=by
 change(if v<0 then max (v+(n:Int)) 0 else min v (n:Int))=(((if v<0 then(v+(n:Int)).toNat else min v.toNat n):Nat):Int)
 by_cases hv:v<0
 ·simp only[if_pos hv];omega
 ·simp only[if_neg hv];omega
def Cz(lo hi:Z2 0)(n:Nat):Ys lo hi 1 (n:Int)=(((sIx n 0 lo:Nat):Int),((sIx n n hi:Nat):Int)):=by
 let h1:¬ ((1:Int)<0):=⋯;unfold Ys;simp only[h1,if_false];refine Prod.ext ?_ ?_
 ·cases lo with
  |none=>rfl
  |some v=>exact DR v n 0
 ·cases hi with
  |none=>rfl
  |some v=>exact DR v n n
def CA(i j:Nat):XA (i:Int) (j:Int) 1=j-i:=by
 unfold XA;let h1:(1:Int)>0:=⋯;simp only[h1,if_true,Int.ediv_one];split <;> omega
variable{o:Z2 0}{v:s_}
def uP{Q:Z2 0->td->Prop}(p:IsPart v o)(h:Q o s):r_ (Builtin.Slice.slicePartIndex v) Q E s:=by
 cases p with
 |none=>exact slicePart_none h
 |int i t=>exact slicePart_int h
variable{hi lo:Z2 0}{n:Nat}{sl:t_}{vl vu:s_}
def sliceApplied_gen{Q:Int×Int×Nat->td->Prop}(hs:s.heap.IsSliceOf sl vl vu .none)(pl:IsPart vl lo)(pu:IsPart vu hi)(h:Q (((sIx n 0 lo:Nat):Int),1,sIx n n hi-sIx n 0 lo) s):r_ (Builtin.Slice.sliceApplied (.ref sl)<|pure (n:Int)) Q E s:=by
 let⟨os,ju,p8,ou⟩:=id hs;unfold Builtin.Slice.sliceApplied Builtin.Slice.sliceFields;refine SB<|SB<|YA ju ou (x:=vl) rfl<|SB<|YA ju ou (x:=vu) rfl<|SB<|YA ju ou (x:=.none) rfl<|SL ?_;refine SB<|slicePart_none ?_
 change u_ (if((1:Int) == 0)=true then _ else _) _ _ s
 rw[ZD 0];refine SB<|uP pl<|SB<|uP pu<|SB<|SL ?_
 change u_ (match Ys lo hi 1 (n:Int) with|(lo,hi)=>pure (lo,(1:Int),XA lo hi 1)) _ _ s
 rw[Cz lo hi n]
 change u_ (pure (((sIx n 0 lo:Nat):Int),(1:Int),XA ((sIx n 0 lo:Nat):Int) ((sIx n n hi:Nat):Int) 1)) _ _ s
 rw[CA];show SL h
def Gv(xs:YV 0)(i k:Nat):((Vi k).filterMap λ(m:Nat)=>xs[((i:Int)+(m:Int)*1).toNat]?).toArray=((xs.toList.drop i).take k).toArray:=by
 let e:(λ(m:Nat)=>xs[((i:Int)+(m:Int)*1).toNat]?)=λm=>xs[i+m]?:=by
  funext m;have:((i:Int)+(m:Int)*1).toNat=i+m:=⋯;rw[this]
 rw[e];have:=pick_run xs i k;rw[List.filterMap_map]at this;let e2:((λx=>xs[x]?)∘λx=>i+x)=λm=>xs[i+m]?:=rfl;rw[e2]at this;rw[this]
variable{items:YV 0}
def getItem_tuple_cut{t:t_}(ht:q0f t items)(hs:s.heap.IsSliceOf sl vl vu .none)(pl:IsPart vl lo)(pu:IsPart vu hi)(hw:¬ (YT 0 lo=0/\q0g 0=items.size))(h:Q (.ref<|e_ s) {s with heap:=s.heap.push {cls:=.type "tuple",data:=.seq ((items.toList.drop<|YT 0 lo).take<|q0g 0-YT 0 lo).toArray} })(hsz:items.size<=U9):r_ (getItem (.ref t)<|.ref sl) Q E s:=by
 let gg:sizeOk (.seq ((items.toList.drop<|YT 0 lo).take<|q0g 0-YT 0 lo).toArray):=by
  change((items.toList.drop<|YT 0 lo).take<|q0g 0-YT 0 lo).toArray.size<=U9
  rw[U6,VT,Yu,X0];omega
 let hj:q0g 0<=items.size:=M3 _ _ (U1 _) hi;let⟨os,ju,p8,ou⟩:=id hs;let we:s.TypeIs (.ref sl) "slice" := ⟨os,ju,p8⟩;unfold getItem
 try with_reducible refine VJ ?_
 first|refine SB (SL ?_)|skip
 refine SB (wpAny_sequenceKey ht.typeIs nofun ?_);refine SB (Vy (name:=Vh "__getitem__") ht.typeIs VX
  (Vz VX ht.typeIs entry_tuple_getitem ?_ (args_tuple_getitem _ _)))
 change u_ (Yr (.ref t) >>= _) _ _ s
 refine SB<|tupleItemsOf_ ht ?_;refine SB<|Xr we ?_;rw[if_pos nofun];refine SB<|sliceApplied_gen hs pl pu ?_;let wx:¬ ((((sIx items.size 0 lo:Nat):Int) == 0&&(1:Int) == 1&&(q0g 0-YT 0 lo) == items.size)=true):=by intro q;rw[VA,VA]at q;let q1:((sIx items.size 0 lo:Nat):Int)=0:=eq_of_beq q.1.1;let q2:q0g 0-YT 0 lo=items.size:=eq_of_beq q.2;show hw ⟨⋯,⋯⟩
 change u_ (if(((sIx items.size 0 lo:Nat):Int) == 0&&(1:Int) == 1&&(q0g 0-YT 0 lo) == items.size)=true then _ else _) _ _ s
 rw[if_neg wx,Gv]
 first
  |exact SB (m:=XJ _) (Vk (SL ⟨_,rfl,SL h⟩) gg)
  |exact SB (m:=XJ _) (Vk (SB<|SL<|SL ⟨_,rfl,SL h⟩) gg)
  |exact SB (SB (m:=XJ _)<|Vk (SL<|SL ⟨_,rfl,SL h⟩) gg)
  |exact SB (SB (m:=XJ _)<|Vk (SL ⟨_,rfl,SL h⟩) gg)
end HT
namespace L2
@[reducible]def TO:=St->Hp->(Z2 0->Hp->Prop)->Prop
abbrev PO(X:Cx)(e:C_ z_)(t:TO):Prop:=
 ∀(jn:g_ 0)(s:td)(σ:St)(H:Hp)(Q:Z2 0->Hp->Prop),P1 s->t σ H Q->
  wpAny (h_ X) X.A (evalPart e X.env) (λu s'=>∃o H',i_ H' s'/\IsPart u o/\Q o H') X.xe s
abbrev Jo:TO:=λ_ H Q=>Q b_ H
variable{ns:Z8 0}
def intsAre_of:∀{us:ZM 0},aK (ZO 0) us->IntsAre us ns:=by
 induction ns with
 |nil=>intro us r;rw[List.map_nil]at r;cases r;show .nil
 |cons n ns ih=>
  intro us r;rw[Vd]at r;cases r with
  |cons r1 r2=>let⟨t,e⟩:=r1;subst e;show .cons n t<|ih r2
variable{X:Cx}{r r':V->Z2 0->Z2 0->Hp->VK->Prop}{e:z_}{p2 pos:Pos}{te:TE}{us:ZM 0}
section
variable{lo hi:C_ z_}{tl th:TO}
def Jp:PO X b_ Jo:=by intro jn s σ H Q I h;rw[evalPart_none];show SL ⟨b_,H,I,.none,h⟩
abbrev SlR(X:Cx)(r:V->Z2 0->Z2 0->Hp->VK->Prop):Prop:=
 ∀(jn:g_ 0)(s:td)(σ:St)(H:Hp)(x:V)(v vl vu:s_)(lo hi:Z2 0)(sl:t_)(Q:VK),P1 s->ZF v->s.heap.IsSliceOf sl vl vu .none->IsPart vl lo->IsPart vu hi->r x lo hi H Q->
  ∃T id,typeLookup (.type T) "__getitem__" = pure (a_<|.builtin id)/\s.TypeIs v T/\wpAny (h_ X) X.A (getItem v<|.ref sl) (Y6 Q) X.xe s
def SlR.or(h:SlR X r)(h':SlR X r'):SlR X (λx lo hi H Q=>r x lo hi H Q\/r' x lo hi H Q):=by
 intro jn s σ H x v vl vu lo hi sl Q I rx hs pl pu q;rcases q with q|q
 ·show Zg x v vl vu lo hi sl Q I rx hs pl pu q
 ·show h' jn s σ H x v vl vu lo hi sl Q I rx hs pl pu q
abbrev tSl(r:V->Z2 0->Z2 0->Hp->VK->Prop)(te:TE)(tl th:TO):TE:=λσ H Q=>te σ H λx H1=>tl σ H1 λl H2=>th σ H2 λu H3=>r x l u H3 Q
def Gw(hr:SlR X r)(he:Zr e te)(hl:PO X lo tl)(hu:PO X hi th):Zr (.Subscript e (.Slice lo hi b_ p2) pos) (tSl r te tl th):=by
 intro jn s σ H Q I h;refine Subscript_<|thn (he jn s σ H _ I h) λv s1 z9=>?_;let⟨x,H1,I1,r1,q1⟩:=z9;refine wpAny_Slice<|thn (hl jn s1 σ H1 _ I1 q1) λvl s2 ⟨l,H2,I2,pl,q2⟩=>thn (hu jn s2 σ H2 _ I2 q2) λvu s3 z9=>?_;let⟨u,H3,I3,pu,q3⟩:=z9;rw[evalPart_none];refine SL ?_;let I4:i_ H3 {s3 with heap:=s3.heap.push {cls:=.type "slice",data:=.fields #[vl,vu,.none]} }:=I3.kept (t':=s3.toks) λb ob q=>Zn q;let⟨T,id,hT,ht,hg⟩:=hr jn {s3 with heap:=s3.heap.push {cls:=.type "slice",data:=.fields #[vl,vu,.none]} } σ H3 x v vl vu l u (e_ s3) Q I4 r1 (Heap.IsSliceOf.new ..) pl pu q3
 change wpAny (h_ X) X.A (subscriptTail e (.Slice lo hi b_ p2) v<|.ref<|e_ s3) (Y6 Q) X.xe {s3 with heap:=s3.heap.push {cls:=.type "slice",data:=.fields #[vl,vu,.none]} }
 show tail_any (ops:=[.ref<|e_ s3,v]) ht hT hg (by with_unfolding_all rfl)
abbrev Bf(xs:B_ V)(lo hi:Z2 0):B_ V:=(xs.drop<|YR 0 lo).take<|YR xs.length hi-YR 0 lo
def sP(xs:B_ V)(lo hi:Z2 0):(Bf xs lo hi).length<=xs.length:=by unfold Bf;rw[VT,Yu];omega
abbrev Oh(K:UF):V->Z2 0->Z2 0->Hp->VK->Prop:=λx lo hi H Q=>∃a xs,x=.ref a/\ZE a xs/\
 ¬ (YR 0 lo=0/\YR xs.length hi=xs.length)/\∀p,H p=b_->Q (.ref p) (S1 p<|.tup<|Bf xs lo hi)
def M4:SlR X (Oh X.K):=by
 intro jn s σ H x v vl vu lo hi sl Q I rx hs pl pu h;let⟨a,xs,rfl,hx,hw,q⟩:=h;cases rx
 let⟨its,r,ht,hz⟩:=I.tuple hx;let hlen:its.toArray.size=xs.length:=by rw[U6];show r.length.symm
 refine⟨"tuple",_,VX.lookup,ht.typeIs,?_⟩;refine HT.getItem_tuple_cut ht hs pl pu (by rw[hlen];show hw) ?_ (by rw[hlen];show hz);rw[hlen];refine⟨.ref<|e_ s,_,I.laid (t':=s.toks) (o:=.tup<|Bf xs lo hi) (λb ob q=>Zn q) (U1 _) ?_,rfl,q _<|I.hok.fresh<|U1 _⟩;show⟨VO (sP xs lo hi) hz,_,(r.drop<|YR 0 lo).take<|YR xs.length hi-YR 0 lo,tL.new _ _⟩
abbrev Ld(K:UF):R2:=λx y H Q=>∃a b xs ys,x=.ref a/\y=.ref b/\ZE a xs/\ZE b ys/\xs≠[]/\xs.length+ys.length<=U9/\
 (ys=[]->Q (.ref a) H)/\(ys≠[]->∀p,H p=b_->Q (.ref p) (S1 p<|.tup<|xs++ys))
def aK.nil_iff{xs:B_ V}(r:aK xs us):us=[]↔xs=[]:=by
 cases r with
 |nil=>simp
 |cons _ _=>simp
def Jq:Y3 (Wx .Add) (Ld X.K):=by
 intro jn s σ H x y v u Q I rx ry h;let⟨a,b,xs,ys,rfl,rfl,ha,hb,hx,hz,q1,q2⟩:=h;cases rx
 cases ry
 let⟨its,r1,p1,_⟩:=I.tuple ha;let⟨c7,r2,p2,_⟩:=I.tuple hb;refine HT.cat_tup p1 p2 (λz=>hx<|r1.nil_iff.mp z) (λz=>⟨.ref a,H,I,rfl,q1<|r2.nil_iff.mp z⟩) (λz=>?_) (by rw[<-r1.length,<-r2.length];show hz);refine⟨.ref<|e_ s,_,I.laid (t':=s.toks) (o:=.tup<|xs++ys) (λb ob q=>Zn q) (U1 _) ?_,rfl,q2 (λw=>z<|r2.nil_iff.mpr w) _<|I.hok.fresh<|U1 _⟩;show⟨by rw[WG];show hz,_,r1.append r2,tL.new _ _⟩
end
abbrev ixN(n:Nat)(i:Int):C_ Nat:=if 0<=i then(if i<n then a_ i.toNat else b_) else if -(n:Int)<=i then a_ (i+n).toNat else b_
abbrev atI{α:Type}(xs:B_ α)(i:Int):C_ α:=(ixN xs.length i).bind λj=>xs[j]?
variable{j n:Nat}
def DS{i:Int}(h:ixN n i=a_ j):seqIndex? i n=a_ j/\j<n/\-(n:Int)<=i/\i<n:=by
 unfold ixN at h;by_cases h0:0<=i
 ·rw[if_pos h0]at h;by_cases h1:i<n
  ·rw[if_pos h1]at h;let e:i.toNat=j:=Vq h;show⟨by rw[seqIndex_of h0 h1,e],⋯,⋯,h1⟩
  ·rw[if_neg h1]at h;cases h
 ·rw[if_neg h0]at h;by_cases h1:-(n:Int)<=i
  ·rw[if_pos h1]at h;let e:(i+n).toNat=j:=Vq h;show⟨by rw[seqIndex_neg ⋯ h1,e],⋯,h1,⋯⟩
  ·rw[if_neg h1]at h;cases h
def Ab{α:Type}{xs:B_ α}{i:Int}{v:α}(h:atI xs i=a_ v):∃j,seqIndex? i xs.length=a_ j/\xs[j]?=a_ v/\j<xs.length/\-(xs.length:Int)<=i/\i<xs.length:=by
 unfold atI at h;cases e:ixN xs.length i with
 |none=>rw[e]at h;cases h
 |some j=>rw[e]at h;let⟨h1,h2,h3,h4⟩:=DS e;show⟨j,h1,h,h2,h3,h4⟩
abbrev DT(b:z_):Prop:=∀o i,subscripted b false o i=operate [o,i] (getItem o i)
abbrev IxR(X:Cx)(r:R2):Prop:=
 ∀(value slice:z_)(jn:g_ 0)(s:td)(σ:St)(H:Hp)(x y:V)(v u:s_)(Q:VK),P1 s->ZF v->RelV y u->r x y H Q->
  subscripted slice false v u=operate [v,u] (getItem v u)->wpAny (h_ X) X.A (subscriptTail value slice v u) (Y6 Q) X.xe s
abbrev MtR(X:Cx)(id:String)(r:V->B_ V->Hp->VK->Prop):Prop:=
 ∀(jn:g_ 0)(s:td)(σ:St)(H:Hp)(x:V)(xs:B_ V)(v:s_)(us:ZM 0)(Q:VK),P1 s->ZF v->aK xs us->r x xs H Q->
  wpAny (h_ X) X.A (call (.builtin id) (v::us)) (Y6 Q) X.xe s
variable{ta tb:TE}{H:Hp}{jn:g_ 0}{s:td}{its its':ZM 0}{A:v_}{u:s_}{y:V}{T:String}{ae apos:Pos}{name:Str}{to:TE}{es:B_ z_}
section
variable{a b:z_}
def IxR.or{r r':R2}(h:IxR X r)(h':IxR X r'):IxR X (λx y H Q=>r x y H Q\/r' x y H Q):=by
 intro value slice jn s σ H x y v u Q I rx ry q hs;rcases q with q|q
 ·show h value slice jn s σ H x y v u Q I rx ry q hs
 ·show h' value slice jn s σ H x y v u Q I rx ry q hs
def Oi{r:R2}(hr:IxR X r)(ha:Zr a ta)(hb:Zr b tb)(hs:DT b):Zr (.Subscript a b pos) (tOp r ta tb):=by intro jn s σ H Q I h;show Subscript_<|LP ha hb I h λv u s2 x y H2 I2 rx ry q=>hr a b jn s2 σ H2 x y v u Q I2 rx ry q<|hs _ _
abbrev QS(K:UF):R2:=λx y H Q=>∃p xs i v,x=.ref p/\y=.int i/\ZT p xs/\atI xs i=a_ v/\Q v H
abbrev QT(K:UF):R2:=λx y H Q=>∃p xs i v,x=.ref p/\y=.int i/\ZE p xs/\atI xs i=a_ v/\Q v H
abbrev QU:R2:=λx y H Q=>∃z i c,x=.str z/\y=.int i/\z.length<=U9/\atI z.cps.toList i=a_ c/\Q (.str ⟨#[c]⟩) H
def Jr:IxR X (QS X.K):=by
 intro value slice jn s σ H x y v u Q I rx ry h hs;let⟨p,xs,i,z,rfl,rfl,hq,he,q⟩:=h;cases rx
 let⟨t,rfl⟩:=ry;let⟨its,r,pl,hz⟩:=I.list hq;let⟨j,h1,h2,h3,h4,h5⟩:=Ab he;let⟨w,ew,c5⟩:=r.get h2;let hl:=r.length;let hn:=oH;let fin:Y6 Q w s:=⟨z,H,I,c5,q⟩;by_cases h0:0<=i
 ·let hj:i.toNat=j:=by rw[seqIndex_of h0 h5]at h1;show Vq h1
  show item_listR pl.isList h0 ⋯ (by rw[hj];simpa using ew) fin hs
 ·let hj:(i+(its.toArray.size:Int)).toNat=j:=by rw[seqIndex_neg ⋯ h4]at h1;rw[U6,<-hl];show Vq h1
  show subscriptTail_builtinR (x:=w) pl.isList.typeIs slot_list_getitem.lookup
   (wpAny_getItem_list_neg (Q:=λr s'=>r=w/\Y6 Q r s') pl.isList ⋯ (by rw[U6] <;> omega) ⋯ (by rw[hj];simpa using ew) ⟨rfl,fin⟩) hs
def M5:IxR X (QT X.K):=by
 intro value slice jn s σ H x y v u Q I rx ry h hs;let⟨p,xs,i,z,rfl,rfl,hq,he,q⟩:=h;cases rx
 let⟨t,rfl⟩:=ry;let⟨its,r,pl,hz⟩:=I.tuple hq;let⟨j,h1,h2,h3,h4,h5⟩:=Ab he;let⟨w,ew,c5⟩:=r.get h2;let hl:=r.length;let hn:=oH;let fin:Y6 Q w s:=⟨z,H,I,c5,q⟩;show subscriptTail_builtinR (x:=w) pl.typeIs slot_tuple_getitem.lookup
  (getItem_tuple (j:=j) (Q:=λr s'=>r=w/\Y6 Q r s') pl ⋯ ⋯ (by rw[U6,<-hl];show h1) (l_ ew) ⟨rfl,fin⟩) hs
def M6:IxR X QU:=by
 intro value slice jn s σ H x y v u Q I rx ry h hs;let⟨z,i,c,rfl,rfl,hz,he,q⟩:=h;let⟨t,rfl⟩:=rx;let⟨t',rfl⟩:=ry;let⟨j,h1,h2,h3,h4,h5⟩:=Ab he;let hl:z.cps.toList.length=z.length:=by simp[XM]
 rw[hl]at h1 h4 h5;let hn:=oH;show tail_any (typeIs_str s z t) slot_str_getitem.lookup (getItem_str (c:=c) (by let e1:decide (i < -(2 ^ 63:Int))=false:=decide_eq_false ⋯;let e2:decide (i >= 2 ^ 63)=false:=decide_eq_false ⋯;rw[e1,e2,Bool.or_false]) (by rw[h1];simpa using h2) ⟨.str ⟨#[c]⟩,H,ZS 0,⟨_,rfl⟩,q⟩) hs
def CB(its:ZM 0)(n j:Nat)(u:s_):Vw (·.setIfInBounds j u) {cls:=.type "list",data:=.seq its.toArray n}={cls:=.type "list",data:=.seq (its.set j u).toArray n}:=by simp[Vw]
def Inv.lst{σ:St}{p:t_}{xs:B_ V}(I:P1 s)(h:H p=a_ (.lst xs)):
  ∃(its:ZM 0)(n:Nat),aK xs its/\s.heap.get? p=a_ {cls:=.type "list",data:=.seq its.toArray n}/\xs.length<=U9:=by
 let⟨z,its,n,r,e⟩:=I.hok p _ h;show⟨its,n,r,e,z⟩
def Inv.lstUpd{σ:St}{p:t_}{xs ys:B_ V}{n':Nat}{f:Obj->Obj}(I:P1 s)(h:H p=a_ (.lst xs))(ho:s.heap.get? p=a_ {cls:=.type "list",data:=.seq its.toArray n})(hf:f {cls:=.type "list",data:=.seq its.toArray n}={cls:=.type "list",data:=.seq its'.toArray n'})(r:aK ys its')(hz:ys.length<=U9)(t:Nat):
  i_ (S1 p<|.lst ys) {s with heap:=s.heap.update p f,toks:=t}:=by
 let e:(s.heap.update p f).get? p=a_ {cls:=.type "list",data:=.seq its'.toArray n'}:=by rw[VS f ho (by rw[hf] <;> rfl),hf]
 refine I.write (x:=p) (e:=p) (by rw[h];trivial) (.inl rfl) (λb u hb q=>(Wc _ _<|Wu hb).trans q) ⟨_,e⟩ ?_;show⟨hz,its',n',r,e⟩
abbrev Oj:V->V->V->Hp->(Hp->Prop)->Prop:=λo i v H Q=>∃p xs k j,o=.ref p/\i=.int k/\H p=a_ (.lst xs)/\ixN xs.length k=a_ j/\Q (S1 p<|.lst<|xs.set j v)
def set_list:QI X Oj:=by
 intro jn s σ H o i v ov iv u Q I ro ri rv h;let⟨p,xs,k,j,rfl,rfl,hp,hj,q⟩:=h;cases ro
 let⟨t,rfl⟩:=ri;let⟨its,n,r,ho,hz⟩:=I.lst hp;let⟨h1,h2,h3,h4⟩:=DS hj;let hl:=r.length;let hn:=oH;let I':i_ (S1 p<|.lst<|xs.set j v) {s with heap:=s.heap.update p (Vw (·.setIfInBounds j u))}:=I.lstUpd hp ho (CB its n j u) (r.set rv j) (by rw[Wv];show hz) s.toks;by_cases h0:0<=k
 ·let hk:k.toNat=j:=by rw[seqIndex_of h0 h4]at h1;show Vq h1
  show PySem.W.ki_setAt ho h0 ⋯ (by rw[U6,<-hl];show h4) (by rw[hk];show⟨_,I',q⟩)
 ·let hk:(k+(its.toArray.size:Int)).toNat=j:=by rw[seqIndex_neg ⋯ h3]at h1;rw[U6,<-hl];show Vq h1
  show PySem.W.ki_setBack ho ⋯ (by rw[U6,<-hl];show h3) ⋯ (by rw[hk];show⟨_,I',q⟩)
def Ac(lo hi:Z2 0)(n:Nat):(sliceBounds lo hi b_ n).1=((HT.sIx n 0 lo:Nat):Int)/\(sliceBounds lo hi b_ n).2.1=((HT.sIx n n hi:Nat):Int)/\(sliceBounds lo hi b_ n).2.2=1:=by
 refine⟨?_,?_,rfl⟩
 ·cases lo with
  |none=>simp[sliceBounds,HT.sIx]
  |some i=>
   simp only[sliceBounds,HT.sIx,Option.getD_none,show(1:Int)>0 by decide,if_true]
   by_cases h:i<0
   ·simp only[h,if_true] <;> omega
   ·simp only[h,if_false] <;> omega
 ·cases hi with
  |none=>simp[sliceBounds,HT.sIx]
  |some i=>
   simp only[sliceBounds,HT.sIx,Option.getD_none,show(1:Int)>0 by decide,if_true]
   by_cases h:i<0
   ·simp only[h,if_true] <;> omega
   ·simp only[h,if_false] <;> omega
def xR(its:ZM 0)(lo hi:Z2 0):slicePick its.toArray lo hi b_=((its.drop<|HT.sIx its.length 0 lo).take<|HT.sIx its.length its.length hi-HT.sIx its.length 0 lo).toArray:=by let⟨h1,h2,h3⟩:=Ac lo hi its.toArray.size;unfold slicePick;rw[h1,h2,h3];simp only[sliceRange_one,pick_run,U6] <;> rfl
abbrev Ol(K:UF):V->Z2 0->Z2 0->Hp->VK->Prop:=λx lo hi H Q=>∃a xs,x=.ref a/\ZT a xs/\∀p,H p=b_->Q (.ref p) (S1 p<|.lst<|Bf xs lo hi)
def Js:SlR X (Ol X.K):=by
 intro jn s σ H x v vl vu lo hi sl Q I rx hs pl pu h;let⟨a,xs,rfl,hx,q⟩:=h;cases rx
 let⟨its,r,ht,hz⟩:=I.list hx;let hlen:=r.length;refine⟨"list",_,slot_list_getitem.lookup,ht.isList.typeIs,?_⟩;refine wpAny_getItem_list_slice ht.isList hs pl pu .none (by simp) ?_ (by rw[U6] <;> omega);rw[xR,<-hlen];refine⟨.ref<|e_ s,_,I.laid (t':=s.toks) (o:=.lst<|Bf xs lo hi) (λb ob q=>Zn q) (U1 _) ?_,rfl,q _<|I.hok.fresh<|U1 _⟩;show⟨VO (sP xs lo hi) hz,_,0,(r.drop<|YR 0 lo).take<|YR xs.length hi-YR 0 lo,Za 0⟩
abbrev sQ:V->Bool
 |.non=>true
 |.bl _=>true
 |.int _=>true
 |.str _=>true
 |_=>false
abbrev eqV:V->V->Bool
 |.non,.non=>true
 |.bl a,.bl b=>a == b
 |.bl a,.int b=>(if a then 1 else 0) == b
 |.int a,.bl b=>a == (if b then 1 else 0)
 |.int a,.int b=>a == b
 |.str a,.str b=>a == b
 |_,_=>false
def M7{x:V}{v:s_}(ry:RelV y u)(rx:ZF v)(fy:sQ y=true)(fx:sQ x=true):SeqAt.EqAt A s u v (eqV y x):=by
 cases y with
 |non=>
  cases ry
  cases x with
  |non=>cases rx;show SeqAt.EqAt.same _
  |bl b=>cases rx;show SeqAt.EqAt.none_bool b
  |int b=>let⟨t,rfl⟩:=rx;show SeqAt.EqAt.none_int b t
  |str b=>let⟨t,rfl⟩:=rx;show SeqAt.EqAt.none_str b t
  |_=>exact absurd (show false=true from fx) Ve
 |bl a=>
  cases ry
  cases x with
  |non=>cases rx;show SeqAt.EqAt.bool_none a
  |bl b=>cases rx;show SeqAt.EqAt.bool_bool a b
  |int b=>let⟨t,rfl⟩:=rx;show SeqAt.EqAt.bool_int a b t
  |str b=>let⟨t,rfl⟩:=rx;show SeqAt.EqAt.bool_str a b t
  |_=>exact absurd (show false=true from fx) Ve
 |int a=>
  let⟨t',rfl⟩:=ry;cases x with
  |non=>cases rx;show SeqAt.EqAt.int_none a t'
  |bl b=>cases rx;show SeqAt.EqAt.int_bool a t' b
  |int b=>let⟨t,rfl⟩:=rx;show SeqAt.EqAt.int_int a t' b t
  |str b=>let⟨t,rfl⟩:=rx;show SeqAt.EqAt.int_str a t' b t
  |_=>exact absurd (show false=true from fx) Ve
 |str a=>
  let⟨t',rfl⟩:=ry;cases x with
  |non=>cases rx;show SeqAt.EqAt.str_none a t'
  |bl b=>cases rx;show SeqAt.EqAt.str_bool a t' b
  |int b=>let⟨t,rfl⟩:=rx;show SeqAt.EqAt.str_int a t' b t
  |str b=>let⟨t,rfl⟩:=rx;show SeqAt.EqAt.str_str a t' b t
  |_=>exact absurd (show false=true from fx) Ve
 |_=>exact absurd (show false=true from fy) Ve
abbrev eqU(x:V)(u:s_):Bool:=match u with
 |.none=>eqV .non x
 |.bool b=>eqV (.bl b) x
 |.int i _=>eqV (.int i) x
 |.str z _=>eqV (.str z) x
 |_=>false
def Gx{x:V}(r:RelV y u)(f:sQ y=true):eqU x u=eqV y x:=by
 cases y with
 |non=>cases r;rfl
 |bl b=>cases r;rfl
 |int i=>let⟨t,rfl⟩:=r;rfl
 |str z=>let⟨t,rfl⟩:=r;rfl
 |_=>exact absurd (show false=true from f) Ve
def pP{x:V}:∀{xs:B_ V}{us:ZM 0},aK xs us->xs.all sQ=true->us.any (eqU x)=xs.any λy=>eqV y x
 |_,_,.nil,_=>rfl
 |y::xs,u::us,.cons r t,f=>by rw[Ym,VA]at f;rw[Yn,Yn,Gx r f.1,pP t f.2]
def lX{A:v_}{s:td}{x:V}{v:s_}(rx:ZF v)(fx:sQ x=true):∀{xs:B_ V}{us:ZM 0},aK xs us->xs.all sQ=true->∀u∈us,SeqAt.EqAt A s u v (eqU x u)
 |_,_,.nil,_=>λu hu=>by cases hu
 |y::xs,u::us,.cons r t,f=>λu' hu=>by
  rw[Ym,VA]at f;rcases U5.mp hu with rfl|hu
  ·rw[Gx r f.1];show M7 r rx f.1 fx
  ·show lX rx fx t f.2 u' hu
abbrev inV(x:V)(xs:B_ V):Bool:=xs.any λy=>eqV y x
abbrev rIn(K:UF)(neg:Bool):R2:=λx y H Q=>∃p xs,y=.ref p/\(ZT p xs\/ZE p xs)/\sQ x=true/\xs.all sQ=true/\Q (.bl<|if neg then !inV x xs else inV x xs) H
def EX:Y3 (VC .In) (rIn X.K false):=by
 intro jn s σ H x y v u Q I rx ry h;let⟨p,xs,rfl,hq,fx,fs,q⟩:=h;cases ry
 rcases hq with hq|hq
 ·let⟨its,r,pl,hz⟩:=I.list hq;refine SeqAt.in_listAt (eqU x) pl.isList (λw hw=>lX rx fx r fs w<|l_ hw) ⟨.bl _,H,I,rfl,?_⟩;rw[show its.toArray.any (eqU x)=its.any (eqU x) by simp,pP r fs];show q
 ·let⟨its,r,pl,hz⟩:=I.tuple hq;refine SeqAt.in_tupleAt (eqU x) pl (λw hw=>lX rx fx r fs w<|l_ hw) ⟨.bl _,H,I,rfl,?_⟩;rw[show its.toArray.any (eqU x)=its.any (eqU x) by simp,pP r fs];show q
def Ad:Y3 (VC .NotIn) (rIn X.K true):=by
 intro jn s σ H x y v u Q I rx ry h;let⟨p,xs,rfl,hq,fx,fs,q⟩:=h;cases ry
 rcases hq with hq|hq
 ·let⟨its,r,pl,hz⟩:=I.list hq;refine SeqAt.notIn_listAt (eqU x) pl.isList (λw hw=>lX rx fx r fs w<|l_ hw) ⟨.bl _,H,I,rfl,?_⟩;rw[show its.toArray.any (eqU x)=its.any (eqU x) by simp,pP r fs];show q
 ·let⟨its,r,pl,hz⟩:=I.tuple hq;refine SeqAt.notIn_tupleAt (eqU x) pl (λw hw=>lX rx fx r fs w<|l_ hw) ⟨.bl _,H,I,rfl,?_⟩;rw[show its.toArray.any (eqU x)=its.any (eqU x) by simp,pP r fs];show q
def Ae:cS X (.builtin "len") (λxs H Q=>∃p ys,xs=[.ref p]/\(SqL X.K H p ys\/SqT X.K H p ys)/\Q (.int ys.length) H):=by
 intro jn s σ H xs us Q I r h;let⟨p,ys,rfl,hq,q⟩:=h;let⟨u,rfl,rx⟩:=vals1 r;cases rx
 let hn:=oH;rcases hq with hq|hq
 ·let⟨its,r',pl,hz⟩:=I.list hq;let hlen:=r'.length;show Calls.call_len_list pl.isList (by simp only[U6] <;> omega) ⟨.int ys.length,H,ZS 0,⟨s.toks+1,by rw[U6,hlen]⟩,q⟩
 ·let⟨its,r',pl,hz⟩:=I.tuple hq;let hlen:=r'.length;show len_tuple pl (by simp only[U6] <;> omega) ⟨.int ys.length,H,ZS 0,⟨s.toks+1,by rw[U6,hlen]⟩,q⟩
def Af:cS X (.type "list") (λxs H Q=>∃p ys,xs=[.ref p]/\(SqL X.K H p ys\/SqT X.K H p ys)/\∀l,H l=b_->Q (.ref l) (S1 l<|.lst ys)):=by
 intro jn s σ H xs us Q I r h;let⟨p,ys,rfl,hq,q⟩:=h;let⟨u,rfl,rx⟩:=vals1 r;cases rx
 let fin:∀(its:ZM 0),aK ys its->ys.length<=U9->∀(h':w_)(c':Nat),(∀b o',N_ 0=a_ o'->Ze 0=a_ o')->
   h'.get? (e_ s)=a_ {cls:=.type "list",dict:=b_,data:=.seq its.toArray c',slots:=#[]}->Y6 Q (.ref<|e_ s) {s with heap:=h'}:=λits r' hz h' c' kp e=>
  ⟨.ref<|e_ s,_,I.laid (t':=s.toks) kp (U1 _)<|show q0j _ h' _ (.lst ys) from⟨hz,its,c',r',e⟩,rfl,q _<|I.hok.fresh<|U1 _⟩
 rcases hq with hq|hq
 ·let⟨its,r',pl,hz⟩:=I.list hq;let hlen:=r'.length;let⟨o,ho,hc,n,hd⟩:=pl.isList;show call_list_seq p (.inl rfl) ho hc hd (λh' c' kp e=>fin its r' hz h' c' kp e) (by simp only[U6] <;> omega)
 ·let⟨its,r',pl,hz⟩:=I.tuple hq;let hlen:=r'.length;let⟨o,ho,hc,n,hd⟩:=pl;show call_list_seq p (.inr rfl) ho hc hd (λh' c' kp e=>fin its r' hz h' c' kp e) (by simp only[U6] <;> omega)
def xW:cS X (.type "tuple") (λxs H Q=>∃p ys,xs=[.ref p]/\((SqL X.K H p ys/\∀l,H l=b_->Q (.ref l) (S1 l<|.tup ys))\/(SqT X.K H p ys/\Q (.ref p) H))):=by
 intro jn s σ H xs us Q I r h;let⟨p,ys,rfl,h⟩:=h;let⟨u,rfl,rx⟩:=vals1 r;cases rx
 rcases h with⟨hq,q⟩|⟨hq,q⟩
 ·let⟨its,r',pl,hz⟩:=I.list hq;let hlen:=r'.length;refine call_tuple_list pl.isList (λh' kp=>?_) (by simp only[U6] <;> omega);let I1:P1 {s with heap:=h'}:=I.kept (t':=s.toks) kp;let I2:i_ (S1 h'.objs.size<|.tup ys) {s with heap:=h'.push {cls:=.type "tuple",data:=.seq its.toArray} }:=I1.laid (t':=s.toks) (λb o e=>Zn e) (U1 _) (show q0j _ _ _ (.tup ys) from⟨hz,its,r',tL.new _ _⟩)
  show⟨.ref h'.objs.size,_,I2,rfl,q _<|I1.hok.fresh<|U1 _⟩
 ·let⟨its,r',pl,hz⟩:=I.tuple hq;show call_tuple_same pl ⟨.ref p,H,I,rfl,q⟩
abbrev tyV(K:UF)(T:String)(x:V)(H:Hp):Prop:=match x with
 |.str _=>T="str"
 |.int _=>T="int"
 | .ref p=>(T="list" /\ ∃ xs,ZT p xs)\/(T="tuple" /\ ∃ o,K.lookup p=a_ o/\o.cls=.type "tuple" /\ o.dict=b_)\/
   (T="dict" /\ ((∃kvs,H p=a_ (.dK kvs))\/∃kvs,H p=a_ (.dT kvs)))\/(T="set" /\ ∃S n,H p=a_ (.set S n))
 |_=>False
def Gy{σ:St}{x:V}{v:s_}(I:P1 s)(r:ZF v)(ty:tyV X.K T x H):
  s.TypeIs v T/\∀a,v=.ref a->∃ob,Y_ 0=a_ ob/\ob.dict=b_:=by
 cases x with
 |str z=>
  let⟨t,rfl⟩:=r;cases(show T="str" from ty)
  show⟨typeIs_str s z t,λ_ e=>nomatch e⟩
 |int i=>
  let⟨t,rfl⟩:=r;cases(show T="int" from ty)
  show⟨typeIs_int s i t,λ_ e=>nomatch e⟩
 |ref p=>
  cases r
  rcases ty with⟨rfl,xs,hq⟩|⟨rfl,o,hk,hc,hd⟩|⟨rfl,hk⟩|⟨rfl,S,n,hk⟩
  ·let⟨its,_,pl,_⟩:=I.list hq;refine⟨pl.isList.typeIs,λa e=>?_⟩;cases e
   let⟨o,n,e,c,hd,_⟩:=pl;show⟨o,e,hd⟩
  ·refine⟨⟨o,I.kIn p o hk,hc⟩,λa e=>?_⟩;cases e
   show⟨o,I.kIn _ o hk,hd⟩
  ·let z:∃o,s.heap.get? p=a_ o/\o.ExactDict:=by
    rcases hk with⟨kvs,hk⟩|⟨kvs,hk⟩
    ·let⟨_,_,_,_,o,_,_,e,ex,_⟩:=I.hok p _ hk;show⟨o,e,ex⟩
    ·let⟨_,_,_,_,o,_,_,e,ex,_⟩:=I.hok p _ hk;show⟨o,e,ex⟩
   let⟨o,e,ex⟩:=z;refine⟨⟨o,e,ex.1⟩,λa e2=>?_⟩;cases e2
   show⟨o,e,ex.2.1⟩
  ·let⟨o,_,_,_,e,ex,_⟩:=I.hok p _ hk;refine⟨⟨o,e,ex.1⟩,λa e2=>?_⟩;cases e2
   show⟨o,e,ex.2.1⟩
 |_=>exact WQ ty
abbrev QV(K:UF)(T:String)(r:V->B_ V->Hp->VK->Prop)(to:TE):TE:=λσ H Q=>to σ H λx H1=>tyV K T x H1/\r x [] H1 Q
abbrev tBM(K:UF)(T:String)(r:V->B_ V->Hp->VK->Prop)(to:TE)(t:TA):TE:=λσ H Q=>to σ H λx H1=>tyV K T x H1/\t σ H1 λxs H2=>r x xs H2 Q
variable{o:z_}{t:TA}{id:String}{r:V->B_ V->Hp->VK->Prop}
def M8(pa:PlainAttrs T)(slot:Slot T name id)(ir:typeOf (.builtin id)=pure (.type "method_descriptor"))(hm:MtR X id r)(ho:Zr o to)
  (au:Xb o name X.env (ZP 0)=ZP 0:=by rfl) (ar:(apos.endLine == ae.line)=true:=by rfl):Zr (.Call (.Attribute o name apos) [] [] ae) (QV X.K T r to):=by
 intro jn s σ H Q I h;refine wpAny_Call_method0_late au ar<|thn (ho jn s σ H _ I h) λv s1 z9=>?_;let⟨x,H1,I1,r1,ty,q1⟩:=z9;let⟨h1,h2⟩:=Gy I1 r1 ty;show⟨T,id,pa,slot,ir,h1,h2,Xl rfl<|PySem.evalArgs_none<|hm jn s1 σ H1 x [] v [] Q I1 r1 .nil q1⟩
def Om(pa:PlainAttrs T)(slot:Slot T name id)(ir:typeOf (.builtin id)=pure (.type "method_descriptor"))(hm:MtR X id r)(ho:Zr o to)(ha:PA X (e::es) t)
  (au:Xb o name X.env (ZP 0)=ZP 0:=by rfl)
  (fc:((backTo ae (Vg (e::es) X.env)).all (λx=>!x.1)&&(backToKw ae (keywordEach [] X.env)).all (λx=>x.1.isSome)
   && decide ((e::es).length+([]:B_ Keyword).length+(if([]:B_ Keyword).isEmpty then 0 else 1)<30))=true:=by rfl)
  (ar:(apos.endLine == ae.line)=true:=by rfl) (hs:Vg (e::es) X.env=(false,U_ 0)::W_ 0:=by rfl) (cw:(backTo ae<|W_ 0).any (·.1)=false:=by rfl):
  Zr (.Call (.Attribute o name apos) (e::es) [] ae) (tBM X.K T r to t):=by
 intro jn s σ H Q I h;refine wpAny_Call_method_late au fc ar rfl<|thn (ho jn s σ H _ I h) λv s1 z9=>?_;let⟨x,H1,I1,r1,ty,q1⟩:=z9;let⟨h1,h2⟩:=Gy I1 r1 ty;refine⟨T,id,pa,slot,ir,h1,h2,?_⟩;let hA:=ha ae jn s1 σ H1 _ I1 q1;rw[hs]at hA⊢;refine Xl (by change(false || (backTo ae<|W_ 0).any (·.1))=false;rw[cw] <;> rfl)<|Calls.evalArgs_plain ?_;show thn hA λus s2 ⟨vs,H2,I2,r2,q2⟩=>hm jn s2 σ H2 x vs v us Q I2 r1 r2 q2
end
abbrev MtM(X:Cx)(id:String)(r:V->B_ V->Hp->VK->Prop):Prop:=
 ∀(jn:g_ 0)(s:td)(σ:St)(H:Hp)(x:V)(xs:B_ V)(v:s_)(us:ZM 0)(Q:VK),P1 s->ZF v->aK xs us->r x xs H Q->
  wpAny (h_ X) X.A (call (.builtin id) (v::us)) (Y6 Q) X.xe s
def aK.one:∀{x:V}{us:ZM 0},aK [x] us->∃u,us=[u]/\ZF u
 |_,_,.cons r .nil=>⟨_,rfl,r⟩
def aK.zero:∀{us:ZM 0},aK [] us->us=[]
 |_,.nil=>rfl
def aK.dropLast{xs:B_ V}(h:aK xs us):aK xs.dropLast us.dropLast:=by
 induction h with
 |nil=>exact .nil
 |cons r t ih=>
  cases t with
  |nil=>exact .nil
  |cons q t'=>exact .cons r ih
def CC{α:Type}(l:B_ α):l.eraseIdx (l.length-1)=l.dropLast:=by
 induction l with
 |nil=>rfl
 |cons a r ih=>
  cases r with
  |nil=>rfl
  |cons b r=>
   let e:(a::b::r).length-1=((b::r).length-1)+1:=by let h1:(a::b::r).length=r.length+2:=rfl;let h2:(b::r).length=r.length+1:=rfl;omega
   rw[e,List.eraseIdx_cons_succ,ih]
   all_goals rfl
variable{l:t_}{t':Nat}
section
variable{σ:St}{b:t_}{xs ys zs:B_ V}
def Inv.lset{f:YV 0->YV 0}(I:P1 s)(hH:H l=a_ (.lst xs))(e:s.heap.get? l=a_ {cls:=.type "list",data:=.seq its.toArray n})(hf:f its.toArray=its'.toArray)(hv:aK ys its')(hz:ys.length<=U9):
  i_ (S1 l<|.lst ys) {s with heap:=s.heap.update l<|Vw f,toks:=t'}:=by
 let q:=PySem.IsL.update e f;rw[hf]at q;refine I.write (x:=l) (e:=l) (by rw[hH];show trivial) (.inl rfl) (λb' u hb hu=>(Wc s.heap (Vw f)<|Wu hb).trans hu) ⟨_,q⟩ ?_;show⟨hz,its',_,hv,q⟩
def Inv.lnew(I:P1 s)(hv:aK ys its)(hz:ys.length<=U9):
  i_ (S1 (e_ s)<|.lst ys) {s with heap:=s.heap.push {cls:=.type "list",data:=.seq its.toArray},toks:=t'}:=
 I.laid (λ_ _ q=>Zn q) (U1 _) ⟨hz,its,0,hv,Za 0⟩
def Inv.fresh(I:P1 s):H (e_ s)=b_:=I.hok.fresh<|U1 _
def Inv.lstM(I:P1 s)(hH:H l=a_ (.lst xs)):xs.length<=U9/\∃(its:ZM 0)(n:Nat),aK xs its/\xs.length=its.length/\s.heap.get? l=a_ {cls:=.type "list",data:=.seq its.toArray n}:=by let⟨z,its,n,r,e⟩:=I.hok l _ hH;show⟨z,its,n,r,r.length,e⟩
def Gz(h:n<=U9):YB n=false:=by unfold YB;show decide_eq_false ⋯
end
abbrev DU:V->B_ V->Hp->VK->Prop:=λx vs H Q=>∃l xs y,x=.ref l/\vs=[y]/\H l=a_ (.lst xs)/\xs.length<U9/\Q .non (S1 l<|.lst<|xs++[y])
def yQ:MtM X "list.append" DU:=by
 intro jn s σ H x vs v us Q I rx rv h;let⟨l,xs,y,rfl,rfl,hH,hz,q⟩:=h;cases rx
 let⟨u,rfl,ru⟩:=rv.one;let⟨z,its,n,r,hl,e⟩:=I.lstM hH;refine call_meets F.slot_list_append ⟨_,e,rfl⟩ F.entry_list_append (F.args_list_append_2 _ _) (PySem.list_append l its.toArray n u (by rw[U6];omega)) ⟨e,?_⟩;refine⟨.non,_,I.lset (its':=its++[u]) hH e (by simp) (r.append<|.cons ru .nil) ?_,rfl,q⟩;rw[WG,List.length_singleton];omega
abbrev DV:V->B_ V->Hp->VK->Prop:=λx vs H Q=>∃l b xs zs,x=.ref l/\vs=[.ref b]/\H l=a_ (.lst xs)/\H b=a_ (.lst zs)/\xs.length+zs.length<=U9/\Q .non (S1 l<|.lst<|xs++zs)
def EY:MtM X "list.extend" DV:=by
 intro jn s σ H x vs v us Q I rx rv h;let⟨l,b,xs,zs,rfl,rfl,hH,hB,hz,q⟩:=h;cases rx
 let⟨u,rfl,ru⟩:=rv.one;cases ru
 let⟨z,its,n,r,hl,e⟩:=I.lstM hH;let⟨z2,c7,n2,r2,cj,e2⟩:=I.lstM hB;let hsz:its.toArray.size+c7.toArray.size<=U9:=by rw[U6,U6];omega
 let r9:¬ (!its.toArray.isEmpty&&YB (its.toArray.size+c7.toArray.size))=true:=by rw[Gz hsz,Bool.and_false];show Ve
 refine call_meets F.slot_list_extend ⟨_,e,rfl⟩ F.entry_list_extend (F.args_list_extend_2 _ _)
  (AutoSeq1.list_extend_list_list_0 l its.toArray n b c7.toArray n2 r9 (by rw[U6];omega) ⋯) ⟨e,e2,?_⟩
 refine⟨.non,_,I.lset (its':=its++c7) hH e (by simp) (r.append r2) ?_,rfl,q⟩;rw[WG];omega
abbrev On:V->B_ V->Hp->VK->Prop:=λx vs H Q=>∃l xs y,x=.ref l/\vs=[]/\H l=a_ (.lst xs)/\xs[xs.length-1]?=a_ y/\Q y (S1 l<|.lst xs.dropLast)
def M9:MtM X "list.pop" On:=by
 intro jn s σ H x vs v us Q I rx rv h;let⟨l,xs,y,rfl,rfl,hH,hy,q⟩:=h;cases rx
 let UN:=rv.zero;subst UN;let⟨z,its,n,r,hl,e⟩:=I.lstM hH;let⟨u,hu,ru⟩:=r.get hy;let jd:its.toArray[its.toArray.size-1]?=a_ u:=by
  change its.toArray[its.length-1]?=a_ u
  rw[<-V0,<-hl];show hu
 refine call_meets F.slot_list_pop ⟨_,e,rfl⟩ F.entry_list_pop (F.args_list_pop_1 _) (MeetsSeq.list_pop_last l its.toArray n u jd (by rw[U6];omega)) ⟨e,?_⟩;refine⟨y,_,I.lset (its':=its.dropLast) hH e ?_ r.dropLast ?_,ru,q⟩
 ·change its.toArray.eraseIdxIfInBounds (its.toArray.size-1)=its.dropLast.toArray
  rw[U6,List.eraseIdxIfInBounds_toArray,CC]
 ·rw[List.length_dropLast];omega
abbrev Oo:R2:=λx y H Q=>∃l b xs zs,x=.ref l/\y=.ref b/\H l=a_ (.lst xs)/\H b=a_ (.lst zs)/\xs.length+zs.length<=U9/\∀p,H p=b_->Q (.ref p) (S1 p<|.lst<|xs++zs)
def Mb:Y3 (Wx .Add) Oo:=by
 intro jn s σ H x y v u Q I rx ry h;let⟨l,b,xs,zs,rfl,rfl,hH,hB,hz,q⟩:=h;cases rx
 cases ry
 let⟨z,its,n,r,hl,e⟩:=I.lstM hH;let⟨z2,c7,n2,r2,cj,e2⟩:=I.lstM hB;refine PySem.P.add_list e e2 ?_ (by rw[U6,U6];omega);let ea:its.toArray++c7.toArray=(its++c7).toArray:=by simp
 rw[ea];show⟨.ref _,_,I.lnew (t':=s.toks) (r.append r2) (by rw[WG];omega),rfl,q _ I.fresh⟩
end L2
namespace Att
open PySem PySem.W PySem.Calls PyProof.Rows
variable{P:Params}{h:w_}
def tN:∀(ns:Z8 0)(vs:ZM 0),WellAll P h vs (ns.map WData.int)->IntsAre vs ns:=by
 intro ns
 induction ns with
 |nil=>
  intro vs w;rw[List.map_nil]at w;cases w
  show .nil
 |cons n ns ih=>
  intro vs w;rw[Vd]at w;cases w with
  |cons a b=>
   cases a
   show .cons _ _<|ih _ b
variable{args:B_ WData}{l:OpenLaw}{n:Nat}{vals:ZM 0}
def EZ(hn:l.most=a_ n)(j4:l.row.toRowW.claim.pre args=true)(xo:WellAll P h vals args):
  ∃a vs ns,vals=[Vt a]/\args=[WData.list<|ns.map WData.int]/\h.get? a=a_ {cls:=.type "list",data:=.seq vs.toArray}/\IntsAre vs ns/\ns.length<=n:=by
 let hsh:WShape.hasAll [] args [.list .int]=true:=(pre_splitW j4).1;let hc:l.pre.holds [] { args:=args}=true:=(pre_splitW j4).2;let⟨d,r,rfl,h1,h2⟩:=hasAllW_cons hsh;obtain rfl:=hasAllW_nil h2;let⟨xs,rfl,h3⟩:=hasW_list h1;let⟨ns,rfl⟩:=items_int h3;let hlen:ns.length<=n:=by
  unfold OpenLaw.pre at hc;let h4:(WTm.not<|.lt (.lit<|.int (n:Int))<|.len<|.arg 0).holds [] { args:=[.list<|ns.map .int]}=true:=by let h4:=(holds_andW hc).1;rw[hn]at h4;show h4
  let h5:=condW_of h4<|w_not<|w_lt w_lit<|w_len_list<|w_arg rfl;rw[U2]at h5;refine Nat.le_of_not_lt λq=>?_;let q':(n:Int)<((ns.length:Nat):Int):=⋯
  first
   |(rw[decide_eq_true q']at h5;show absurd h5 nofun)
   |(simp at h5;omega)
 cases xo with
 |cons w1 w2=>
  cases w2
  cases w1 with
  |list ho hall=>exact⟨_,_,ns,rfl,rfl,ho,tN ns _ hall,hlen⟩
def F0(l:OpenLaw)(args:B_ WData):l.row.toRowW.claim.post args (.bool true) args=true:=
 postW_of (r:=l.row.toRowW) (X:=(true == true))
  (show WShape.has [] (.bool true) .bool=true by first|rfl|decide|simp[WShape.has,WShape.arms,WShape.armsAll])
  (show(WTm.eq .res<|.lit<|.bool true).value [] { args:=args,res:=a_<|.bool true,after:=args}=a_ (.bool<|true == true) from w_eq_bool (w_res rfl) w_lit) rfl
variable{XP:(o_ 0)->w_->Prop}{YP:x_->w_->Prop}{loose:Zf 0}
def attach_call{q:y_}{d:DefRec}(hn:l.most=a_ n)(qp:d.params.defaults=[])(call:∀(w:x_)(s₀ s₁:td)(mg mb:o_ 0)(fa:t_)(o:Obj)(pm cd doc:s_)(a:t_)(vs:ZM 0)(ns:Z8 0),
   Ground q loose [] XP w s₀ mg mb s₁.heap->YP w s₁.heap->
   s₁.heap.get? fa=a_ o->o.data=.func (docDef d.name d.params d.body d.scope pm cd doc)->s₁.heap.CodeRec cd d.name->mg d.name=c_ fa->
   s₁.heap.get? a=a_ {cls:=.type "list",data:=.seq vs.toArray}->IntsAre vs ns->ns.length<=n->s₁.gens=#[]->
   codeAny (model l.prog w) callerA (.call (.ref fa) ⟨[.ref a],[]⟩) (λr s'=>r=.ok (.ret (.bool true))/\OldK s₁.heap s'.heap/\s'.os=s₁.os/\AllBare s'.gens) s₁):
  WalkO q loose XP YP l.row.toRowW d [] (λf vs=>PySem.call f vs):=by
 intro w s₀ s₁ mg mb G Y fa o pm cd doc dV kV ho hd g8 hD hmg hg args vals as j4 hlay hrd xo SK;obtain rfl:dV=.none:=Dflts.none hD qp;obtain rfl:kV=.none:=Dflts.noKw hD;let⟨a,vs,ns,rfl,rfl,m9,hints,hlen⟩:=EZ hn j4 xo;refine enter_call<|codeAny_mono (call w s₀ s₁ mg mb fa o pm cd doc a vs ns G Y ho (fd_plain hd) g8 hmg m9 hints hlen hg) λr s' hq=>?_;let⟨rfl,h2,h3,h4⟩:=hq;show⟨.inl ⟨.bool true,.bool true,[],rfl,λ_=>rfl,.bool true,F0 l _,λ_=>⟨Yo,λ_ hm=>(nomatch hm)⟩⟩,h2,h3,h4⟩
end Att
namespace L2
def yR:∀{vs:ZM 0}{ns:Z8 0},IntsAre vs ns->aK (ZO 0) vs
 |_,_,.nil=>.nil
 |_,_,.cons n t h=>.cons ⟨t,rfl⟩ (yR h)
abbrev GA(H:Hp):Prop:=∀b,H b=b_\/∃o xs,H b=a_ (.frz o<|.lst xs)
variable{CX:CXT}{K:UF}{P:y_}{a:t_}{fd:WN}{mg:o_ 0}{ns:Z8 0}{sp:Sp}{s₁:td}{w:x_}{x:Str}
def GB{mb:o_ 0}{k:Nat}{fa:t_}{vs:ZM 0}(KX:K.In s₁.heap)(RX:s₁.heap.Ns Wb mg)(hb:s₁.heap.Ns builtinsNs mb)(m8:∀x:Str,x≠"__name__" -> mb x=Xp x)(yd:s₁.heap.NoLimit)(hg:s₁.gens=#[])(ha:s₁.heap.get? a=a_ {cls:=.type "list",data:=.seq vs.toArray})(hi:IntsAre vs ns)(hl:ns.length<=U9)(hr:eI k callerA)(F:∀base:w_,K.In base->base.Ns Wb mg->Z7 CX k fa fd [x] sp)(qw:∀(s:td)(u:s_),BindsTo s fd ⟨[u],[]⟩ [(x,u)])(j8:∀H:Hp,GA H->ZT a (ZO 0)->sp [.ref a] H (λv _=>v=.bl true) λ_ _ _=>False)(vo:∀H e s',CX [] H s₁ (λ_ _ _=>False) e s'->False):
  codeAny (model P w) callerA (.call (.ref fa) ⟨[.ref a],[]⟩) (λr s'=>r=.ok (.ret<|.bool true)/\OldK s₁.heap s'.heap/\s'.os=s₁.os/\AllBare s'.gens) s₁:=by
 let rv:=yR hi;let y3:=hi.length
 -- from an abstract heap in which nothing but the script may be tracked
 let core:∀H:Hp,GA H->ZT a (ZO 0)->Z6 s₁.heap->(∀b,H b≠b_->b=a)->(H a≠b_->K.lookup a=b_)->
   codeAny (model P w) callerA (.call (.ref fa) ⟨[.ref a],[]⟩) (λr s'=>r=.ok (.ret<|.bool true)/\OldK s₁.heap s'.heap/\s'.os=s₁.os/\AllBare s'.gens) s₁:=by
  intro H hO hS hok hA hK;let gf:∀{b:t_}{o:Obj},s₁.heap.get? b=a_ o->H b=b_->(A8 s₁.heap H).get? b=a_ o:=λe n=>G9 e n;let qk:∀{b:t_}{o:Obj}{es:Array Xs}{ep:Nat},s₁.heap.get? b=a_ o->o.data=.dict es ep->H b=b_:=λ{b o es ep} e d=>by
   cases q:H b with
   |none=>rfl
   |some u=>have e':b=a:=hA b (by rw[q];simp);subst e';rw[ha]at e;cases e;let d':Data.seq vs.toArray _=Data.dict es ep:=d;cases d'
  let u0:∀{b:t_}{m:o_ 0},s₁.heap.Ns b m->(A8 s₁.heap H).Ns b m:=λ{b m} ⟨o,es,ep,e,d,r⟩=>⟨o,es,ep,gf e (qk e d),d,r⟩;let zi:K.In (A8 s₁.heap H):=λb o e=>gf (KX b o e) (by
   cases q:H b with
   |none=>rfl
   |some u=>have e':b=a:=hA b (by rw[q];simp);subst e';rw[hK (by rw[q];simp)]at e;cases e)
  let hM:Mod K mg (A8 s₁.heap H):=⟨zi,u0 RX,⟨mb,u0 hb,m8⟩,let ⟨mc,h1,h2⟩:=yd;⟨mc,u0 h1,h2⟩⟩;let e0:xO P w K mg (A8 s₁.heap H) callerA [] s₁ H:=⟨rfl,hM,λb o e=>J4 e,Nat.le_of_eq<|EM _ _,trivial,λb hb=>absurd (show b∈([]:B_ t_) from hb) (by simp),hok,.of_eq hg⟩
  refine codeAny_mono ((F _ zi<|u0 RX).run callerA [] s₁ H ⟨[.ref a],[]⟩ [.ref a] [.ref a] _ _ hr e0 (qw s₁<|.ref a) (.cons rfl .nil)<|j8 H hO hS) λr s' h=>?_;cases r with
  |error e=>exact(vo H e s' h).elim
  |ok fl=>
   cases fl with
   |next=>exact WQ h
   |brk=>exact WQ h
   |cont=>exact WQ h
   |ret u=>
    let⟨v,H',os,bare,un,xa,r',q⟩:=h;let q':v=.bl true:=q;subst q';obtain rfl:u=Value.bool true:=r';refine⟨rfl,OldK.of_keep λb o e=>?_,os,bare⟩;cases q:H b with
    |none=>exact un.keep b o e q (by intro z;show absurd (show b∈([]:B_ t_) from z) (by simp)) (by simp)
    |some u=>
     rcases hO b with z|⟨ob,xs,z⟩
     ·rw[q]at z;cases z
     ·let z2:=un.frzs b ob _ z;let⟨e1,_⟩:=hok b _ z;let⟨e2,_⟩:=xa b _ z2;rw[e]at e1;cases e1;show e2
 cases hk:K.lookup a with
 |some o=>
  -- the script is one of the module's own objects
  let e:=KX a o hk;rw[ha]at e;cases e
  refine core (λ_=>b_) (λ_=>.inl rfl) (.inr ⟨_,vs.toArray,_,hk,rfl,rfl,rfl,by rw[U6,y3];show hl,l_ rv⟩) (λb u z=>by let z':(b_:C_ HO)=a_ u:=z;cases z') (λb z=>absurd rfl z) λz=>absurd rfl z
 |none=>
  refine core (λb=>if b=a then a_ (.frz {cls:=.type "list",data:=.seq vs.toArray}<|.lst<|ZO 0) else b_) (λb=>?_) (.inl<|.inr ⟨{cls:=.type "list",data:=.seq vs.toArray},YS 0⟩) (λb u z=>?_) (λb z=>?_) λ_=>hk
  ·by_cases hb:b=a
   ·show .inr ⟨_,_,if_pos hb⟩
   ·show .inl (if_neg hb)
  ·by_cases hb:b=a
   ·let z':=(if_pos hb).symm.trans z;cases z'
    subst hb;show⟨ha,by rw[U2];show hl,vs,_,rv,ha⟩
   ·let z':=(if_neg hb).symm.trans z;cases z'
  ·by_cases hb:b=a
   ·show hb
   ·show absurd (if_neg hb) z
variable{XP:(o_ 0)->w_->Prop}{YP:x_->w_->Prop}{loose:Zf 0}{n:Nat}
def walk_of{l:PySem.W.OpenLaw}{k:Nat}{q:y_}{d:DefRec}{K:Params->UF}{CX:x_->CXT}{sp:x_->Sp}(hn:l.most=a_ n)(uz:n<=U9)(qp:d.params.defaults=[])(hr:eI k callerA)(hY:∀(w:x_)(h:w_),YP w h->(K w.params).In h)(F:∀(w:x_)(mg:o_ 0)(fa:t_)(h:w_),(K w.params).In h->h.Ns Wb mg->mg d.name=c_ fa->
   ∃fd:WN,(∀(s:td)(u:s_),BindsTo s fd ⟨[u],[]⟩ [(x,u)])/\
    ∀base:w_,(K w.params).In base->base.Ns Wb mg->cI l.prog w (K w.params) mg base (CX w) k fa fd [x] (sp w))(j8:∀(w:x_)(H:Hp)(a:t_)(ns:Z8 0),ns.length<=n->GA H->SqL (K w.params) H a (ZO 0)->sp w [.ref a] H (λv _=>v=.bl true) λ_ _ _=>False)(vo:∀(w:x_)(H:Hp)(s:td)(e:s_)(s':td),CX w [] H s (λ_ _ _=>False) e s'->False):
  PySem.W.WalkO q loose XP YP l.row.toRowW d [] (λf vs=>PySem.call f vs):=by
 refine Att.attach_call hn qp λw s₀ s₁ mg mb fa o pm cd doc a vs ns G Y ho hd g8 hmg m9 hints hlen hg=>?_;let KX:=hY w _ Y;let⟨fd,hb,hF⟩:=F w mg fa _ KX G.T.g hmg;show GB KX G.T.g G.T.b G.T.builtins G.T.nolimit hg m9 hints (VO hlen uz) hr hF hb (λH hO hS=>j8 w H a ns hlen hO hS) λH e s'=>vo w H s₁ e s'
abbrev inClass(s:A_)(j:Nat):A_:=match s with
 |.ClassDef _ _ _ body _ _ _ _ _ _ _=>body.getD j (.Pass ⟨0,0,0,0⟩)
 |_=>.Pass ⟨0,0,0,0⟩
abbrev eK(s:A_):Arguments:=match s with
 |.FunctionDef _ a _ _ _ _ _ _ _ _=>a
 |_=>{ posonlyargs:=[],args:=[],vararg:=b_,kwonlyargs:=[],kw_defaults:=[],kwarg:=b_,defaults:=[]}
abbrev cE(s:A_):B_ A_:=match s with
 |.FunctionDef _ _ b _ _ _ _ _ _ _=>b
 |_=>[]
abbrev aV(s:A_):Scope:=match s with
 |.FunctionDef _ _ _ _ _ _ sc _ _ _=>sc
 |_=>{ kind:=.function,names:=[],isGenerator:=false,isCoroutine:=false}
@[reducible]def CX0:CXT:=λ_ _ _ _ _ _=>False
@[reducible]def E0:XK:=λ_ _ _=>False
variable{X:Cx}
def yS:oI CX0 X E0:=λ_ _ _ _ _ _ _ h=>h.elim
structure Fun(K:UF)(x qual:Str)(st:A_)(f:t_)(fd:WN):Prop where
 ex:∃(oc:s_)(od:C_ t_)(kV doc pm:s_)(an:C_ t_)(cdv ct:s_)(osl:n_ 0),
  fd=WM x qual (eK st) (cE st) (aV st) .none kV doc pm an cdv ct/\K.lookup f=some ⟨oc,od,.func fd,osl⟩/\YN K cdv qual=true
 kp:WU K (.ref f)=true
variable{N ps:Zf 0}{base:w_}{qual:Str}{st:A_}
def Fun.ok{f:t_}{k:Nat}(F:Fun K x qual st f fd)(S:pO N ps (aV st))(len:∀vs H Q E,sp vs H Q E->vs.length=ps.length)(iw:∀(cdv:s_)(A:v_)(outer:B_ Env)(s:td)(H:Hp)(vs:B_ V)(Q:VK)(E:XK),eI k (A.deeper (envOfC qual (aV st) (e_ s) f cdv))->sp vs H Q E->
   ∃t,PSs (xQ CX0 P w K mg base N qual (aV st) f cdv A outer s H E).nox (cE st) t/\t { nx:=λ_ H'=>Q .non H',rt:=Q} (start N vs) H):Z7 CX0 (k+1) f fd ps sp:=by
 let⟨oc,od,kV,doc,pm,an,cdv,ct,osl,rfl,lk,g8⟩:=F.ex;refine Og lk g8 S len λA outer s H vs Q E hr j8=>?_;let⟨t,h,q⟩:=iw cdv A outer s H vs Q E hr j8;show⟨t,h.nox,q⟩
def Fun.binds{f:t_}(F:Fun K x qual st f fd)(h:∀(kV doc pm:s_)(an:C_ t_)(cdv ct:s_)(us:ZM 0),us.length=ps.length->bindArgs (WM x qual (eK st) (cE st) (aV st) .none kV doc pm an cdv ct) ⟨us,[]⟩=pure (ps.zip us)):Binds K fd ps []:=by let⟨oc,od,kV,doc,pm,an,cdv,ct,osl,rfl,lk,g8⟩:=F.ex;show .all<|h kV doc pm an cdv ct
variable{an od:C_ t_}{cdv ct doc pm:s_}{osl:n_ 0}
def CD{f:t_}{oc:s_}{kV:s_}(l:K.lookup f=a_ ⟨oc,od,.func<|WM x qual (eK st) (cE st) (aV st) .none kV doc pm an cdv ct,osl⟩)(c:YN K cdv qual=true)(k:WU K (.ref f)=true):Fun K x qual st f (WM x qual (eK st) (cE st) (aV st) .none kV doc pm an cdv ct):=⟨⟨oc,od,kV,doc,pm,an,cdv,ct,osl,rfl,l,c⟩,k⟩
variable{A:v_}
def Oq{k:Nat}(hr:eI k A):A.units+1<cLine:=Nat.lt_of_le_of_lt (Nat.add_le_add_left (by decide:1<=64) _) hr.units
variable{B:Prop}
def Bg{A:Prop}(h:B):if false=true then A else B:=by rw[if_neg Ve];show h
def Bh{A:Prop}(h:A):if true=true then A else B:=by rw[YS 0];show h
abbrev CF(H H':Hp):Prop:=∀b o,H b=a_ o->H' b=a_ o
variable{u:s_}{y:V}
section
variable{κ:Type}[DecidableEq κ]
abbrev jR(kvs:B_ (κ×V))(k:κ):C_ V:=(kvs.find? λkv=>decide (kv.1=k)).map (·.2)
abbrev putK(kvs:B_ (κ×V))(k:κ)(v:V):B_ (κ×V):=if(kvs.any λkv=>decide (kv.1=k))=true then kvs.map (λkv=>if kv.1=k then(kv.1,v) else kv) else kvs++[(k,v)]
def pQ{p:κ×V}{r:B_ (κ×V)}{k:κ}(e:p.1=k):jR (p::r) k=a_ p.2:=by simp[jR,W0,e]
def pR{p:κ×V}{r:B_ (κ×V)}{k:κ}(e:¬ p.1=k):jR (p::r) k=jR r k:=by simp[jR,W0,e]
def uQ(k:κ):∀kvs:B_ (κ×V),(kvs.any λkv=>decide (kv.1=k))=(jR kvs k).isSome
 |[]=>rfl
 |p::r=>by
  rw[Yn];by_cases e:p.1=k
  ·simp only[pQ e,decide_eq_true e,Bool.true_or,YF]
  ·rw[pR e,decide_eq_false e,Bool.false_or];show uQ k r
def fT(kvs:B_ (κ×V))(k:κ)(v:V):(putK kvs k v).length<=kvs.length+1:=by
 unfold putK;split
 ·rw[U2];omega
 ·rw[WG,VI,List.length_nil];omega
def lO.isSome_eq{o:C_ V}{u:C_ s_}(r:lO o u):o.isSome=u.isSome:=by
 cases o with
 |none=>cases u with
  |none=>rfl
  |some _=>exact(show False from r).elim
 |some _=>cases u with
  |none=>exact(show False from r).elim
  |some _=>rfl
def lO.getD{o:C_ V}{u:C_ s_}{d:V}{d':s_}(r:lO o u)(rd:RelV d d'):RelV (o.getD d) (u.getD d'):=by
 cases o with
 |none=>cases u with
  |none=>exact rd
  |some _=>exact(show False from r).elim
 |some _=>cases u with
  |none=>exact(show False from r).elim
  |some _=>exact r
def KV.val{kvs:B_ (κ×V)}{vs:B_ (κ×s_)}(r:KV kvs vs)(k:κ):lO (jR kvs k) (valueAt vs k):=by
 unfold KV at r
 induction r with
 |nil=>exact WR
 | @cons p q ps qs h t ih=>
  let⟨h1,h2⟩:=h;by_cases e:p.1=k
  ·let e':q.1=k:=h1.symm.trans e;let b:valueAt (q::qs) k=a_ q.2:=by simp[valueAt,W0,e']
   rw[pQ e,b];show h2
  ·let e':¬ q.1=k:=λz=>e<|h1.trans z;let b:valueAt (q::qs) k=valueAt qs k:=by simp[valueAt,W0,e']
   rw[pR e,b];show ih
def KV.any{kvs:B_ (κ×V)}{vs:B_ (κ×s_)}(r:KV kvs vs)(k:κ):(kvs.any λkv=>decide (kv.1=k))=vs.any λkv=>decide (kv.1=k):=by
 unfold KV at r
 induction r with
 |nil=>rfl
 |cons h t ih=>rw[Yn,Yn,ih,h.1]
def KV.repl{kvs:B_ (κ×V)}{vs:B_ (κ×s_)}(r:KV kvs vs)(k:κ)(ry:RelV y u):
  KV (kvs.map λkv=>if kv.1=k then(kv.1,y) else kv) (vs.map λkv=>if kv.1=k then(kv.1,u) else kv):=by
 unfold KV at r⊢
 induction r with
 |nil=>exact .nil
 | @cons p q ps qs h t ih=>
  rw[Vd,Vd];refine .cons ?_ ih;let⟨h1,h2⟩:=h;by_cases e:p.1=k
  ·rw[Z5 0,if_pos<|h1.symm.trans e];show⟨h1,ry⟩
  ·rw[Zp 0,if_neg<|λz=>e<|h1.trans z];show⟨h1,h2⟩
def KV.put{kvs:B_ (κ×V)}{vs:B_ (κ×s_)}(r:KV kvs vs)(k:κ)(ry:RelV y u):KV (putK kvs k y) (stored vs k u):=by
 unfold putK stored;rw[r.any k];by_cases e:(vs.any λkv=>decide (kv.1=k))=true
 ·rw[Z5 0,Z5 0];show r.repl k ry
 ·rw[Zp 0,Zp 0];show Paired.snoc r ⟨rfl,ry⟩
def KV.length{kvs:B_ (κ×V)}{vs:B_ (κ×s_)}(r:KV kvs vs):kvs.length=vs.length:=VU r
end
def nY{k:Key}(r:RelV (kV k) u):(bA P w).is k u=true:=by
 cases k with
 |inl i=>let⟨t,e⟩:=(show ∃t,u=Wg i t from r);subst e;show B3 P w i t
 |inr x=>let⟨t,e⟩:=(show ∃t,u=Value.str x t from r);subst e;show sM P w x t
def yT{P:y_}{w:x_}:∀{ks:Zq 0}{us:ZM 0},aK (ks.map kV) us->ItemsAre (bA P w) ks us
 |[],_,r=>by rw[List.map_nil]at r;cases r;show .nil
 |k::ks,_,r=>by
  rw[Vd]at r;cases r with
  |cons h t=>exact .cons (nY h)<|yT t
@[reducible]def KT(H:Hp):B_ (Zq 0×V)->B_ (Zq 0×t_×s_)->Prop:=Paired λp q=>p.1=q.1/\H q.2.1=a_ (.tup<|p.1.map kV)/\RelV p.2 q.2.2
variable{H:Hp}
def KT.val{kvs:B_ (Zq 0×V)}{xs:B_ (Zq 0×t_×s_)}(r:KT H kvs xs)(k:Zq 0):lO (jR kvs k) ((atKey xs k).map (·.2)):=by
 induction r with
 |nil=>exact WR
 | @cons p q ps qs h t ih=>
  let⟨h1,_,h2⟩:=h;by_cases e:p.1=k
  ·let e':q.1=k:=h1.symm.trans e;let b:atKey (q::qs) k=a_ q.2:=by simp[atKey,W0,e']
   rw[pQ e,b];show h2
  ·let e':¬ q.1=k:=λz=>e<|h1.trans z;let b:atKey (q::qs) k=atKey qs k:=by simp[atKey,W0,e']
   rw[pR e,b];show ih
def KT.repl{kvs:B_ (Zq 0×V)}{xs:B_ (Zq 0×t_×s_)}(r:KT H kvs xs)(k:Zq 0)(ry:RelV y u):
  KT H (kvs.map λkv=>if kv.1=k then(kv.1,y) else kv) (xs.map<|putAt k u):=by
 induction r with
 |nil=>exact .nil
 | @cons p q ps qs h t ih=>
  rw[Vd,Vd];refine .cons ?_ ih;let⟨h1,h2,h3⟩:=h;unfold putAt;by_cases e:p.1=k
  ·rw[Z5 0,if_pos<|h1.symm.trans e];show⟨h1,h2,ry⟩
  ·rw[Zp 0,if_neg<|λz=>e<|h1.trans z];show⟨h1,h2,h3⟩
def KT.put{kvs:B_ (Zq 0×V)}{xs:B_ (Zq 0×t_×s_)}(r:KT H kvs xs)(k:Zq 0){b:t_}(hb:H b=a_ (.tup<|k.map kV))(ry:RelV y u):
  KT H (putK kvs k y) (storedH xs k b u):=by
 let e:(kvs.any λkv=>decide (kv.1=k))=(atKey xs k).isSome:=by rw[uQ,(r.val k).isSome_eq,Option.isSome_map]
 unfold putK storedH;rw[e];by_cases q:(atKey xs k).isSome=true
 ·rw[if_pos q,if_pos q];show r.repl k ry
 ·rw[if_neg q,if_neg q];show Paired.snoc r ⟨rfl,hb,ry⟩
variable{H':Hp}
def KT.keeps{kvs:B_ (Zq 0×V)}{xs:B_ (Zq 0×t_×s_)}(r:KT H kvs xs)(ht:∀b ys,H b=a_ (.tup ys)->H' b=a_ (.tup ys)):KT H' kvs xs:=Paired.mapP r λ_ _ z=>⟨z.1,ht _ _ z.2.1,z.2.2⟩
def Le{h:w_}{u:HO}(ok:Z6 h)(e:Rd H a u):cD P w H h a u:=e.ok ok
def sR{h:w_}{kvs:B_ (Key×V)}(ok:Z6 h)(e:Rd H a (.dK kvs)):kvs.length<=U9/\(a == We)=false/\∃vs,KV kvs vs/\h.DictOf (bA P w) a vs:=show cD P w H h a (.dK kvs) from Le ok e
def uR{h:w_}{kvs:B_ (Key×V)}(ok:Z6 h)(e:H a=a_ (.dK kvs)):kvs.length<=U9/\(a == We)=false/\∃vs,KV kvs vs/\h.DictOf (bA P w) a vs:=sR ok<|.inl e
def qX{h:w_}{ks:Zq 0}(ok:Z6 h)(e:H a=a_ (.tup<|ks.map kV)):(tupleKind<|bA P w).is h ks a:=by
 let⟨_,its,r,o,h1,h2,⟨n,h3⟩,_⟩:=(show cD P w H h a (.tup<|ks.map kV) from ok a _ e)
 show⟨o,its.toArray,n,h1,h2,h3,by simpa using yT r⟩
def yU{h:w_}{kvs:B_ (Zq 0×V)}(ok:Z6 h)(e:Rd H a (.dT kvs)):kvs.length<=U9/\(a == We)=false/\
  ∃xs,KT H kvs xs/\h.DictOfH (tupleKind<|bA P w) a xs:=by
 let⟨z,y,xs,r,o,es,ep,h1,h2,h3,h4,h5⟩:=(show cD P w H h a (.dT kvs) from Le ok e)
 refine⟨z,y,xs,r,o,es,ep,h1,h2,h3,h4,λx hx=>?_,h5⟩;let all:∀{l:B_ (Zq 0×V)}{m:B_ (Zq 0×t_×s_)},KT H l m->∀x∈m,(tupleKind<|bA P w).is h x.1 x.2.1:=by
  intro l m q
  induction q with
  |nil=>intro x hx;show nomatch hx
  | @cons p q ps qs hq t ih=>
   intro x hx;rcases U5.mp hx with e|hx
   ·subst e;show qX ok (by rw[<-hq.1];show hq.2.1)
   ·show ih x hx
 show all r x hx
def Os{h:w_}{kvs:B_ (Zq 0×V)}(ok:Z6 h)(e:H a=a_ (.dT kvs)):kvs.length<=U9/\(a == We)=false/\
  ∃xs,KT H kvs xs/\h.DictOfH (tupleKind<|bA P w) a xs:=yU ok<|.inl e
abbrev pS(H:Hp)(a:t_)(y:V)(r:C_ V):Prop:=(∃kvs k,Rd H a (.dK kvs)/\y=kV k/\r=jR kvs k)\/∃kvs k b,Rd H a (.dT kvs)/\y=.ref b/\H b=a_ (.tup<|k.map kV)/\r=jR kvs k
abbrev Mc(H:Hp)(a:t_)(y v:V)(H':Hp):Prop:=
 (∃kvs k,H a=a_ (.dK kvs)/\y=kV k/\kvs.length<U9/\H'=S1 a (.dK<|putK kvs k v))\/
 ∃kvs k b,H a=a_ (.dT kvs)/\y=.ref b/\H b=a_ (.tup<|k.map kV)/\kvs.length<U9/\H'=S1 a (.dT<|putK kvs k v)
def pS.k{H:Hp}{a:t_}{kvs:B_ (Key×V)}{k:Key}(e:H a=a_ (.dK kvs)):pS H a (kV k) (jR kvs k):=.inl ⟨kvs,k,.inl e,rfl,rfl⟩
def Mc.k{H:Hp}{a:t_}{kvs:B_ (Key×V)}{k:Key}{v:V}(e:H a=a_ (.dK kvs))(hl:kvs.length<U9):Mc H a (kV k) v (S1 a<|.dK<|putK kvs k v):=.inl ⟨kvs,k,e,rfl,hl,rfl⟩
variable{jn:g_ 0}{s:td}{E Q:f_ 0}{v:V}{h':w_}{t':Nat}
section
variable{σ:St}{r:s_}{o:C_ V}
def Inv.big(I:P1 s):We<(e_ s):=by let h:Wb<(e_ s):=(I.mod.glob.keeps I.bk).lt;show YC nofun h
def F1(hu:A.units+1<cLine)(I:P1 s)(g:pS H a y (a_ v))(ry:RelV y u)(h:∀w' s',P1 s'->ZG w'->Q w' s'):
  wpAny (h_ X) A (getItem (.ref a) u) Q E s:=by
 rcases g with⟨kvs,k,e,ey,l⟩|⟨kvs,k,b,e,ey,eb,l⟩
 ·subst ey;let⟨z,hd,vs,rel,dd⟩:=sR I.hok e;let⟨w',hw,c5⟩:=lO.some_of (v:=v) (o:=valueAt vs k) (by rw[l];show rel.val k);show wpAny_getItem_of (nY ry) dd.mapOf hw<|h w' _ (ZS 0) c5
 ·subst ey;cases(show u=Vt b from ry)
  let⟨z,hd,xs,rel,dd⟩:=yU I.hok e;let⟨w',hw,c5⟩:=lO.some_of (v:=v) (o:=(atKey xs k).map (·.2)) (by rw[l];show rel.val k);let⟨p,hp,qm⟩:=Vn.mp hw;refine wpAny_getItem_heap (Ye hu) (qX I.hok eb) dd hp ?_;rw[qm];show h w' _ (ZS 0) c5
def QW(hu:A.units+1<cLine)(I:P1 s)(g:pS H a y o)(ry:RelV y u)(h:∀s',P1 s'->Q (.bool o.isSome) s'):
  wpAny (h_ X) A (VC .In u<|.ref a) Q E s:=by
 rcases g with⟨kvs,k,e,ey,l⟩|⟨kvs,k,b,e,ey,eb,l⟩
 ·subst ey;let⟨z,hd,vs,rel,dd⟩:=sR I.hok e;refine wpAny_in_of (nY ry) hd dd.mapOf ?_;rw[<-(rel.val k).isSome_eq,<-l];show h _<|ZS 0
 ·subst ey;cases(show u=Vt b from ry)
  let⟨z,hd,xs,rel,dd⟩:=yU I.hok e;refine wpAny_in_heap (Ye hu) (qX I.hok eb) hd dd ?_;let q:=(rel.val k).isSome_eq;rw[Option.isSome_map]at q;rw[<-q,<-l];show h _<|ZS 0
def Jt(hu:A.units+1<cLine)(I:P1 s)(g:pS H a y o)(ry:RelV y u)(h:∀s',P1 s'->Q (.bool<|!o.isSome) s'):
  wpAny (h_ X) A (VC .NotIn u<|.ref a) Q E s:=by
 rcases g with⟨kvs,k,e,ey,l⟩|⟨kvs,k,b,e,ey,eb,l⟩
 ·subst ey;let⟨z,hd,vs,rel,dd⟩:=sR I.hok e;refine wpAny_notIn_of (nY ry) hd dd.mapOf ?_;rw[<-(rel.val k).isSome_eq,<-l];show h _<|ZS 0
 ·subst ey;cases(show u=Vt b from ry)
  let⟨z,hd,xs,rel,dd⟩:=yU I.hok e;refine wpAny_notIn_heap (Ye hu) (qX I.hok eb) hd dd ?_;let q:=(rel.val k).isSome_eq;rw[Option.isSome_map]at q;rw[<-q,<-l];show h _<|ZS 0
def pT{ob:HO}(I:P1 s)(mu:Mut (H a))(hs:Wy a s.heap h')(he:∃q,h'.get? a=a_ q)(new:q0j (S1 a ob) h' a ob):
  i_ (S1 a ob) {s with heap:=h',toks:=t'}:=
 I.write (x:=a) (e:=a) mu (.inl rfl) (λb q hb z=>(hs.2 b hb).trans z) he new
def uS{kvs:B_ (Key×V)}{vs:B_ (Key×s_)}(z:kvs.length<=U9)(hd:(a == We)=false)(rel:KV kvs vs)(dd:h'.DictOf (bA P w) a vs):
  cD P w H' h' a (.dK kvs):=⟨z,hd,vs,rel,dd⟩
def F2{Q:j_ Unit}(hu:A.units+1<cLine)(I:P1 s)(g:Mc H a y v H')(ry:RelV y u)(rv:ZG r)(h:∀s',i_ H' s'->Q () s'):
  wpAny (h_ X) A (setItem (.ref a) u r) Q E s:=by
 rcases g with⟨kvs,k,e,ey,l,eH⟩|⟨kvs,k,b,e,ey,eb,l,eH⟩
 ·subst ey eH;let⟨z,hd,vs,rel,dd⟩:=uR I.hok e;let hz:vs.length<=U9:=by rw[<-rel.length];show z
  let hl:(putK kvs k v).length<=U9:=by have:=fT kvs k v;omega
  refine wpAny_setItem_pairs (hsz:=hz) (nY ry) dd λh' fw hs=>h _ ?_;let he:∃q,h'.get? a=a_ q:=let ⟨q,_,_,hq,_⟩:=fw;⟨q,hq⟩;show pT I (by rw[e];show WR) hs he<|uS hl hd (rel.put k rv) fw
 ·subst ey eH;cases(show u=Vt b from ry)
  let⟨z,hd,xs,rel,dd⟩:=Os I.hok e;let hz:xs.length<=U9:=by rw[<-VU rel];show z
  let hl:(putK kvs k v).length<=U9:=by have:=fT kvs k v;omega
  refine wpAny_setItem_heap (hsz:=hz) (Ye hu) (qX I.hok eb) dd λh' fw hs=>h _ ?_;let⟨q,es,ep,hq,h2,h3,h4,_,h5⟩:=fw;refine pT I (by rw[e];show WR) hs ⟨q,hq⟩ ⟨hl,hd,_,(rel.put k eb rv).keeps λc ys ec=>?_,q,es,ep,hq,h2,h3,h4,h5⟩;rw[aH<|O0 ec e<|λz=>nomatch z];show ec
end
section
variable{σ:St}{kvs:B_ (Key×V)}{k:Key}
def Ot(I:P1 s)(e:Rd H a (.dK kvs))(h:∀t s',P1 s'->Q (.int kvs.length t) s'):wpAny (h_ X) A (call (.builtin "len") [.ref a]) Q E s:=by let⟨z,hd,vs,rel,dd⟩:=sR I.hok e;refine call_len_dict hd dd (by rw[<-rel.length];rw[VN]at z;omega) ?_;rw[<-rel.length];show h _ _<|ZS 0
end
def Bi{σ:St}{o:C_ V}(I:P1 s)(g:pS H a y o):s.TypeIs (.ref a) "dict" := by
 rcases g with⟨kvs,k,e,_,_⟩|⟨kvs,k,b,e,_,_,_⟩
 ·let⟨_,_,vs,_,dd⟩:=sR I.hok e;show dd.typeIs
 ·let⟨_,_,xs,_,dd⟩:=yU I.hok e;show dd.typeIs
def Bj(h:w_)(hb:We<h.objs.size):cD P w H (h.push {cls:=.type "dict",data:=.dict #[]}) h.objs.size (.dK []):=⟨Vr _,beq_eq_false_iff_ne.mpr<|Wu<|Vc hb,[],.nil,Heap.DictOf.new h⟩
abbrev Md:TE:=λ_ H Q=>∀p,H p=b_->Q (.ref p) (S1 p<|.dK [])
variable{pos:Pos}
def GC:Zr (.Dict [] [] pos) Md:=λjn s σ H Q I h=>wpAny_Dict_empty ⟨.ref<|e_ s,_,I.laid (a:=(e_ s)) (o:=.dK []) (t':=s.toks) (λ_ _ q=>Zn q) (U1 _)<|Bj s.heap I.big,rfl,h _<|I.hok.fresh<|U1 _⟩
abbrev qY(kvs more:B_ (Key×V)):B_ (Key×V):=more.foldl (λacc kv=>putK acc kv.1 kv.2) kvs
def KV.merge:∀{more:B_ (Key×V)}{rs:B_ (Key×s_)}{kvs:B_ (Key×V)}{vs:B_ (Key×s_)},KV more rs->KV kvs vs->KV (qY kvs more) (merged vs rs):=by
 intro more rs kvs vs r;unfold KV at r
 induction r generalizing kvs vs with
 |nil=>intro q;show q
 | @cons p q ps qs h t ih=>
  intro r0;let e:KV (putK kvs p.1 p.2) (stored vs q.1 q.2):=by have:=r0.put p.1 h.2;rw[<-h.1];show this
  show ih e
def nZ:∀(more kvs:B_ (Key×V)),(qY kvs more).length<=kvs.length+more.length
 |[],kvs=>by change kvs.length<=kvs.length+0;omega
 |p::r,kvs=>by
  let h1:=nZ r<|putK kvs p.1 p.2;let h2:=fT kvs p.1 p.2
  change(qY (putK kvs p.1 p.2) r).length<=_
  rw[VI];omega
section
variable{σ:St}{d:V}{r:s_}{o:C_ V}
def Mf(hu:A.units+1<cLine)(I:P1 s)(g:pS H a y o)(ry:RelV y u)(rd:RelV d r)(h:∀w' s',P1 s'->RelV (o.getD d) w'->Q w' s'):
  wpAny (h_ X) A (call (.builtin "dict.get") [.ref a,u,r]) Q E s:=by
 rcases g with⟨kvs,k,e,ey,l⟩|⟨kvs,k,b,e,ey,eb,l⟩
 ·subst ey;let⟨z,hd,vs,rel,dd⟩:=sR I.hok e;refine call_meetsIn Xt dd.typeIs PySem.F.entry_dict_get (PySem.F.args_dict_get_3 _ _ _) (meets_dict_get_default (bA X.prog X.w) a (nY ry) hd r) ⟨_,dd.mapOf,h _ _ (ZS 0) ?_⟩;rw[l];show(rel.val k).getD rd
 ·subst ey;cases(show u=Vt b from ry)
  let⟨z,hd,xs,rel,dd⟩:=yU I.hok e;refine call_meetsIn Xt dd.typeIs PySem.F.entry_dict_get (PySem.F.args_dict_get_3 _ _ _) (meetsH_dict_get_default (tupleKind<|bA X.prog X.w) a b hd r) ⟨Ye hu,k,xs,qX I.hok eb,dd,h _ _ (ZS 0) ?_⟩;rw[l];show(rel.val k).getD rd
end
section
variable{σ:St}{kvs:B_ (Key×V)}
def GD(I:P1 s)(e:Rd H a (.dK kvs))(h:∀p s',H p=b_->i_ (S1 p<|.dK kvs) s'->Q (.ref p) s'):wpAny (h_ X) A (call (.type "dict") [.ref a]) Q E s:=by let⟨z,hd,vs,rel,dd⟩:=sR I.hok e;refine kt_call_dict hd dd (by rw[<-rel.length];show z) λh' fw hs=>?_;refine h _ _ (I.hok.fresh<|U1 _)<|I.laid (a:=(e_ s)) (o:=.dK kvs) (t':=s.toks) (λb q hq=>?_) (U1 _)<|uS z (beq_eq_false_iff_ne.mpr<|Wu<|Vc I.big) rel fw;show(hs.2 b<|Vc<|U8 hq).trans (Zn hq)
end
def F3:cS X (.builtin "len") (λxs H Q=>∃a kvs,xs=[V.ref a]/\H a=a_ (.dK kvs)/\Q (.int kvs.length) H):=by
 intro jn s σ H xs us Q I r h;let⟨a,kvs,rfl,ha,q⟩:=h;let⟨u,rfl,ru⟩:=vals1 r;cases ru
 show Ot I (.inl ha) λt s' I'=>⟨.int kvs.length,H,I',⟨t,rfl⟩,q⟩
abbrev DW(ifs:B_ z_)(env:Env):Sem Bool:=forIn ifs true λc r=>if r=true then do let ok <-isTrue c env (eval c env);pure (ForInStep.yield ok) else pure (ForInStep.yield r)
variable{R:j_ Result}{env:Env}{ifs:B_ z_}{iter:z_}{prog:y_}{scope:Scope}
def Ag{elt target:z_}{it acc:s_}(I:j_ Nat)(turn:∀n s,I n s->r_ (pyNext it) (λr s₁=>match r with
   |none=>R (.ok .next) s₁
   | some v=>r_ (letOwnedTupleGo target it v) (fun _ zp=>r_ (assign target env v) (fun _ s₂=>
     r_ (DW ifs env) (λok s₃=>
      if ok=true then m_ prog w A (eval elt env) (λx s₄=>r_ (call (.builtin "list.append") [acc,x]) (λ_ s₅=>∃m,m<n/\I m s₅) (λ_ _=>False) s₄) (λ_ _=>False) s₃
      else ∃m,m<n/\I m s₃) (λ_ _=>False) s₂) (λ_ _=>False) zp) (λ_ _=>False) s₁) (λ_ _=>False) s)(n:Nat)(h:I n s):
  codeAny (Z4 0) A (.compLoop (.ListComp elt [⟨target,iter,ifs,0⟩] scope pos) 0 it acc env) R s:=by
 refine codeAny_loop rfl I (λn s hI=>?_) n h
 show wpAny _ A ((compTurn (.ListComp elt [⟨target,iter,ifs,0⟩] scope pos) 0 it acc env).onRaise (λx=>do noteFrame x env;theTreesLotGoes x)) _ _ s
 refine wpAny_noted ?_;rw[compTurn_list];refine SB<|wpAny_standAt<|SB<|Wz (turn n s hI) (λr s₁ h₁=>?_) λ_ _ h'=>h'.elim;cases r with
 |none=>exact SL h₁
 |some v=>
  refine SB<|Wz h₁ (λ_ zp S9=>?_) λ_ _ h'=>h'.elim;refine SB<|Wz S9 (λ_ s₂ h₂=>SB<|Wz h₂ (λok s₃ h₃=>?_) λ_ _ h'=>h'.elim) λ_ _ h'=>h'.elim;cases ok with
  |false=>exact SL ⟨rfl,h₃⟩
  |true=>exact SB<|SB<|Wz h₃ (λx s₄ h₄=>SB (Wz h₄ (λ_ s₅ h₅=>SL (SL ⟨rfl,h₅⟩)) λ_ _ h'=>h'.elim)) λ_ _ h'=>h'.elim
abbrev iF(cells:B_ (Str×t_)):B_ (Str×Yd)->B_ (Str×t_)->B_ (Str×t_)
 |[],cs=>cs
 |(n,k)::r,cs=>iF cells r (if(k == VV)=true then(n,(cells.lookup n).getD 0)::cs else cs)
def xX(h:∀y∈scope.names,y.2=VV->∃c,env.cells.lookup y.1=a_ c):closureFor scope env=pure (iF env.cells scope.names []):=by
 have go:∀(names:B_ (Str×Yd))(cs:B_ (Str×t_)),(∀y∈names,y.2=VV->∃c,env.cells.lookup y.1=a_ c)->
   (forIn names cs λ(x:Str×Yd)(r:B_ (Str×t_))=>match x with
    |(name,kind)=>if(kind == VV)=true then(do let y <-cellOf env name;pure (ForInStep.yield ((name,y)::r))) else(pure (ForInStep.yield r):Sem _))=(pure (iF env.cells names cs):Sem _):=by
  intro names
  induction names with
  |nil=>intro cs _;rfl
  |cons y r ih=>
   intro cs hy
   let⟨n,k⟩:=y
   rw[List.forIn_cons]
   have z6:=λTL=>ih TL λy hm=>hy y<|U4 _ hm
   by_cases hk:(k == VV)=true
   ·let⟨c,hc⟩:=hy (n,k) UV (l_ hk)
    have e1:cellOf env n=pure c:=by unfold cellOf;rw[show env.cells.lookup n=a_ c from hc]
    have e2:iF env.cells ((n,k)::r) cs=iF env.cells r ((n,c)::cs):=by
     show iF env.cells r (if(k == VV)=true then _ else _)=_
     rw[if_pos hk,show env.cells.lookup n=a_ c from hc];rfl
    rw[e2,<-z6 ((n,c)::cs)]
    simp only[hk,if_true,e1,pure_bind]
   ·have e2:iF env.cells ((n,k)::r) cs=iF env.cells r cs:=by
     show iF env.cells r (if(k == VV)=true then _ else _)=_
     rw[if_neg hk]
    rw[e2,<-z6 cs]
    simp only[hk,if_false,pure_bind]
    try rfl
 have:=go scope.names [] h
 unfold closureFor
 simpa using this
def sS{cells:B_ (Str×t_)}{x:Str}{c:t_}:∀(names:B_ (Str×Yd))(cs:B_ (Str×t_)),(iF cells names cs).lookup x=a_ c->cs.lookup x=a_ c\/(∃y∈names,y.1=x/\y.2=VV/\c=(cells.lookup x).getD 0)
 |[],_,h=>.inl h
 |(n,k)::r,cs,h=>by
  rcases sS r _ h with h1|⟨y,hy,e⟩
  ·by_cases hk:(k == VV)=true
   ·rw[if_pos hk]at h1;by_cases hx:x=n
    ·subst hx;simp only[VB,beq_self_eq_true]at h1;show .inr ⟨(x,k),UV,rfl,l_ hk,(Vq h1).symm⟩
    ·have:(x == n)=false:=by simpa using hx
     simp only[VB,this]at h1;show .inl h1
   ·rw[if_neg hk]at h1;show .inl h1
  ·show .inr ⟨y,U4 _ hy,e⟩
def uT{cells:B_ (Str×t_)}{x:Str}:∀(names:B_ (Str×Yd))(cs:B_ (Str×t_)),((∃c,cs.lookup x=a_ c)\/∃y∈names,y.1=x/\y.2=VV)->∃c,(iF cells names cs).lookup x=a_ c
 |[],_,h=>by
  rcases h with h|⟨y,hy,_⟩
  ·show h
  ·cases hy
 |(n,k)::r,cs,h=>by
  refine uT r _ ?_;rcases h with⟨c,h⟩|⟨y,hy,e1,e2⟩
  ·left;by_cases hk:(k == VV)=true
   ·rw[if_pos hk];by_cases hx:x=n
    ·subst hx;simp[VB]
    ·have:(x == n)=false:=by simpa using hx
     show⟨c,by simp only[VB,this];show h⟩
   ·rw[if_neg hk];show⟨c,h⟩
  ·rcases U5.mp hy with rfl|hy
   ·left;let hk:(k == VV)=true:=by simpa using e2
    rw[if_pos hk];let hx:n=x:=e1;subst hx;simp[VB]
   ·show .inr ⟨y,hy,e1,e2⟩
abbrev kE(os:Scope)(oN:Zf 0)(sc:Scope)(N:Zf 0)(js:B_ (C_ Nat)):Bool:=
 (match sc.kind with|.function=>true|_=>false)&&sc.names.all (λy=>match y.2 with
  |.cell=>(match sc.names.lookup y.1 with|some .cell=>true|_=>false)
  |_=>true) &&
 sc.names.all (λy=>match y.2 with
  |.local=>(match sc.names.lookup y.1 with|some .local=>true|_=>false)
  |.free=>(match sc.names.lookup y.1,os.names.lookup y.1 with|some .free,a_ .cell=>true|some .free,a_ .free=>true|_,_=>false)
  |_=>true) &&
 js.length == N.length&&(js.zip N).all (λp=>match p.1 with
  |none=>true
  |some j=>(match oN[j]? with|some x=>decide (x=p.2)|none=>false)&&(match sc.names.lookup p.2 with|some .free=>true|_=>false))
structure Mh(os:Scope)(oN:B_ Str)(sc:Scope)(N:B_ Str)(js:B_ (C_ Nat)):Prop where
 kind:sc.kind=.function
 own:∀y∈sc.names,y.2=.cell->sc.names.lookup y.1=some .cell
 nm:∀y∈sc.names,y.2=.local->sc.names.lookup y.1=some .local
 fr:∀y∈sc.names,y.2=.free->os.names.lookup y.1=some .cell\/os.names.lookup y.1=some .free
 len:js.length=N.length
 cap:∀(i j:Nat),js[i]?=some (some j)->∃x,N[i]?=some x/\oN[j]?=some x/\sc.names.lookup x=some .free
variable{js:B_ (C_ Nat)}{oN:Zf 0}{os sc:Scope}
def F4(h:kE os oN sc N js=true):Mh os oN sc N js:=by
 unfold kE at h;simp only[VA]at h;let⟨⟨⟨⟨h1,h2⟩,h3⟩,h4⟩,h5⟩:=h;refine⟨?_,λy hy e=>?_,λy hy e=>?_,λy hy e=>?_,l_ h4,λi j e=>?_⟩
 ·cases hk:sc.kind <;> rw[hk]at h1 <;> first|rfl|exact absurd h1 Ve
 ·have:=Vs.mp h2 y hy;rw[e]at this;dsimp only at this;cases hl:sc.names.lookup y.1 with
  |none=>rw[hl]at this;show absurd this Ve
  |some k=>cases k <;> rw[hl]at this <;> first|rfl|exact absurd this Ve
 ·have:=Vs.mp h3 y hy;rw[e]at this;dsimp only at this;cases hl:sc.names.lookup y.1 with
  |none=>rw[hl]at this;show absurd this Ve
  |some k=>cases k <;> rw[hl]at this <;> first|rfl|exact absurd this Ve
 ·have:=Vs.mp h3 y hy;rw[e]at this;dsimp only at this;cases hl:sc.names.lookup y.1 with
  |none=>rw[hl]at this;show absurd this Ve
  |some k=>
   rw[hl]at this;cases ho:os.names.lookup y.1 with
   |none=>rw[ho]at this;cases k <;> exact absurd this Ve
   |some k'=>rw[ho]at this;cases k <;> cases k' <;> first|exact .inl rfl|exact .inr rfl|exact absurd this Ve
 ·let hlen:js.length=N.length:=by simpa using h4
  let⟨hi,ej⟩:=SC.mp e;let hN:i<N.length:=⋯;let hz:(js.zip N)[i]?=a_ (a_ j,N[i]):=by rw[List.getElem?_zip_eq_some];show⟨e,by simp[hN]⟩
  have:=Vs.mp h5 _<|VE hz;simp only[VA]at this;let⟨t1,t2⟩:=this;refine⟨N[i],by simp[hN],?_,?_⟩
  ·cases ho:oN[j]? with
   |none=>rw[ho]at t1;show absurd t1 Ve
   |some x=>rw[ho]at t1;rw[of_decide_eq_true t1]
  ·cases hl:sc.names.lookup N[i] with
   |none=>rw[hl]at t2;show absurd t2 Ve
   |some k=>rw[hl]at t2;cases k <;> first|rfl|exact absurd t2 Ve
def cT{κ:Type}{x:Str}{k:κ}:∀{l:B_ (Str×κ)},l.lookup x=a_ k->(x,k)∈l
 |[],h=>by simp at h
 |(n,v)::r,h=>by
  by_cases hx:x=n
  ·subst hx;simp only[VB,beq_self_eq_true]at h;cases h
   show UV
  ·have:(x == n)=false:=by simpa using hx
   simp only[VB,this]at h;show U4 _<|cT h
def lY{sc:Scope}{env:Env}:∀{names:B_ (Str×Yd)}{x:Str}{k:Yd},(names.map λ(n,k)=>if(k == VV&&env.scope.kind == .function&&env.kindOf n == a_ .cell) then(n,YG) else(n,k)).lookup x=a_ k->
  names.lookup x=a_ k\/(k=.cell/\names.lookup x=a_ .free)
 |[],_,_,h=>by simp at h
 |(n,q)::r,x,k,h=>by
  let ih:=@lY sc env r x k;by_cases hc:(q == VV&&env.scope.kind == .function&&env.kindOf n == a_ .cell)=true
  ·simp only[Vd]at h;rw[if_pos hc]at h;let hq:q=.free:=by simp only[VA]at hc;simpa using hc.1.1
   by_cases hx:x=n
   ·subst hx;simp only[VB,beq_self_eq_true]at h⊢;show .inr ⟨(Vq h).symm,by rw[hq]⟩
   ·let e:(x == n)=false:=by simpa using hx
    simp only[VB,e]at h⊢;show ih h
  ·simp only[Vd]at h;rw[if_neg hc]at h;by_cases hx:x=n
   ·subst hx;simp only[VB,beq_self_eq_true]at h⊢;show .inl h
   ·let e:(x == n)=false:=by simpa using hx
    simp only[VB,e]at h⊢;show ih h
def pU{env:Env}:∀{names:B_ (Str×Yd)}{x:Str},names.lookup x=a_ .free->
  (names.map λ(n,k)=>if(k == VV&&env.scope.kind == .function&&env.kindOf n == a_ .cell) then(n,YG) else(n,k)).lookup x=a_ .free\/
  (names.map λ(n,k)=>if(k == VV&&env.scope.kind == .function&&env.kindOf n == a_ .cell) then(n,YG) else(n,k)).lookup x=a_ .cell
 |[],_,h=>by simp at h
 |(n,q)::r,x,h=>by
  let ih:=@pU env r x;by_cases hc:(q == VV&&env.scope.kind == .function&&env.kindOf n == a_ .cell)=true
  ·simp only[Vd];rw[if_pos hc];by_cases hx:x=n
   ·subst hx;simp only[VB,beq_self_eq_true]
    first|exact .inr rfl|exact .inr trivial
   ·let e:(x == n)=false:=by simpa using hx
    simp only[VB,e]at h⊢;show ih h
  ·simp only[Vd];rw[if_neg hc];by_cases hx:x=n
   ·subst hx;simp only[VB,beq_self_eq_true]at h⊢;show .inl h
   ·let e:(x == n)=false:=by simpa using hx
    simp only[VB,e]at h⊢;show ih h
def bB:∀(names:B_ (Str×Yd))(n:Nat)(acc:B_ (Str×t_)),V3 n names acc=V3 n names []++acc
 |[],_,_=>rfl
 |(x,k)::r,n,acc=>by
  unfold V3;split
  ·rw[bB r _ ((x,n)::acc),bB r _ [(x,n)],Yp];rfl
  ·show bB r n acc
set_option tactic.hygienic true in
def kF{x:Str}{c:t_}:∀{names:B_ (Str×Yd)}{n:Nat},(x,c)∈V3 n names []->(x,YG)∈names
 |[],_,h=>by cases h
 |(y,k)::r,n,h=>by
  unfold V3 at h;split at h
  ·rename_i hk;rw[bB,Vx]at h;rcases h with h|h
   ·show U4 _ (kF h)
   ·let e:=Va.mp h;let ex:x=y:=congrArg Prod.fst e;let ek:k=.cell:=by simpa using hk
    rw[ex,ek];show UV
  ·show U4 _ (kF h)
def sT{α:Type}{x:Str}{c:α}:∀{l:B_ (Str×α)},(x,c)∈l->∃d,l.lookup x=a_ d
 |(y,d)::r,h=>by
  by_cases e:x=y
  ·subst e;show⟨d,by simp[VB]⟩
  ·let z:(x == y)=false:=by simpa using e
   rcases U5.mp h with q|q
   ·show absurd (congrArg Prod.fst q) e
   ·let⟨d',hd⟩:=sT q;show⟨d',by simp only[VB,z];show hd⟩
def fP{x:Str}:∀{names:B_ (Str×Yd)}{n:Nat},(x,YG)∈names->∃c,(V3 n names []).lookup x=a_ c
 |(y,k)::r,n,h=>by
  let go:∃c,(x,c)∈V3 n ((y,k)::r) []:=by
   rcases U5.mp h with q|q
   ·let ex:x=y:=congrArg Prod.fst q;let ek:k=.cell:=(congrArg Prod.snd q).symm;refine⟨n,?_⟩;unfold V3;rw[if_pos (by rw[ek];rfl),bB,ex];show Vb _ UV
   ·unfold V3;split
    ·let⟨c,hc⟩:=fP (n:=n+1) q;rw[bB];show⟨c,Ws _<|mem_of_lookup hc⟩
    ·let⟨c,hc⟩:=fP (n:=n) q;show⟨c,mem_of_lookup hc⟩
  let⟨c,hc⟩:=go;show sT hc
def pV{α:Type}{x:Str}:∀{l r:B_ (Str×α)},(l++r).lookup x=(l.lookup x).or (r.lookup x)
 |[],_=>by simp
 |(y,d)::l,r=>by
  let ih:=pV (x:=x) (l:=l) (r:=r);cases e:x == y with
  |true=>simp[VB,e]
  |false=>simp only[Yv,VB,e];show ih
variable{M:Model}{builtins globals:t_}{closure:B_ (Str×t_)}{code:s_}{func:C_ t_}
def qZ{outer:Env}{Q:j_ Env}(hQ:Q (newEnv scope (e_ s) globals (V3 (s.heap.objs.size+1) scope.names closure) qual func code (a_ outer) builtins) {s with heap:=pushCells (s.heap.push {cls:=.type "dict",data:=.dict #[]}) scope.names}):
  wpAny M A (newFunctionEnv scope globals closure [] qual func code (a_ outer) builtins) Q E s:=by
 simp only[newFunctionEnv,YF,if_true];refine SB<|wpAny_alloc ?_;refine SB (wpAny_layCells _ (λname kind cells=>by cases hkc:kind == YG <;> simp[hkc]) _ _ _ _ ?_);rw[show({s with heap:=s.heap.push {cls:=.type "dict",data:=.dict #[]} }:td).heap.objs.size=(e_ s)+1 from Xe ..]
 rw[List.forIn_nil];show SB<|SL<|SL hQ
abbrev Cx.comp(X:Cx)(sc:Scope)(N:Zf 0)(C:t_)(fp:B_ t_)(s₀:td)(H₀:Hp):Cx:=
 { X with N:=N,s₀:=s₀,H₀:=H₀,env:=compEnvC sc (V3 (C+1) sc.names<|S_ []) C X.env,outer:=X.stack,ex:=fp,fn:=λx=>(match Zc 0 with|some .cell=>true|_=>false),pn:=[],xe:=λ_ _=>False}
abbrev CG:St->Nat->C_ V
 |[],_=>b_
 |x::_,0=>x
 |_::r,n+1=>CG r n
def uU:∀{σ:St}{i:Nat}{v:V},CG σ i=a_ v->σ[i]?=a_ (a_ v)
 |[],_,_,h=>by cases h
 |x::_,0,v,h=>by let h':x=a_ v:=h;simp[h']
 |_::r,n+1,v,h=>by rw[Wn];show uU (σ:=r) (i:=n) h
abbrev kG(js:B_ (C_ Nat))(σ:St):St:=js.map λo=>match o with
 |none=>b_
 |some j=>CG σ j
variable{i:Nat}
def Ju{σ:St}(h:(kG js σ)[i]?=a_ (a_ v)):∃j,js[i]?=a_ (a_ j)/\σ[j]?=a_ (a_ v):=by
 unfold kG at h;rw[Vf]at h;cases e:js[i]? with
 |none=>rw[e]at h;cases h
 |some o=>
  rw[e]at h;cases o with
  |none=>cases h
  |some j=>exact⟨j,rfl,uU<|Vq h⟩
abbrev PTs(X:Cx)(ifs:B_ z_)(t:TT):Prop:=
 ∀(jn:g_ 0)(s:td)(σ:St)(H:Hp)(Q:Bool->Hp->Prop),P1 s->t σ H Q->wpAny (h_ X) X.A (DW ifs X.env) (TP X jn σ Q) X.xe s
abbrev Ou:TT:=λ_ H Q=>Q true H
def Jv:PTs X [] Ou:=λ_ _ _ H _ I h=>wpAny_tests_nil ⟨H,I,h⟩
variable{c:z_}
def Jw{t:TT}(h:PT X c t):PTs X [c] t:=λjn s σ H Q I q=>wpAny_tests_one<|Zg Q I q
abbrev Lf(js:B_ (C_ Nat))(g:TG)(tt:TT)(te:TE)(σ:St)(acc:t_)(x:V)(H:Hp)(N:Hp->Prop):Prop:=g x (kG js σ) H λσ2 H4=>tt σ2 H4 λb H5=>if b=true then te σ2 H5 λv H6=>∃ys,H6 acc=a_ (.lst ys)/\ys.length<U9/\N (upd H6 acc<|.lst<|ys++[v]) else N H5
abbrev DX(js:B_ (C_ Nat))(wi:TI)(g:TG)(tt:TT)(te:TE):TE:=λσ H Q=>wi σ H λJ H1=>∀acc,H1 acc=b_->
 ∃W:Nat->Nat->Hp->Prop,(∃m,W 0 m<|upd H1 acc<|.lst [])/\∀i m H2,W i m H2->
  (J.stop i H2/\Q (.ref acc) H2)\/(J.go i H2/\∃N:Hp->Prop,(∀H',N H'->∃m',m'<m/\W (i+1) m' H')/\∀x H3,J.yld i H2 x H3->Lf js g tt te σ acc x H3 N)
structure Off(X:Cx)(jn:g_ 0)(H:Hp)(C:t_)(s:td):Prop where
 ns:∃m,s.heap.Ns C m
 none:H C=none
 loc:C≠X.env.locals
 new:X.s₀.heap.objs.size<=C
 cells:∀x c,X.env.cells.lookup x=some c->c≠C
 jn:∀p∈X.pn++jn,p.1≠C
def Off.go{σ:St}{C:t_}(o:Off X jn H C s)(I:P1 s)(hs:Wy C s.heap h'):P1 {s with heap:=h'}:=I.turned (t':=s.toks) (λb ob hb e=>(hs.2 b hb).trans e) o.none o.loc (.inr o.new) o.cells o.jn
variable{Q0:f_ 0}{te:TE}{tg:z_}{tt:TT}{use:C_ (s_->Sem Unit)}{wi:TI}
def yV{elt:z_}{g:TG}(hc:X.calm=true)(f9:X.env.scope=os)(jw:X.N=oN)(ok:kE os oN sc N js=true)(hi:PI X tg iter wi)(hg:∀C fp s₀ H₀,PG (Zs 0) tg g)(ht:∀C fp s₀ H₀,PTs (Zs 0) ifs tt)(he:∀C fp s₀ H₀,PE (Zs 0) elt te){σ:St}{Q:VK}(I:P1 s)(h:DX js wi g tt te σ H Q)(k0:∀acc C s6 H6,i_ H6 s6->Off X jn H6 C s6->Q (.ref acc) H6->compPost (h_ X) X.A X.xe use Q0 (.ref acc) C (.ok .next) s6)(hs:∀x,q0c 0=pure x:=by intro _;rfl):
  wpAny (h_ X) X.A (comprehension (.ListComp elt [⟨tg,iter,ifs,0⟩] sc pos) sc X.env (firstIterPos [⟨tg,iter,ifs,0⟩] pos) (newList []) false (eval iter X.env) use) Q0 X.xe s:=by
 let S:=F4 ok;subst f9 jw;let qg:∀y∈sc.names,y.2=VV->∃c,X.env.cells.lookup y.1=a_ c:=λy hy e=>I.ok.has y.1<|S.fr y hy e;let kh:∀x c,(S_ []).lookup x=a_ c->T_ 0=a_ c:=λx c e=>by
  rcases sS _ _ e with z|⟨y,hy,e1,e2,e3⟩
  ·cases z
  ·let⟨d,hd⟩:=qg y hy e2;rw[e1]at hd;rw[hd]at e3;rw[hd,e3];rfl
 refine wpAny_comprehension_free (use:=use) rfl hs (xX qg) S.kind S.nm<|thn (hi jn s σ H _ I h) λv s1 h1=>thn h1 λxt s2 h2=>?_;let⟨it,fp,tn,J,H2,e,I2,T,ji,f2,q⟩:=h2;subst e;let⟨W,⟨m0,w0⟩,turn⟩:=q (e_ s2) I2.fresh;refine Vk<|qZ ?_;let I3:i_ (upd H2 (e_ s2)<|.lst []) {s2 with heap:=s2.heap.push {cls:=.type "list",data:=.seq ([]:ZM 0).toArray},toks:=s2.toks}:=I2.lnew (its:=[]) (ys:=[]) .nil<|Vr _;generalize Tu:upd H2 (e_ s2) (HO.lst [])=H3 at w0 I3;generalize Ti:({s2 with heap:=s2.heap.push {cls:=.type "list",data:=.seq ([]:ZM 0).toArray},toks:=s2.toks}:td)=s3 at I3;let TC:({s2 with heap:=s2.heap.push {cls:=.type "list",dict:=b_,data:=.seq ([]:ZM 0).toArray} }:td)=s3:=Ti;let zr:s2.heap.push {cls:=.type "list",dict:=b_,data:=.seq ([]:ZM 0).toArray}=s3.heap:=by rw[<-TC]
 (try rw[zr])
 let hC:∀b o,s3.heap.get? b=a_ o->b≠(e_ s3):=λb o e=>Vc<|U8 e;let old:∀b o,s3.heap.get? b=a_ o->(pushCells (s3.heap.push {cls:=.type "dict",data:=.dict #[]}) sc.names).get? b=a_ o:=λb o e=>pushCells_keeps _ _ b o<|Zn e;let tj:(pushCells (s3.heap.push {cls:=.type "dict",data:=.dict #[]}) sc.names).Ns (e_ s3) (λ_=>b_):=(Heap.Ns.new s3.heap<|.type "dict").keeps<|pushCells_keeps _ _;let q0:=cellsFrom_ok sc.names (s3.heap.push {cls:=.type "dict",data:=.dict #[]}) (s3.heap.objs.size+1) [] ⟨λ_ _ hm=>(nomatch hm),Yo⟩ (by rw[Xe];show U1 _);rw[Xe]at q0;generalize pushCells (s3.heap.push {cls:=.type "dict",data:=.dict #[]}) sc.names=h₁ at old tj q0⊢;let rg:∀{x c},(V3 (s3.heap.objs.size+1) sc.names<|S_ []).lookup x=a_ c->((x,c)∈V3 (s3.heap.objs.size+1) sc.names []/\h₁.IsCell c b_/\(e_ s3)+1<=c)\/(T_ 0=a_ c/\c<(e_ s3)):=λ{x c} e=>by
  rw[bB,pV]at e;cases eo:(V3 (s3.heap.objs.size+1) sc.names []).lookup x with
  |some d=>
   rw[eo]at e;cases e
   have:=mem_of_lookup eo;show .inl ⟨this,q0.empty x c this⟩
  |none=>rw[eo]at e;let e:=kh x c e;let⟨v,z⟩:=I3.cell x c e;show .inr ⟨e,z.lt⟩
 let So:∀{x c},Zc 0=a_ .free->(S_ []).lookup x=a_ c->(V3 (s3.heap.objs.size+1) sc.names<|S_ []).lookup x=a_ c:=λ{x c} hf e=>by
  rw[bB,pV];cases eo:(V3 (s3.heap.objs.size+1) sc.names []).lookup x with
  |some d=>have:=S.own _ (kF<|mem_of_lookup eo) rfl;rw[hf]at this;cases this
  |none=>exact e
 let rn:tn 0 s3.heap:=T.keep 0 _ _ ji λb hb o e=>by rw[<-zr];show Zn e
 let wo:∀b∈fp,∃o,s3.heap.get? b=a_ o/\∀v,o.data≠.cell v:=T.obj 0 _ rn;let f3:∀b∈fp,B7 X jn H3 b:=λb hb=>by let⟨o,ho,_⟩:=T.obj 0 _ ji b hb;refine⟨?_,(f2 b hb).2⟩;rw[<-Tu,aH<|Vc<|U8 ho];show(f2 b hb).1
 -- the block's context
 let vg:(S2 N (e_ s3) fp s3 H3).Ok:=by
  refine⟨I.ok.mod,S.kind,I.ok.glob,I.ok.blt,U1 _,λx y c e1 e2=>?_,λx hx=>?_,λx c z e=>?_,I.ok.hd,I.ok.frames,.inl rfl,λb hb=>?_,I3.bs,
   VO I.ok.bsz I3.sz,λb o e hb=>?_,λb hb hf=>?_,I3.stack,I3.stkFree⟩
  ·rcases rg e1 with⟨m1,_,g1⟩|⟨z1,g1⟩ <;> rcases rg e2 with⟨m2,_,g2⟩|⟨z2,g2⟩
   ·show name_of_addr q0.apart m1 m2
   ·show absurd (Vo g2<|Nat.le_of_succ_le g1) (WT _)
   ·show absurd (Vo g1<|Nat.le_of_succ_le g2) (WT _)
   ·show I.ok.inj x y c z1 z2
  ·let fr:Zc 0=a_ .free->∃c,(V3 (s3.heap.objs.size+1) sc.names<|S_ []).lookup x=a_ c:=λhf=>
    let ⟨c,hc⟩:=uT (cells:=X.env.cells) (x:=x) sc.names []<|.inr ⟨_,cT hf,rfl,rfl⟩
    ⟨c,So hf hc⟩
   let fin:∀{k},(relabel sc X.env).names.lookup x=a_ k->(k=.cell\/k=.free)->∃c,(V3 (s3.heap.objs.size+1) sc.names<|S_ []).lookup x=a_ c:=λ{k} e hk=>by
    rcases lY (sc:=sc) e with z|⟨_,z⟩
    ·rcases hk with rfl|rfl
     ·let⟨c,hc⟩:=fP (n:=(e_ s3)+1)<|cT z;show⟨c,by rw[bB,pV,hc];rfl⟩
     ·show fr z
    ·show fr z
   rcases hx with hx|hx
   ·show fin hx (.inl rfl)
   ·show fin hx (.inr rfl)
  ·let z:Zc 0=a_ .cell:=by
    let z:(match Zc 0 with|some .cell=>true|_=>false)=true:=z
    split at z
    ·assumption
    ·cases z
   let e:(V3 (s3.heap.objs.size+1) sc.names<|S_ []).lookup x=a_ c:=e;let⟨d,hd⟩:=fP (n:=(e_ s3)+1)<|cT z;rw[bB,pV,hd]at e;cases e
   show Nat.le_of_succ_le (q0.empty x c<|mem_of_lookup hd).2
  ·let⟨o,ho,_⟩:=wo b hb;refine⟨hC b o ho,λx c e=>?_⟩;rcases rg e with⟨_,_,g1⟩|⟨z1,_⟩
   ·show WL (Vo (U8 ho)<|Nat.le_of_succ_le g1)
   ·show(f3 b hb).2.2.2.2.1 x c z1
  ·rcases(f3 b hb).2.2.2.1 with z|z
   ·show I.ok.noex b o e z
   ·show absurd (Vo (U8 e)<|VO I.ok.bsz z) (WT _)
  ·rcases U5.mp (I3.stkSub b hf) with z|z
   ·show(f3 b hb).2.1 z
   ·show(f3 b hb).2.2.1 z
 -- what the block takes from around it
 let qe:∀(i:Nat)(x:Str)(v:V),N[i]?=a_ x->(kG js σ)[i]?=a_ (a_ v)->∃u c o,ZG u/\((compEnvC sc (V3 (s3.heap.objs.size+1) sc.names<|S_ []) (e_ s3) X.env).kindOf x=a_ .cell\/(compEnvC sc (V3 (s3.heap.objs.size+1) sc.names<|S_ []) (e_ s3) X.env).kindOf x=a_ .free)/\
   (V3 (s3.heap.objs.size+1) sc.names<|S_ []).lookup x=a_ c/\s3.heap.get? c=a_ o/\o.data=.cell (a_ u)/\H3 c=b_/\c∉fp:=by
  intro i x v hN hv;let⟨j,hj,hσ⟩:=Ju hv;let⟨x',df,ho,hf⟩:=S.cap i j hj;rw[hN]at df;cases df;let⟨m,hn,hl⟩:=I3.loc;let ym:Vis X.env.scope x:=by
   rcases S.fr _ (cT hf) rfl with z|z
   ·show .inr (.inl z)
   ·show .inr (.inr z)
  let⟨u,r,l⟩:=hl j x v ho hσ ym;let⟨c,qd⟩:=uT (cells:=X.env.cells) (x:=x) sc.names []<|.inr ⟨_,cT hf,rfl,rfl⟩;let xy:=kh x c qd;let fv:s3.heap.IsCell c (a_ u):=by
   rcases l with⟨k,_⟩|⟨_,c',e,z⟩
   ·exfalso;rcases S.fr _ (cT hf) rfl with z|z
    ·let k':V_ 0=a_ .local:=k;rw[z]at k';cases k'
    ·let k':V_ 0=a_ .local:=k;rw[z]at k';cases k'
   ·rw[xy]at e;cases e;show z
  let⟨o,de,hd⟩:=fv;refine⟨u,c,o,r,?_,So hf qd,de,hd,I3.freeC x c xy,λhb=>(f3 c hb).2.2.2.2.1 x c xy rfl⟩;show(pU (env:=X.env) hf).symm
 -- at any state of the block,its names as at its start
 let qz:∀{dq:g_ 0}{σ8:St}{H8:Hp}{s8:td},Inv (S2 N (e_ s3) fp s3 H3) dq σ8 H8 s8->Inv (S2 N (e_ s3) fp s3 H3) [] (kG js σ) H8 s8:=λ{dq σ8 H8 s8} I8=>by
  refine⟨I8.ok,I8.os,I8.bare,I8.base,?_,I8.cell,I8.free,I8.freeC,λp hp=>by simp[Cx.comp]at hp,I8.hok,?_⟩
  ·let⟨m,hn,_⟩:=I8.loc;refine⟨m,hn,λi x v hN hv _=>?_⟩;let⟨u,c,o,r,k,hl,ho,hd,Ul,UY⟩:=qe i x v hN hv;refine⟨u,r,.inr ⟨k,c,hl,?_⟩⟩;let⟨sl,e⟩:=I8.base.any ho Ul UY;show⟨_,e,hd⟩
  ·change(kG js σ).length=N.length
   unfold kG;rw[U2,S.len]
 let I4:Inv (S2 N (e_ s3) fp s3 H3) [] (kG js σ) H3 {s3 with heap:=h₁}:=by
  refine⟨vg,rfl,I3.bare,Un.kept old,⟨_,tj,λi x v hN hv _=>?_⟩,λx c e=>?_,I3.fresh,λx c e=>?_,λp hp=>by simp[Cx.comp]at hp,I3.hok.kept old,?_⟩
  ·let⟨u,c,o,r,k,hl,ho,hd,_,_⟩:=qe i x v hN hv;show⟨u,r,.inr ⟨k,c,hl,o,old c o ho,hd⟩⟩
  ·rcases rg e with⟨_,g1,_⟩|⟨z1,_⟩
   ·show⟨_,g1⟩
   ·let⟨v,o,ho,hd⟩:=I3.cell x c z1;show⟨v,o,old c o ho,hd⟩
  ·rcases rg e with⟨_,_,g1⟩|⟨z1,_⟩
   ·show I3.hok.fresh ⋯
   ·show I3.freeC x c z1
  ·change(kG js σ).length=N.length
   unfold kG;rw[U2,S.len]
 let RP:tn 0 h₁:=T.keep 0 _ _ rn λb hb o e=>old b o e;let kn:∀{H':Hp},(∀b∈fp,H' b=b_)->∀b∈fp,B7 (S2 N (e_ s3) fp s3 H3) [] H' b:=λ{H'} hn b hb=>⟨hn b hb,(vg.exf b hb).1,vg.exfs b hb,.inl hb,(vg.exf b hb).2,λp hp=>by simp[Cx.comp]at hp⟩;let fin:∀(s6:td)(H6:Hp),Inv (S2 N (e_ s3) fp s3 H3) [] (kG js σ) H6 s6->Q (.ref<|e_ s2) H6->compPost (h_ X) X.A X.xe use Q0 (.ref<|e_ s2) (e_ s3) (.ok .next) s6:=λs6 H6 I6 q6=>by
  let I7:i_ H6 s6:=I3.call' (ch:=fp) I6.os I6.base I6.hok I6.bare λb hb=>⟨(f3 b hb).2.2.2.1,(f3 b hb).2.1,(f3 b hb).2.2.2.2.1,(f3 b hb).2.2.2.2.2⟩;refine k0 _ _ _ _ I7 ⟨let ⟨m,hn,_⟩:=I6.loc;⟨m,hn⟩,I6.free,WL I3.lt,I3.sz,λx c e=>?_,λp hp=>?_⟩ q6
  ·let⟨v,z⟩:=I3.cell x c e;show Vc z.lt
  ·show Vc (U8 (I3.pin p hp).1)
 let loop:codeAny (h_ X) X.A (.compLoop (.ListComp elt [⟨tg,iter,ifs,0⟩] sc pos) 0 (.ref it) (.ref<|e_ s2)<|compEnvC sc (V3 (s3.heap.objs.size+1) sc.names<|S_ []) (e_ s3) X.env)
   (compPost (h_ X) X.A X.xe use Q0 (.ref<|e_ s2)<|e_ s3) {s3 with heap:=h₁}:=by
  refine Ag (λn s'=>∃i H',Inv (S2 N (e_ s3) fp s3 H3) [] (kG js σ) H' s'/\tn i s'.heap/\(∀b∈fp,H' b=b_)/\W i n H') ?_ m0 ⟨0,H3,I4,RP,λb hb=>(f3 b hb).1,w0⟩;rintro n s5 ⟨i,H5,I5,ow,jv,w5⟩;rcases turn i n H5 w5 with⟨stop,qn⟩|⟨go,Nn,hN,step⟩
  ·refine thn (T.done (S2 N (e_ s3) fp s3 H3) rfl rfl rfl hc i [] s5 (kG js σ) H5 (λ_ _=>False) I5 (kn jv) ow stop) λr s6 z9=>?_;let⟨hr,I6⟩:=z9;subst hr;show fin s6 H5 I6 qn
  ·refine thn (T.item (S2 N (e_ s3) fp s3 H3) rfl rfl rfl hc i [] s5 (kG js σ) H5 (λ_ _=>False) I5 (kn jv) ow go) λr s6 z9=>?_;let⟨u,hr,h6⟩:=z9;subst hr;refine thn h6 λ_ s7 z9=>?_;let⟨x,H7,I7,r7,y7,yy,Uv⟩:=z9;let UJ:=I7.pinned (kn Uv)<|T.obj _ _ yy;refine thn (hg _ _ _ _ _ s7 _ H7 x u _ UJ r7<|step x H7 y7) λ_ s8 z9=>?_;let⟨σ8,H8,I8,q8⟩:=z9;refine thn (ht _ _ _ _ _ s8 σ8 H8 _ I8 q8) λb s9 z9=>?_;let⟨H9,I9,q9⟩:=z9;let again:∀{σ':St}{H':Hp}{s':td},Inv (S2 N (e_ s3) fp s3 H3) ([]++uK fp s7.heap) σ' H' s'->Nn H'->∃m,m<n/\∃i H',Inv (S2 N (e_ s3) fp s3 H3) [] (kG js σ) H' s'/\tn i s'.heap/\(∀b∈fp,H' b=b_)/\W i m H':=λ{σ' H' s'} I' n'=>by let⟨m',hm,w'⟩:=hN H' n';refine⟨m',hm,i+1,H',qz I',T.keep _ _ _ yy λb hb o e=>(I'.pin (b,o)<|Vb _<|Vb _<|kC hb e).1,λb hb=>?_,w'⟩;let⟨o,e,d⟩:=T.obj _ _ yy b hb;show(I'.pin (b,o)<|Vb _<|Vb _<|kC hb e).2.1
   cases b with
   |false=>exact again I9 q9
   |true=>refine thn (he _ _ _ _ _ s9 σ8 H9 _ I9 q9) λu' S7 z9=>?_;let⟨v,Uu,Uy,rv,ys,aw,hz,UE⟩:=z9;refine thn (yQ (X:=S2 N (e_ s3) fp s3 H3) _ S7 σ8 Uu (.ref<|e_ s2) [v] (.ref<|e_ s2) [u'] (λ_ H'=>Nn H') Uy rfl (.cons rv .nil) ⟨_,ys,v,rfl,rfl,aw,hz,UE⟩) λ_ s11 z9=>?_;let⟨_,H11,Ud,_,TK⟩:=z9;show again Ud TK
 show codeAny_compStart_list loop<|T.self X.A 0 _ _ _ RP loop
def Jx{elt:z_}{g:TG}(hc:X.calm=true)(f9:X.env.scope=os)(jw:X.N=oN)(ok:kE os oN sc N js=true)(hi:PI X tg iter wi)(hg:∀C fp s₀ H₀,PG (Zs 0) tg g)(ht:∀C fp s₀ H₀,PTs (Zs 0) ifs tt)(he:∀C fp s₀ H₀,PE (Zs 0) elt te)(hs:∀x,q0c 0=pure x:=by intro _;rfl):Zr (.ListComp elt [⟨tg,iter,ifs,0⟩] sc pos) (DX js wi g tt te):=by intro jn s σ H Q I h;rw[eval_ListComp];refine yV (use:=b_) hc f9 jw ok hi hg ht he I h (λacc C s6 H6 I6 o q=>?_) hs;show⟨o.ns.choose,o.ns.choose_spec,λh' il=>⟨.ref acc,H6,o.go I6 il,rfl,q⟩⟩
variable{du pos':Pos}
def CH{elt:z_}{g:TG}(hN:X.N.Nodup)(df:X.N[i]?=a_ x)(j0:V_ 0=a_ .local)(hc:X.calm=true)(f9:X.env.scope=os)(jw:X.N=oN)(ok:kE os oN sc N js=true)(hi:PI X tg iter wi)(hg:∀C fp s₀ H₀,PG (Zs 0) tg g)(ht:∀C fp s₀ H₀,PTs (Zs 0) ifs tt)(he:∀C fp s₀ H₀,PE (Zs 0) elt te)(ql:YE (.ListComp elt [⟨tg,iter,ifs,0⟩] sc pos) (a_<|.Name x pos') du.line X.env=pure true:=by rfl)(hs:∀x,q0c 0=pure x:=by intro _;rfl):PS X (.Assign [.Name x pos'] (.ListComp elt [⟨tg,iter,ifs,0⟩] sc pos) du) (LK (DX js wi g tt te)<|Gd i):=by
 intro jn s σ H D I h
 rw[exec_Assign_Name_used _ _ _ _ ql]
 refine SB<|wpAny_standAt<|SB ?_
 show wpAny _ X.A (do let _ <-comprehension (.ListComp elt [⟨tg,iter,ifs,0⟩] sc pos) sc X.env _ (newList []) false (eval iter X.env) (a_<|assign (.Name x pos') X.env)) _ _ s
 refine SB<|thn (yV (use:=a_<|assign (.Name x pos') X.env) (Q0:=λ_ s'=>SP X jn D .next s') hc f9 jw ok hi hg ht he I h (λacc C s6 H6 I6 o q=>?_) hs) λ_ s' hq=>SL<|SL hq
 show wpAny _ X.A (assign (.Name x pos') X.env<|.ref acc) _ _ _
 refine wpAny_assign_Name<|yJ I6 hN df (.inl j0) (v:=.ref acc) rfl (λs7 I7 ⟨a,hs7,ha⟩=>?_)<|.inr j0
 have Se:C≠a:=by
  rcases ha with rfl|ha
  ·exact o.loc
  ·exact λe=>o.cells x a ha e.symm
 let⟨m,hn⟩:=o.ns
 have o7:Off X jn H6 C s7:=⟨⟨m,hn.sameBut hs7 Se⟩,o.none,o.loc,o.new,o.cells,o.jn⟩
 exact⟨m,hn.sameBut hs7 Se,λh' il=>⟨_,H6,o7.go I7 il,q⟩⟩
abbrev Ov:V->Z2 0->Z2 0->Hp->VK->Prop:=λx lo hi H Q=>∃z,x=.str z/\z.length<=U9/\Q (.str<|WC z lo hi) H
def part_of{v:s_}{o:Z2 0}(h:IsPart v o):∃p:C_ (Int×Tok),v=partValue p/\p.map (·.1)=o:=by
 cases h with
 |none=>exact⟨b_,rfl,rfl⟩
 |int i t=>exact⟨a_ (i,t),rfl,rfl⟩
def Mj:SlR X Ov:=by
 intro jn s σ H x v vl vu lo hi sl Q I rx hs pl pu h;let⟨z,rfl,hz,q⟩:=h;let⟨t,rfl⟩:=rx;let⟨l,rfl,rfl⟩:=part_of pl;let⟨u,rfl,rfl⟩:=part_of pu;let⟨o,ho,hc,hd⟩:=hs;refine⟨"str",_,PySem.F.slot_str_getitem.lookup,typeIs_str s z t,?_⟩;refine wpAny_getItem_str_slice (l:=l) (u:=u) (st:=b_) ⟨o,ho,hc,hd⟩ rfl ?_;let e:sliceMade z t l u b_=if((1:Int) == 1&&(Yg (l.map (·.1)) (u.map (·.1)) 1 z.length).length == z.length)=true then Made.val (.str z t) else Made.str ⟨((Yg (l.map (·.1)) (u.map (·.1)) 1 z.length).filterMap (z.cps[·]?)).toArray⟩:=rfl;let hle:=Txt.slice_le z (l.map (·.1)) (u.map (·.1));unfold WC at q hle;rw[e];by_cases kz:((1:Int) == 1&&(Yg (l.map (·.1)) (u.map (·.1)) 1 z.length).length == z.length)=true
 ·rw[if_pos kz]at q⊢;show⟨.str z,H,I,⟨t,rfl⟩,q⟩
 ·rw[if_neg kz]at q hle⊢;show⟨VO hle hz,.str _,H,ZS 0,⟨_,rfl⟩,q⟩
def uV:∀{ss:Zf 0}{us:ZM 0},aK (ss.map V.str) us->StrsAre us ss
 |[],_,r=>by cases r;show .nil
 |x::ss,_,r=>by
  cases r with
  |cons h t=>let⟨tk,rfl⟩:=h;show .cons x tk<|uV t
def yW:∀{us:ZM 0}{ss:Zf 0},StrsAre us ss->aK (ss.map V.str) us
 |_,_,.nil=>.nil
 |_,_,.cons x t h=>.cons ⟨t,rfl⟩ (yW h)
def rA:cS X (.builtin "sorted") (λxs H Q=>∃p ss,xs=[.ref p]/\SqL X.K H p (ss.map V.str)/\ss.length<64/\
  ∀l jg,H l=b_->jg.Perm ss->sortedS jg=true->Q (.ref l) (S1 l (.lst (jg.map V.str)))):=by
 intro jn s σ H xs us Q I r h;let⟨p,ss,rfl,hq,dj,q⟩:=h;let⟨u,rfl,ru⟩:=vals1 r;cases ru
 let⟨its,rv,pl,hz⟩:=I.list hq;let hlen:=rv.length;rw[U2]at hlen;refine sorted_strs pl.isList (uV rv) ⋯ λout jg a1 a2 a3=>?_;let⟨e,he⟩:=sortedAll_at s.heap its out;refine⟨.ref<|s.heap.objs.size+1,_,I.laid (t':=s.toks) (o:=.lst<|jg.map V.str) (λb ob h=>sortedAll_old h) (Yz _) ?_,rfl,q _ jg (I.hok.fresh<|Yz _) a2 a3⟩;refine⟨?_,out.toList,e,yW a1,by rw[he]⟩;rw[U2,a2.length_eq];show Xq<|YC dj nofun
variable{es:B_ z_}
def gT{k:Nat}{t:TGs}(K:UF)(hK:X.K=K)(hc:X.calm=true)(h:PGs X es t)(hn:(Xn es X.env).length=n:=by rfl)(cg:(Xn es X.env).findIdx? (·.1)=b_:=by rfl):PG X (.Tuple es k pos) (O7 K n t):=by subst hK;show LJ hc h hn cg
variable{e:z_}{f:s_->s_->Sem s_}{g:Int->Int->Int}
section
variable{a b:z_}{t t':TE}
def PE.imp(h:Zr e t)(i:∀σ H Q,t' σ H Q->t σ H Q):Zr e t':=λjn s σ H Q I q=>Zg Q I<|i σ H Q q
def PT.imp{t t':TT}(h:PT X e t)(i:∀σ H Q,t' σ H Q->t σ H Q):PT X e t':=λjn s σ H Q I q=>Zg Q I<|i σ H Q q
def OpR.imp{r r':R2}(h:Y3 f r)(i:∀x y H Q,r' x y H Q->r x y H Q):Y3 f r':=λjn s σ H x y v u Q I rx ry q=>Zg x y v u Q I rx ry<|i x y H Q q
def cS.imp{f:s_}{r r':B_ V->Hp->VK->Prop}(h:cS X f r)(i:∀xs H Q,r' xs H Q->r xs H Q):cS X f r':=λjn s σ H xs us Q I rx q=>Zg xs us Q I rx<|i xs H Q q
abbrev cV(i:Nat):TE:=λσ H Q=>match CG σ i with
 |some v=>Q v H
 |none=>False
def cv(i:Nat)(hN:X.N[i]?=a_ x:=by rfl)(hv:Vis X.env.scope x:=by first|exact Or.inl rfl|exact Or.inr (Or.inl rfl)|exact Or.inr (Or.inr rfl))(hd:(x == ("__debug__" : Str))=false:=by decide)(g8:(x == ("__classdict__" : Str))=false:=by decide):Zr (.Name x pos) (cV i):=by
 refine(Ga hN hv hd g8).imp λσ H Q h=>?_;unfold cV at h;cases e:CG σ i with
 |none=>rw[e]at h;show h.elim
 |some v=>rw[e]at h;show⟨v,uU e,h⟩
abbrev Ow(K:UF):R2:=λx y H Q=>match x,y with
 |.int i,.int j=>Q (.int<|i+j) H
 |.str i,.str j=>i.length+j.length<=U9/\Q (.str<|i++j) H
 |.ref _,.ref _=>Oo x y H Q\/Ld K x y H Q
 |_,_=>False
def Jy(K:UF)(hK:X.K=K):Y3 (Wx .Add) (Ow K):=by
 subst hK;refine(LQ.or<|Cs.or<|Mb.or Jq).imp λx y H Q h=>?_;cases x <;> cases y <;> first
  |exact .inl ⟨_,_,rfl,rfl,h⟩
  |exact .inr (.inl ⟨_,_,rfl,rfl,h.1,h.2⟩)
  |exact .inr (.inr h)
  |exact h.elim
abbrev yX(C:Int->Int->Prop)(f:Int->Int->Int):R2:=λx y H Q=>match x,y with
 |.int i,.int j=>C i j/\Q (.int<|f i j) H
 |_,_=>False
abbrev GE(f:Int->Int->Int):R2:=λx y H Q=>match x,y with
 |.int i,.int j=>Q (.int<|f i j) H
 |_,_=>False
def tX{C:Int->Int->Prop}(h:Y3 f (rI C λi j=>.int<|g i j)):Y3 f (yX C g):=h.imp λx y H Q q=>by cases x <;> cases y <;> first|exact⟨_,_,rfl,rfl,q.1,q.2⟩|exact q.elim
def GF(h:Y3 f (rI0 λi j=>.int<|g i j)):Y3 f (GE g):=h.imp λx y H Q q=>by cases x <;> cases y <;> first|exact⟨_,_,rfl,rfl,q⟩|exact q.elim
def Jz:Y3 (Wx .Sub) (GE λi j=>i-j):=GF LR
def JA:Y3 (Wx .Mult) (yX Ba λi j=>i*j):=tX LS
def JB:Y3 (Wx .FloorDiv) (yX Gg λi j=>i/j):=tX Jd
def JC:Y3 (Wx .Mod) (yX (λ_ j=>0<j) λi j=>i%j):=tX LU
def JD:Y3 (Wx .Pow) (yX EO λi j=>i ^ j.toNat):=tX LW
abbrev yY(f:Int->Int->Bool)(g:B_ Nat->B_ Nat->Bool):R2:=λx y H Q=>match x,y with
 |.int i,.int j=>Q (.bl<|f i j) H
 |.str i,.str j=>Q (.bl<|g i.cps.toList j.cps.toList) H
 |_,_=>False
def tY{p:Int->Int->Bool}{g:B_ Nat->B_ Nat->Bool}(h1:Y3 f (rI0 λi j=>.bl<|p i j))(h2:Y3 f (λx y H Q=>∃i j,x=.str i/\y=.str j/\Q (.bl<|g i.cps.toList j.cps.toList) H)):Y3 f (yY p g):=(h1.or h2).imp λx y H Q q=>by cases x <;> cases y <;> first|exact .inl ⟨_,_,rfl,rfl,q⟩|exact .inr ⟨_,_,rfl,rfl,q⟩|exact q.elim
def Ml:Y3 (VC .Lt) (yY (λi j=>decide (i<j)) λi j=>decide (i<j)):=tY Oa ER
def Mm:Y3 (VC .Gt) (yY (λi j=>decide (j<i)) λi j=>decide (j<i)):=tY Oc λjn s σ H x y v u Q I rx ry h=>by let⟨i,j,rfl,rfl,q⟩:=h;let⟨t,rfl⟩:=rx;let⟨t',rfl⟩:=ry;show PySem.P.gt_str<|oG I q rfl
def Mn:Y3 (VC .LtE) (yY (λi j=>decide (i<=j)) λi j=>!decide (j<i)):=tY Ob λjn s σ H x y v u Q I rx ry h=>by let⟨i,j,rfl,rfl,q⟩:=h;let⟨t,rfl⟩:=rx;let⟨t',rfl⟩:=ry;show PySem.P.le_str<|oG I q rfl
def Mp:Y3 (VC .GtE) (yY (λi j=>decide (j<=i)) λi j=>!decide (i<j)):=tY Od λjn s σ H x y v u Q I rx ry h=>by let⟨i,j,rfl,rfl,q⟩:=h;let⟨t,rfl⟩:=rx;let⟨t',rfl⟩:=ry;show PySem.P.ge_str<|oG I q rfl
end
variable{ta tb:TE}{vs:B_ V}
section
variable{a b:z_}{t t':TE}
def Ox{x:V}{Q:Bool->Prop}(h:match x with|.bl c=>Q c|_=>False):∃c,x=.bl c/\Q c:=by cases x <;> first|exact⟨_,rfl,h⟩|exact h.elim
abbrev QX(ta tb:TE):TE:=λσ H Q=>ta σ H λx H1=>match x with
 |.bl c=>if c=true then tb σ H1 Q else Q (.bl false) H1
 |_=>False
def JE{rest:B_ z_}(ha:Zr a ta)(hb:Zr (.BoolOp .And (b::rest) pos) tb):Zr (.BoolOp .And (a::b::rest) pos) (QX ta tb):=by
 intro jn s σ H Q I h;refine BoolOp_and<|thn (q0e 0) λv s1 z9=>?_;let⟨x,H1,I1,r1,q1⟩:=z9;let⟨c,rfl,q1⟩:=Ox q1;cases r1
 refine XH ?_;cases c with
 |true=>exact hb jn s1 σ H1 Q I1 q1
 |false=>exact⟨.bl false,H1,I1,rfl,q1⟩
def JF(hu:X.A.units+1<cLine):IxR X (λx y H Q=>∃p v,x=.ref p/\pS H p y (a_ v)/\Q v H):=by
 intro value slice jn s σ H x y v u Q I rx ry h hs;let⟨p,w,rfl,g,q⟩:=h;cases rx
 let hT:=Bi I g;unfold subscriptTail;refine SB ?_;rw[getitemInPython_of_ne hT.not_modules];refine SB<|Xj hT PySem.F.slot_dict_getitem.lookup ?_;let fin:wpAny (h_ X) X.A (subscripted slice false (.ref p) u) (λr s₃=>wpAny (h_ X) X.A (letTemporaryGo value (.ref p) r >>= λ_=>pure r) (Y6 Q) X.xe s₃) X.xe s:=by rw[hs];show wpAny_operating<|F1 hu I g ry λw' s3 I3 c5=>SB<|wpAny_letTemporaryGo<|SL ⟨w,H,I3,c5,q⟩
 first
  |exact SL (SB fin)
  |exact SB (SL<|SB fin)
  |exact SB fin
abbrev Oy(K:UF):R2:=λx y H Q=>match x with
 |.str z=>(match y with
  |.int i=>z.length<=U9/\∃c,atI z.cps.toList i=a_ c/\Q (.str ⟨#[c]⟩) H
  |_=>False)
 |.ref p=>(∃xs i v,y=.int i/\(ZT p xs\/ZE p xs)/\atI xs i=a_ v/\Q v H)\/∃v,pS H p y (a_ v)/\Q v H
 |_=>False
def IxR.imp{r r':R2}(h:IxR X r)(i:∀x y H Q,r' x y H Q->r x y H Q):IxR X r':=λa b jn s σ H x y v u Q I rx ry q hs=>h a b jn s σ H x y v u Q I rx ry (i x y H Q q) hs
def ixC(hu:X.A.units+1<cLine)(K:UF)(hK:X.K=K):IxR X (Oy K):=by
 subst hK;refine(Jr.or<|M5.or<|M6.or<|JF hu).imp λx y H Q h=>?_;cases x with
 |str z=>
  cases y with
  |int i=>let⟨h1,c,h2,h3⟩:=h;show .inr<|.inr<|.inl ⟨z,i,c,rfl,rfl,h1,h2,h3⟩
  |_=>exact h.elim
 |ref p=>
  rcases h with⟨xs,i,v,rfl,hs|hs,ha,hq⟩|⟨v,g,hq⟩
  ·show .inl ⟨p,xs,i,v,rfl,rfl,hs,ha,hq⟩
  ·show .inr (.inl ⟨p,xs,i,v,rfl,rfl,hs,ha,hq⟩)
  ·show .inr (.inr<|.inr ⟨p,v,rfl,g,hq⟩)
 |_=>exact h.elim
def Mq(hu:X.A.units+1<cLine)(K:UF)(hK:X.K=K):Y3 (VC .In) (λx y H Q=>rIn K false x y H Q\/∃a o,y=.ref a/\pS H a x o/\Q (.bl o.isSome) H):=by
 subst hK;refine EX.or λjn s σ H x y v u Q I rx ry h=>?_;let⟨a,o,rfl,g,q⟩:=h;cases ry
 show QW hu I g rx λs' I'=>⟨.bl o.isSome,H,I',rfl,q⟩
def F5(hu:X.A.units+1<cLine)(K:UF)(hK:X.K=K):Y3 (VC .NotIn) (λx y H Q=>rIn K true x y H Q\/∃a o,y=.ref a/\pS H a x o/\Q (.bl<|!o.isSome) H):=by
 subst hK;refine Ad.or λjn s σ H x y v u Q I rx ry h=>?_;let⟨a,o,rfl,g,q⟩:=h;cases ry
 show Jt hu I g rx λs' I'=>⟨.bl<|!o.isSome,H,I',rfl,q⟩
abbrev Oz(K:UF):B_ V->Hp->VK->Prop:=λxs H Q=>match xs with
 |[.str y]=>y.length<=U9/\Q (.int y.length) H
 |[.ref p]=>(∃xs,(ZT p xs\/ZE p xs)/\Q (.int xs.length) H)\/∃kvs,H p=a_ (.dK kvs)/\Q (.int kvs.length) H
 |_=>False
def F6(K:UF)(hK:X.K=K):cS X (.builtin "len") (Oz K):=by
 subst hK;intro jn s σ H xs us Q I r h
 match xs,h with
 |[.str y],h=>exact Gn jn s σ H _ us Q I r ⟨_,_,rfl,⟨h.1,rfl⟩,h.2⟩
 |[.ref p],h=>
  rcases h with⟨ys,hs,q⟩|⟨kvs,hs,q⟩
  ·show Ae jn s σ H _ us Q I r ⟨p,ys,rfl,hs,q⟩
  ·show F3 jn s σ H _ us Q I r ⟨p,kvs,rfl,hs,q⟩
abbrev OA:B_ V->Hp->VK->Prop:=λxs H Q=>match xs with
 |[.int i,.int j]=>Q (.int<|if j>i then j else i) H
 |_=>False
def F7(hc:X.calm=true):cS X (.builtin "max") OA:=(ES hc).imp λxs H Q h=>by
 match xs,h with
 |[.int i,.int j],h=>exact⟨i,j,rfl,h⟩
def CI(K:UF)(hK:X.K=K):cS X (.type "list") (λxs H Q=>∃p ys,xs=[.ref p]/\(ZT p ys\/ZE p ys)/\∀l,H l=b_->Q (.ref l) (S1 l<|.lst ys)):=by subst hK;show Af
def Bk(K:UF)(hK:X.K=K):cS X (.type "tuple") (λxs H Q=>∃p ys,xs=[.ref p]/\((ZT p ys/\∀l,H l=b_->Q (.ref l) (S1 l<|.tup ys))\/(ZE p ys/\Q (.ref p) H))):=by subst hK;show xW
abbrev OB(ta:TA):TI:=λσ H R=>ta σ H λvs H1=>match vs with
 |[.int j]=>(-(2 ^ 62)<=j/\j<2 ^ 62)/\R (Itr 0 j.toNat) H1
 |_=>False
abbrev OC(ta:TA):TI:=λσ H R=>ta σ H λvs H1=>match vs with
 |[.int i,.int j]=>(-(2 ^ 62)<=i/\i<2 ^ 62/\-(2 ^ 62)<=j/\j<2 ^ 62)/\R (Itr i (j-i).toNat) H1
 |_=>False
def JG{Q:Int->Prop}(h:match vs with|[.int i]=>Q i|_=>False):∃i,vs=[.int i]/\Q i:=by
 split at h
 · show⟨_,rfl,h⟩
 · show h.elim
def pr1{x:z_}{ta:TA}{p:Pos}(hg:Gl X "range")(hm:X.mg "range" = b_)(ha:PA X [x] ta)(hs:Vg [x] X.env=[(false,eval x X.env)]:=by rfl):PI X tg (.Call (.Name "range" p) [x] [] pos) (OB ta):=by intro jn s σ H R I h;refine Call_<|jD I hg hm boot_range<|Wi (thn (ZH 0) λus s1 z9=>?_) hs rfl;let⟨vs,H1,I1,r1,q1⟩:=z9;let⟨j,rfl,⟨h1,h2⟩,q⟩:=JG q1;let⟨u,rfl,t,rfl⟩:=vals1 r1;show call_range_1<|B9 I1 ⋯ ⋯ h1 h2 (l_ q)
def GG{Q:Int->Int->Prop}(h:match vs with|[.int i,.int j]=>Q i j|_=>False):∃i j,vs=[.int i,.int j]/\Q i j:=by
 split at h
 ·show⟨_,_,rfl,h⟩
 ·show h.elim
def pr2{x y:z_}{ta:TA}{p:Pos}(hg:Gl X "range")(hm:X.mg "range" = b_)(ha:PA X [x,y] ta)(hs:Vg [x,y] X.env=[(false,eval x X.env),(false,eval y X.env)]:=by rfl)(fj:Vg [y] X.env=[(false,eval y X.env)]:=by rfl):
  PI X tg (.Call (.Name "range" p) [x,y] [] pos) (OC ta):=by
 intro jn s σ H R I h;refine Call_ (jD I hg hm boot_range<|Wi (thn (ZH 0) λus s1 hz=>?_) (by rw[hs,fj]) (by rw[fj];rfl));let⟨vs,H1,I1,r1,q1⟩:=hz;let⟨i,j,e,⟨h1,h2,h3,h4⟩,q⟩:=GG (Q:=λi j=>(-(2 ^ 62)<=i/\i<2 ^ 62/\-(2 ^ 62)<=j/\j<2 ^ 62)/\R (Itr i (j-i).toNat) H1) q1;subst e;let⟨u,w',rfl,⟨t,rfl⟩,⟨t',rfl⟩⟩:=vals2 r1;show call_range_2<|B9 I1 h1 h2 h3 h4 q
abbrev OD(t:TE):TO:=λσ H Q=>t σ H λx H1=>match x with
 |.int i=>Q (a_ i) H1
 |_=>False
def GH{x:z_}(h:Zr x te):PO X (a_ x) (OD te):=by
 intro jn s σ H Q I hw;rw[evalPart_some];refine thn (Zg _ I hw) λu s1 z9=>?_;let⟨x,H1,I1,r1,q1⟩:=z9;cases x with
 |int i=>let⟨t,rfl⟩:=r1;show⟨a_ i,H1,I1,.int i t,q1⟩
 |_=>exact q1.elim
end
structure Def(K:UF)(mg:o_ 0)(x:Str)(st:A_)(f:t_)(fd:WN)(ps:B_ Str):Prop where
 fn:Fun K x x st f fd
 mg:mg x=c_ f
 bd:Binds K fd ps []
def OE{f:t_}{k:Nat}{t:TA}{p:Pos}(D:Def X.K X.mg x st f fd ps)(G:L_ CX0 k f fd ps sp)(hr:eI k X.A)(ha:PA X (e::es) t)(hg:Gl X x:=by rfl)(cm:(x == ("__debug__" : Str))=false:=by decide)(he:Vg (e::es) X.env=(false,U_ 0)::W_ 0:=by rfl)(bf:(YZ<|W_ 0).any (·.1)=false:=by rfl):
  Zr (.Call (.Name x p) (e::es) [] pos) (Gr sp [] E0 t):=Jm G hr hg D.mg D.fn.kp D.bd .nil yS ha cm he bf
def Mr{α:Type}{xs:B_ α}{i:Int}(h0:0<=i)(h1:i<xs.length):∃v,atI xs i=a_ v/\xs[i.toNat]?=a_ v:=by
 let h2:i.toNat<xs.length:=⋯;refine⟨xs[i.toNat],?_,by simp[h2]⟩;unfold atI ixN;rw[if_pos h0,if_pos h1];simp[h2]
def kH{α:Type}{xs:B_ α}{v:α}(h:xs[i]?=a_ v):atI xs (i:Int)=a_ v:=by let h1:=(SC.mp h).1;unfold atI ixN;rw[if_pos ⋯,if_pos ⋯];simpa using h
def CF.upd{o:HO}(h:H a=b_):CF H (S1 a o):=λb u e=>by rw[aH<|cR e h];show e
def Def.mk'{h:w_}{f:t_}{oc:s_}{kV:s_}(X:K.In h)(G:h.Ns Wb mg)(a:YQ K Wb x=a_ (c_ f))(l:K.lookup f=a_ ⟨oc,od,.func<|WM x x (eK st) (cE st) (aV st) .none kV doc pm an cdv ct,osl⟩)(c:YN K cdv x=true)(k:WU K (.ref f)=true)(b:∀(kV doc pm:s_)(an:C_ t_)(cdv ct:s_)(us:ZM 0),us.length=ps.length->bindArgs (WM x x (eK st) (cE st) (aV st) .none kV doc pm an cdv ct) ⟨us,[]⟩=pure (ps.zip us)):
  Def K mg x st f (WM x x (eK st) (cE st) (aV st) .none kV doc pm an cdv ct) ps:=
 ⟨CD l c k,X2 X G a,(CD (st:=st) l c k).binds b⟩
open PySem.SeqAt
inductive D where
 |non|bl (b:Bool)|int (i:Int)|str (x:Str)|tup (xs:B_ D)
mutual
def D.depth:D->Nat
 |.tup xs=>D.depths xs+1
 |_=>0
def D.depths:B_ D->Nat
 |[]=>0
 |x::xs=>max (D.depth x) (D.depths xs)
end
def D.depths_le:∀{xs:B_ D}{i:Nat}{d:D},xs[i]?=a_ d->d.depth<=D.depths xs
 |[],_,_,h=>by simp at h
 |x::xs,0,d,h=>by
  have:x=d:=by simpa using h
  subst this
  change x.depth<=max x.depth (D.depths xs)
  omega
 |x::xs,i+1,d,h=>by
  have:=D.depths_le (xs:=xs) (i:=i) (d:=d)<|l_ h
  change d.depth<=max x.depth (D.depths xs)
  omega
mutual
def Rep(K:UF)(H:Hp):D->V->Prop
 |.non,v=>v=.non
 |.bl b,v=>v=.bl b
 |.int i,v=>v=.int i
 |.str x,v=>v=.str x
 |.tup ds,v=>∃a vs,v=.ref a/\ZE a vs/\dJ K H ds vs
def dJ(K:UF)(H:Hp):B_ D->B_ V->Prop
 |[],[]=>True
 |d::ds,v::vs=>Rep K H d v/\dJ K H ds vs
 |[],_::_=>False
 |_::_,[]=>False
end
mutual
def eqD:D->D->Bool
 |.non,.non=>true
 |.bl a,.bl b=>a == b
 |.bl a,.int b=>(if a then 1 else 0) == b
 |.int a,.bl b=>a == (if b then 1 else 0)
 |.int a,.int b=>a == b
 |.str a,.str b=>a == b
 |.tup xs,.tup ys=>iB xs ys
 |_,_=>false
def iB:B_ D->B_ D->Bool
 |[],[]=>true
 |x::xs,y::ys=>eqD x y&&iB xs ys
 |[],_::_=>false
 |_::_,[]=>false
end
mutual
theorem jS:∀d:D,eqD d d=true
 |.non=>rfl
 |.bl b=>by simp[eqD]
 |.int i=>by simp[eqD]
 |.str x=>by simp[eqD]
 |.tup xs=>by simp only[eqD];show yZ xs
theorem yZ:∀ds:B_ D,iB ds ds=true
 |[]=>rfl
 |d::ds=>by simp only[iB,jS d,yZ ds,Bool.and_self]
end
abbrev kI(H H':Hp):Prop:=∀a xs,Rd H a (.tup xs)->Rd H' a (.tup xs)
def kI.refl(H:Hp):kI H H:=λ_ _ h=>h
variable{H1 H2:Hp}
def kI.trans(a:kI H H1)(b:kI H1 H2):kI H H2:=λc xs h=>b c xs<|a c xs h
def kI.same(s:CF H H'):kI H H':=λa xs h=>by
 rcases h with h|⟨o,h⟩
 ·show .inl (s _ _ h)
 ·show .inr ⟨o,s _ _ h⟩
abbrev pW:C_ HO->Prop
 |some (.tup _)=>False
 |some (.frz _ _)=>False
 |_=>True
def kI.upd{p:t_}{o:HO}(h:pW (H p)):kI H (S1 p o):=λa xs q=>by
 let ne:a≠p:=by
  rintro rfl;rcases q with q|⟨ob,q⟩
  ·rw[q]at h;show h
  ·rw[q]at h;show h
 rcases q with q|⟨ob,q⟩
 ·show .inl (by rw[aH ne];show q)
 ·show .inr ⟨ob,by rw[aH ne];show q⟩
def kI.sq{xs:B_ V}(t:kI H H')(h:ZE a xs):SqT K H' a xs:=by
 rcases h with h|h
 ·show .inl (t a xs h)
 ·show .inr h
mutual
theorem Rep.tp(t:kI H H'):∀{d:D}{v:V},Rep K H d v->Rep K H' d v
 |.non,_,h=>h
 |.bl _,_,h=>h
 |.int _,_,h=>h
 |.str _,_,h=>h
 |.tup ds,_,⟨a,vs,e,q,r⟩=>⟨a,vs,e,t.sq q,dJ.tp t r⟩
theorem dJ.tp(t:kI H H'):∀{ds:B_ D}{vs:B_ V},dJ K H ds vs->dJ K H' ds vs
 |[],[],_=>trivial
 |_::_,_::_,⟨h,r⟩=>⟨Rep.tp t h,dJ.tp t r⟩
 |[],_::_,h=>h.elim
 |_::_,[],h=>h.elim
end
def dJ.length:∀{ds:B_ D}{vs:B_ V},dJ K H ds vs->ds.length=vs.length
 |[],[],_=>rfl
 |_::_,_::_,⟨_,r⟩=>by simp[dJ.length r]
 |[],_::_,h=>h.elim
 |_::_,[],h=>h.elim
def dJ.get:∀{ds:B_ D}{vs:B_ V}{i:Nat}{v:V},dJ K H ds vs->vs[i]?=a_ v->∃d,ds[i]?=a_ d/\Rep K H d v
 |[],[],_,_,_,e=>by simp at e
 |d::_,w::_,0,v,⟨h,_⟩,e=>by
  have:w=v:=by simpa using e
  subst this;show⟨d,rfl,h⟩
 |_::ds,_::vs,i+1,v,⟨_,r⟩,e=>by
  let⟨d,h1,h2⟩:=dJ.get (ds:=ds) (vs:=vs) (i:=i) (v:=v) r<|l_ e;show⟨d,l_ h1,h2⟩
 |[],_::_,_,_,h,_=>h.elim
 |_::_,[],_,_,h,_=>h.elim
def dJ.at:∀{ds:B_ D}{vs:B_ V}{i:Nat}{d:D},dJ K H ds vs->ds[i]?=a_ d->∃v,vs[i]?=a_ v/\Rep K H d v
 |[],[],_,_,_,e=>by simp at e
 |d::_,w::_,0,d',⟨h,_⟩,e=>by
  have:d=d':=by simpa using e
  subst this;show⟨w,rfl,h⟩
 |_::ds,_::vs,i+1,d,⟨_,r⟩,e=>by
  let⟨v,h1,h2⟩:=dJ.at (ds:=ds) (vs:=vs) (i:=i) (d:=d) r<|l_ e;show⟨v,l_ h1,h2⟩
 |[],_::_,_,_,h,_=>h.elim
 |_::_,[],_,_,h,_=>h.elim
variable{b:Bool}{its its':ZM 0}{jf:B_ V}
section
variable{σ:St}
def fE{v:s_}(h:RcAt A s v u b)(hs:v=u->b=true)(hf:∀f t,v≠.float f t):EqAt A s v u b:=λprog w E Q hq=>by
 unfold eqBool;refine VJ ?_;refine wpAny_ite_split (λwm=>?_)<|λ_=>?_
 ·let e:=hs<|eq_of_beq wm;subst e;show SB<|XN<|SL hq
 ·cases v <;> first|exact absurd rfl (hf _ _)|exact SB (h prog w E _<|XH hq)|(cases u <;> exact SB (h prog w E _<|XH hq))
def zA{d:D}{x:V}{v:s_}(h:Rep K H d x)(r:ZF v):∀f t,v≠.float f t:=λf t e=>by
 subst e;cases d with
 |non=>cases h;cases r
 |bl b=>cases h;cases r
 |int b=>cases h;let⟨_,z⟩:=r;cases z
 |str b=>cases h;let⟨_,z⟩:=r;cases z
 |tup ds=>let⟨_,_,rfl,_⟩:=h;cases r
def nH(I:P1 s):∀(n:Nat)(d e:D)(v:V),d.depth<=n->Rep X.K H d v->Rep X.K H e v->d=e
 |n,.non,e,v,_,h,h'=>by
  cases h
  cases e <;> first|(let⟨_,_,z,_⟩:=h';show absurd z (by intro q;cases q))|rfl|exact absurd h' (by intro z;cases z)
 |n,.bl b,e,v,_,h,h'=>by
  cases h
  cases e <;> first|(let⟨_,_,z,_⟩:=h';show absurd z (by intro q;cases q))|(cases h';rfl)|exact absurd h' (by intro z;cases z)
 |n,.int i,e,v,_,h,h'=>by
  cases h
  cases e <;> first|(let⟨_,_,z,_⟩:=h';show absurd z (by intro q;cases q))|(cases h';rfl)|exact absurd h' (by intro z;cases z)
 |n,.str x,e,v,_,h,h'=>by
  cases h
  cases e <;> first|(let⟨_,_,z,_⟩:=h';show absurd z (by intro q;cases q))|(cases h';rfl)|exact absurd h' (by intro z;cases z)
 |0,.tup ds,e,v,hd,h,h'=>absurd hd (by change ¬ YX 0+1<=0;omega)
 |n+1,.tup ds,e,v,hd,h,h'=>by
  let⟨a,vs,rfl,q,r⟩:=h;cases e with
  |tup es=>
   let⟨a',jf,ea,q',r'⟩:=h';cases ea
   have:=I.tuple_inj q q';subst this;let d8:YX 0+1<=n+1:=hd;have:ds=es:=by
    apply Wo;intro i;cases hi:ds[i]? with
    |none=>have h1:=r.length;let h2:=r'.length;have:ds.length<=i:=List.getElem?_eq_none_iff.mp hi;show(List.getElem?_eq_none_iff.mpr ⋯).symm
    |some d=>let⟨v,hv,hr⟩:=r.at hi;let⟨e,he,vn⟩:=r'.get hv;rw[he,nH I n d e v (by have:=D.depths_le hi;omega) hr vn]
   rw[this]
  |_=>cases h'
def uW{xs ys:B_ D}:((Vi<|min xs.length ys.length).all (λj=>match xs[j]?,ys[j]? with|some x,a_ y=>eqD x y|_,_=>false)&&xs.length == ys.length)=iB xs ys:=by
 induction xs generalizing ys with
 |nil=>
  cases ys with
  |nil=>rfl
  |cons y ys=>simp[iB]
 |cons x xs ih=>
  cases ys with
  |nil=>simp[iB]
  |cons y ys=>
   have:=ih (ys:=ys);let e:min (x::xs).length (y::ys).length=min xs.length ys.length+1:=by simp only[VI];omega
   rw[e,Yb,Ym,List.all_map];simp only[List.getElem?_cons_zero,Yq,Wn,VI,iB];rw[<-this];let e2:(xs.length+1 == ys.length+1)=(xs.length == ys.length):=by simp
   rw[e2,Bool.and_assoc]
def OF(I:P1 s):∀(n:Nat)(d e:D)(A:v_)(x y:V)(v u:s_),d.depth<=n->A.units+n<cLine->Rep X.K H d x->Rep X.K H e y->ZF v->RelV y u->RcAt A s v u (eqD d e):=by
 intro n
 induction n with
 |zero=>
  intro d e A x y v u hd hu hx hy rx ry;cases d with
  |tup ds=>exact absurd hd (by change ¬ YX 0+1<=0;omega)
  |non=>
   cases hx;cases rx;cases e with
   |non=>cases hy;cases ry;show RcAt.none_none
   |bl b=>cases hy;cases ry;show RcAt.none_bool b
   |int b=>cases hy;let⟨t,rfl⟩:=ry;show RcAt.none_int b t
   |str b=>cases hy;let⟨t,rfl⟩:=ry;show RcAt.none_str b t
   |tup es=>let⟨a,vs,rfl,q,r⟩:=hy;cases ry;let⟨its,_,p,_⟩:=I.tuple q;show RcAt.none_tuple p ⋯
  |bl a=>
   cases hx;cases rx;cases e with
   |non=>cases hy;cases ry;show RcAt.bool_none a
   |bl b=>cases hy;cases ry;show RcAt.bool_bool a b
   |int b=>cases hy;let⟨t,rfl⟩:=ry;show RcAt.bool_int a b t
   |str b=>cases hy;let⟨t,rfl⟩:=ry;show RcAt.bool_str a b t
   |tup es=>let⟨a',vs,rfl,q,r⟩:=hy;cases ry;let⟨its,_,p,_⟩:=I.tuple q;show RcAt.bool_tuple a p ⋯
  |int a=>
   cases hx;let⟨t',rfl⟩:=rx;cases e with
   |non=>cases hy;cases ry;show RcAt.int_none a t'
   |bl b=>cases hy;cases ry;show RcAt.int_bool a t' b
   |int b=>cases hy;let⟨t,rfl⟩:=ry;show RcAt.int_int a t' b t
   |str b=>cases hy;let⟨t,rfl⟩:=ry;show RcAt.int_str a t' b t
   |tup es=>let⟨a',vs,rfl,q,r⟩:=hy;cases ry;let⟨its,_,p,_⟩:=I.tuple q;show RcAt.int_tuple a t' p ⋯
  |str a=>
   cases hx;let⟨t',rfl⟩:=rx;cases e with
   |non=>cases hy;cases ry;show RcAt.str_none a t'
   |bl b=>cases hy;cases ry;show RcAt.str_bool a t' b
   |int b=>cases hy;let⟨t,rfl⟩:=ry;show RcAt.str_int a t' b t
   |str b=>cases hy;let⟨t,rfl⟩:=ry;show RcAt.str_str a t' b t
   |tup es=>let⟨a',vs,rfl,q,r⟩:=hy;cases ry;let⟨its,_,p,_⟩:=I.tuple q;show RcAt.str_tuple a t' p ⋯
 |succ n ih=>
  intro d e A x y v u hd hu hx hy rx ry;by_cases h0:d.depth<=n
  ·show ih d e A x y v u h0 ⋯ hx hy rx ry
  ·cases d with
   |non=>exact absurd (show D.depth .non<=n from Vr n) h0
   |bl b=>exact absurd (show D.depth (.bl b)<=n from Vr n) h0
   |int b=>exact absurd (show D.depth (.int b)<=n from Vr n) h0
   |str b=>exact absurd (show D.depth (.str b)<=n from Vr n) h0
   |tup ds=>
    let ou:YX 0<=n:=by have:YX 0+1<=n+1:=hd;omega
    let⟨a,vs,rfl,q,r⟩:=hx;cases rx
    let⟨its,rv,p,_⟩:=I.tuple q;cases e with
    |non=>cases hy;cases ry;show RcAt.tuple_none p ⋯
    |bl b=>cases hy;cases ry;show RcAt.tuple_bool b p ⋯
    |int b=>cases hy;let⟨t,rfl⟩:=ry;show RcAt.tuple_int b t p ⋯
    |str b=>cases hy;let⟨t,rfl⟩:=ry;show RcAt.tuple_str b t p ⋯
    |tup es=>
     let⟨a',jf,rfl,q',r'⟩:=hy;cases ry
     let⟨its',az,p',_⟩:=I.tuple q';let l1:=r.length;let l2:=r'.length;let l3:=rv.length;let l4:=az.length;let key:=RcAt.tuples (A:=A) (e:=λj=>match ds[j]?,es[j]? with|some x,a_ y=>eqD x y|_,_=>false) p p' ⋯ (λj h1 h2=>by
      let ja:j<ds.length:=by simp at h1;omega
      let gj:j<es.length:=by simp at h2;omega
      let g1:ds[j]?=a_ ds[j]:=by simp[ja]
      let g2:es[j]?=a_ es[j]:=by simp[gj]
      let⟨xv,xw,tm⟩:=r.at g1;let⟨yv,xf,uc⟩:=r'.at g2;let⟨xu,o5,gu⟩:=rv.get xw;let⟨yu,qy,fe⟩:=az.get xf;let e1:its.toArray[j]=xu:=by have:its[j]?=a_ xu:=o5;simpa using(SC.mp this).2
      let e2:its'.toArray[j]=yu:=by have:its'[j]?=a_ yu:=qy;simpa using(SC.mp this).2
      rw[e1,e2];simp only[g1,g2];let TV:=D.depths_le g1;refine fE (ih ds[j] es[j] A.in1 xv yv xu yu ⋯ (by change A.units+1+n<cLine;omega) tm uc gu fe) (λev=>by
      subst ev;let vh:xv=yv:=RelV.inj gu fe;subst vh;rw[nH I n ds[j] es[j] xv ⋯ tm uc];show jS _) (zA tm gu))
     let sz:((Vi<|min its.toArray.size its'.toArray.size).all (λj=>match ds[j]?,es[j]? with|some x,a_ y=>eqD x y|_,_=>false)&&its.toArray.size == its'.toArray.size)=eqD (.tup ds) (.tup es):=by
      let a1:its.toArray.size=ds.length:=by simp;omega
      let a2:its'.toArray.size=es.length:=by simp;omega
      rw[a1,a2];simp only[eqD];show uW
     rw[<-sz];show key
def Mt(I:P1 s){d e:D}{x:V}{v:s_}(hd:d.depth<=n)(hu:A.units+n<cLine)(hx:Rep X.K H d x)(hy:Rep X.K H e y)(rx:ZF v)(ry:RelV y u):EqAt A s v u (eqD d e):=fE (OF I n d e A x y v u hd hu hx hy rx ry) (λev=>by subst ev;let vh:x=y:=RelV.inj rx ry;subst vh;rw[nH I n d e x hd hx hy];show jS _)<|zA hx rx
abbrev QY(K:UF):R2:=λx y H Q=>∃d e,Rep K H d x/\Rep K H e y/\d.depth<=40/\Q (.bl<|eqD d e) H
def Mu(hu:X.A.units+64<cLine)(K:UF)(hK:X.K=K):Y3 (VC .Eq) (QY K):=by subst hK;intro jn s σ H x y v u Q I rx ry h;let⟨d,e,hx,hy,hd,q⟩:=h;show OF I 40 d e X.A x y v u hd ⋯ hx hy rx ry X.prog X.w X.xe _ ⟨.bl _,H,I,rfl,q⟩
abbrev F8(K:UF)(H:Hp)(ds:B_ D)(v:V):Prop:=∃a vs,v=.ref a/\ZT a vs/\dJ K H ds vs
def zB{xs ys:B_ D}(h:xs.length=ys.length):(Vi xs.length).all (λj=>match xs[j]?,ys[j]? with|some x,a_ y=>eqD x y|_,_=>false)=iB xs ys:=by have:=uW (xs:=xs) (ys:=ys);rw[h,Nat.min_self,beq_self_eq_true,Bool.and_true]at this;rw[h];show this
def Bl{xs ys:B_ D}(h:iB xs ys=true):xs.length=ys.length:=by rw[<-uW,VA]at h;show eq_of_beq h.2
def uX{I:P1 s}{ds es:B_ D}(r:dJ X.K H ds vs)(r':dJ X.K H es jf)(rv:aK vs its)(az:aK jf its')(hd:YX 0<=40)(hu:A.units+42<cLine):
  ∀j(h1:j<its.toArray.size)(h2:j<its'.toArray.size),EqAt A.in1 s its.toArray[j] its'.toArray[j] (match ds[j]?,es[j]? with|some x,a_ y=>eqD x y|_,_=>false):=λj h1 h2=>by
 let l1:=r.length;let l2:=r'.length;let l3:=rv.length;let l4:=az.length;let ja:j<ds.length:=by simp at h1;omega
 let gj:j<es.length:=by simp at h2;omega
 let g1:ds[j]?=a_ ds[j]:=by simp[ja]
 let g2:es[j]?=a_ es[j]:=by simp[gj]
 let⟨xv,xw,tm⟩:=r.at g1;let⟨yv,xf,uc⟩:=r'.at g2;let⟨xu,o5,gu⟩:=rv.get xw;let⟨yu,qy,fe⟩:=az.get xf;let e1:its.toArray[j]=xu:=by simpa using(SC.mp o5).2
 let e2:its'.toArray[j]=yu:=by simpa using(SC.mp qy).2
 rw[e1,e2];simp only[g1,g2];let TV:=D.depths_le g1;show Mt I (n:=40) ⋯ (by change A.units+1+40<cLine;omega) tm uc gu fe
abbrev QZ(K:UF):R2:=λx y H Q=>∃ds es,F8 K H ds x/\F8 K H es y/\YX 0<=40/\Q (.bl<|iB ds es) H
def Mv(hu:X.A.units+64<cLine)(K:UF)(hK:X.K=K):Y3 (VC .Eq) (QZ K):=by
 subst hK;intro jn s σ H x y v u Q I rx ry h;let⟨ds,es,⟨a,vs,rfl,q,r⟩,⟨b,jf,rfl,q',r'⟩,hd,k⟩:=h;cases rx;cases ry;let⟨its,rv,p,_⟩:=I.list q;let⟨its',az,p',_⟩:=I.list q';let l1:=r.length;let l2:=r'.length;let l3:=rv.length;let l4:=az.length;by_cases hl:ds.length=es.length
 ·refine eq_listAt p.isList p'.isList (by simp;omega) ⋯ (uX (I:=I) r r' rv az hd ⋯) ⟨.bl _,H,I,rfl,?_⟩;let e1:its.toArray.size=ds.length:=by simp;omega
  rw[e1,zB hl];show k
 ·refine eq_list_lengthsAt p.isList p'.isList (by simp;omega) ⋯ ⟨.bl false,H,I,rfl,?_⟩;let e:iB ds es=false:=by
   cases h:iB ds es with
   |false=>rfl
   |true=>exact absurd (Bl h) hl
  rw[e]at k;show k
abbrev OG(K:UF)(neg:Bool):R2:=λx y H Q=>∃d p ds vs,y=.ref p/\(ZT p vs\/ZE p vs)/\Rep K H d x/\dJ K H ds vs/\YX 0<=40/\Q (.bl<|if neg then !ds.any (λe=>eqD e d) else ds.any (λe=>eqD e d)) H
abbrev isD(K:UF)(H:Hp)(d:D)(u:s_):Bool:=@decide (∃e x,ZF u/\Rep K H e x/\e.depth<=40/\eqD e d=true)<|WH _
def GI(I:P1 s){d e:D}{x:V}(r:ZF u)(h:Rep X.K H e x)(hd:e.depth<=40):Z9 d u=eqD e d:=by
 unfold isD;cases q:eqD e d with
 |true=>exact @decide_eq_true _ (WH _) ⟨e,x,r,h,hd,q⟩
 |false=>refine @decide_eq_false _ (WH _) ?_;rintro⟨e',x',r',h',d8,q'⟩;let ex:x'=x:=RelV.inj r' r;subst ex;rw[nH I 40 e' e x' d8 h' h]at q';rw[q]at q';cases q'
def pX(I:P1 s){d:D}:∀{ds:B_ D}{vs:B_ V}{us:ZM 0},dJ X.K H ds vs->aK vs us->YX 0<=40->us.any (Z9 d)=ds.any λe=>eqD e d
 |[],[],_,_,.nil,_=>rfl
 |e::ds,_::_,_,⟨h,r⟩,.cons rv ip,hd=>by
  let h1:e.depth<=40/\YX 0<=40:=by have:max e.depth (YX 0)<=40:=hd;omega
  rw[Yn,Yn,GI I rv h h1.1,pX I r ip h1.2]
 |[],_::_,_,h,_,_=>h.elim
 |_::_,[],_,h,_,_=>h.elim
def pY(I:P1 s){A:v_}{d:D}{x:V}{v:s_}(hx:Rep X.K H d x)(rx:ZF v)(hu:A.units+42<cLine):∀{ds:B_ D}{vs:B_ V}{us:ZM 0},dJ X.K H ds vs->aK vs us->YX 0<=40->∀u∈us,EqAt A.in1 s u v (Z9 d u)
 |[],[],_,_,.nil,_=>λu hu=>by cases hu
 |e::ds,_::_,_,⟨h,r⟩,.cons rv ip,hd=>λu hm=>by
  let h1:e.depth<=40/\YX 0<=40:=by have:max e.depth (YX 0)<=40:=hd;omega
  rcases U5.mp hm with rfl|hm
  ·rw[GI I rv h h1.1];show Mt I (n:=40) h1.1 (by change A.units+1+40<cLine;omega) h hx rv rx
  ·show pY I hx rx hu r ip h1.2 u hm
 |[],_::_,_,h,_,_=>h.elim
 |_::_,[],_,h,_,_=>h.elim
def Mw(hu:X.A.units+64<cLine)(K:UF)(hK:X.K=K):Y3 (VC .In) (OG K false):=by
 subst hK;intro jn s σ H x y v u Q I rx ry h;let⟨d,p,ds,vs,rfl,hq,hx,hr,hd,k⟩:=h;cases ry
 rcases hq with hq|hq
 ·let⟨its,r,pl,hz⟩:=I.list hq;refine SeqAt.in_listAt (Z9 d) pl.isList (λw hw=>pY I hx rx ⋯ hr r hd w (l_ hw)) ⟨.bl _,H,I,rfl,?_⟩;rw[show its.toArray.any (Z9 d)=its.any (Z9 d) by simp,pX I hr r hd];show k
 ·let⟨its,r,pl,hz⟩:=I.tuple hq;refine SeqAt.in_tupleAt (Z9 d) pl (λw hw=>pY I hx rx ⋯ hr r hd w (l_ hw)) ⟨.bl _,H,I,rfl,?_⟩;rw[show its.toArray.any (Z9 d)=its.any (Z9 d) by simp,pX I hr r hd];show k
def F9(hu:X.A.units+64<cLine)(K:UF)(hK:X.K=K):Y3 (VC .NotIn) (OG K true):=by
 subst hK;intro jn s σ H x y v u Q I rx ry h;let⟨d,p,ds,vs,rfl,hq,hx,hr,hd,k⟩:=h;cases ry
 rcases hq with hq|hq
 ·let⟨its,r,pl,hz⟩:=I.list hq;refine SeqAt.notIn_listAt (Z9 d) pl.isList (λw hw=>pY I hx rx ⋯ hr r hd w (l_ hw)) ⟨.bl _,H,I,rfl,?_⟩;rw[show its.toArray.any (Z9 d)=its.any (Z9 d) by simp,pX I hr r hd];show k
 ·let⟨its,r,pl,hz⟩:=I.tuple hq;refine SeqAt.notIn_tupleAt (Z9 d) pl (λw hw=>pY I hx rx ⋯ hr r hd w (l_ hw)) ⟨.bl _,H,I,rfl,?_⟩;rw[show its.toArray.any (Z9 d)=its.any (Z9 d) by simp,pX I hr r hd];show k
end
open PySem
abbrev keyLt:Sum Int Str->Sum Int Str->Bool
 |.inl a,.inl b=>decide (a<b)
 |.inr a,.inr b=>decide (a.cps.toList<b.cps.toList)
 |_,_=>false
abbrev bI:B_ (Sum Int Str)->B_ (Sum Int Str)->Bool
 |[],[]=>false
 |[],_::_=>true
 |_::_,[]=>false
 |x::xs,y::ys=>if x=y then bI xs ys else keyLt x y
abbrev fU:Sum Int Str->Bool
 |.inl _=>true
 |.inr _=>false
@[reducible]def shape(ks:B_ (Sum Int Str)):B_ Bool:=ks.map fU
def JH{a b:Str}(h:a.cps.toList=b.cps.toList):a=b:=by
 cases a;cases b
 congr;show Array.toList_inj.mp h
def GJ{a b:Sum Int Str}(h:keyLt a b=true):keyLt b a=false:=by
 cases a <;> cases b <;> first|rfl|skip
 ·have:_<_:=of_decide_eq_true h;show decide_eq_false ⋯
 ·show decide_eq_false (List.lt_asymm<|of_decide_eq_true h)
def zC{a b:Sum Int Str}(k:fU a=fU b)(h:keyLt a b=false)(h':keyLt b a=false):a=b:=by
 cases a <;> cases b <;> first|cases k|skip
 ·let h1:=of_decide_eq_false h;let h2:=of_decide_eq_false h';congr 1;omega
 ·let h1:=of_decide_eq_false h;let h2:=of_decide_eq_false h';congr 1;show JH<|List.le_antisymm (X3.mp h2)<|X3.mp h1
def GK:∀{a b c:Sum Int Str},fU a=fU b->fU b=fU c->keyLt b a=false->keyLt c b=false->keyLt c a=false
 |.inl a,.inl b,.inl c,_,_,h,h'=>by let h1:¬ b<a:=of_decide_eq_false h;let h2:¬ c<b:=of_decide_eq_false h';show decide_eq_false ⋯
 |.inr a,.inr b,.inr c,_,_,h,h'=>by let h1:a.cps.toList<=b.cps.toList:=X3.mp<|of_decide_eq_false h;let h2:b.cps.toList<=c.cps.toList:=X3.mp<|of_decide_eq_false h';show decide_eq_false<|X3.mpr<|List.le_trans h1 h2
 |.inl _,.inr _,_,k,_,_,_=>by cases k
 |.inr _,.inl _,_,k,_,_,_=>by cases k
 |.inl _,.inl _,.inr _,_,k,_,_=>by cases k
 |.inr _,.inr _,.inl _,_,k,_,_=>by cases k
def tZ:∀{a b:B_ (Sum Int Str)},bI a b=true->bI b a=false
 |[],[],_=>rfl
 |[],_::_,_=>rfl
 |_::_,[],h=>by cases h
 |x::xs,y::ys,h=>by
  unfold bI at h⊢;by_cases e:x=y
  ·subst e;rw[YS 0]at h⊢;show tZ h
  ·rw[Zp 0]at h;rw[if_neg λz=>e z.symm];show GJ h
def pZ:∀{a b:B_ (Sum Int Str)},shape a=shape b->bI a b=false->bI b a=false->a=b
 |[],[],_,_,_=>rfl
 |[],_::_,s,_,_=>by cases s
 |_::_,[],s,_,_=>by cases s
 |x::xs,y::ys,s,h,h'=>by
  let s1:fU x=fU y:=by simpa using congrArg List.head? s
  let s2:shape xs=shape ys:=by simpa using congrArg List.tail s
  unfold bI at h h';by_cases e:x=y
  ·subst e;rw[YS 0]at h h';rw[pZ s2 h h']
  ·rw[Zp 0]at h;rw[if_neg λz=>e z.symm]at h';show absurd (zC s1 h h') e
def qA:∀{a b c:B_ (Sum Int Str)},shape a=shape b->shape b=shape c->bI b a=false->bI c b=false->bI c a=false
 |[],[],[],_,_,_,_=>rfl
 |[],[],_::_,_,s',_,_=>by cases s'
 |[],_::_,_,s,_,_,_=>by cases s
 |_::_,[],_,s,_,_,_=>by cases s
 |_::_,_::_,[],_,s',_,_=>by cases s'
 |x::xs,y::ys,z::zs,s,s',h,h'=>by
  let s1:fU x=fU y:=by simpa using congrArg List.head? s
  let s2:shape xs=shape ys:=by simpa using congrArg List.tail s
  let s3:fU y=fU z:=by simpa using congrArg List.head? s'
  let s4:shape ys=shape zs:=by simpa using congrArg List.tail s'
  unfold bI at h h'⊢;by_cases e:y=x
  ·subst e;rw[YS 0]at h;by_cases e':z=y
   ·subst e';rw[YS 0]at h'⊢;show qA s2 s4 h h'
   ·rw[if_neg e']at h'⊢;show h'
  ·rw[Zp 0]at h;by_cases e':z=y
   ·subst e';rw[Zp 0];show h
   ·rw[if_neg e']at h';by_cases e2:z=x
    ·subst e2;exfalso;show e<|zC s3 h h'
    ·rw[if_neg e2];show GK s1 s3 h h'
open PySem PySem.W PyProof.Rows
section
variable(lt:Nat->Nat->Bool)
abbrev evT{α:Type}:KasT α->α
 |.ret a=>a
 |.ask i j k=>evT (k<|lt i j)
def jT{α β:Type}(f:α->KasT β):∀t:KasT α,K_ (t.bind f)=K_ (f<|K_ t)
 |.ret _=>rfl
 |.ask i j k=>jT f (k<|lt i j)
@[reducible]def pa'(p:Zb 0)(i:Nat):Nat:=p.getD i 0
abbrev STo(p:Zb 0)(k:Nat):Prop:=∀i j,i<=j->j<k->lt (Y8 j) (Y8 i)=false
abbrev NIc(p:Zb 0)(k:Nat):Prop:=∀i j,i<=j->j<k->lt (Y8 i) (Y8 j)=false
end
def iG{p:Zb 0}:Y8 i=(p[i]?).getD 0:=by unfold pa';simp[Array.getD_eq_getD_getElem?]
structure GL(lt:Nat->Nat->Bool)(p:Array Nat)(n f:Nat)(r:Array Nat×Nat×Nat):Prop where
 perm:r.1.Perm p
 lo:n<=r.2.1
 hi:r.2.1<=n+f
 q:r.2.2+1<=r.2.1
 ni:NIc lt r.1 r.2.1
 eq:∀i j,r.2.1-(r.2.2+1)<=i->i<r.2.1->r.2.1-(r.2.2+1)<=j->j<r.2.1->lt (pa' r.1 i) (pa' r.1 j)=false
variable{nrem:Nat}
section
variable{lt:Nat->Nat->Bool}(tr:∀i j k,lt j i=false->lt k j=false->lt k i=false)(as:∀i j,lt i j=true->lt j i=false)
include as in
def gK(i:Nat):lt i i=false:=by
 cases h:lt i i with
 |false=>rfl
 |true=>have:=as i i h;rw[h]at this;show this
include tr as
def CJ(p:Zb 0):∀f n,1<=n->STo lt p n->n<=K_ (Zy f n)/\K_ (Zy f n)<=n+f/\STo lt p (K_<|Zy f n)
 |0,n,_,h=>⟨U1 _,U1 _,h⟩
 |f+1,n,h1,h=>by
  let e:K_ (Zy (f+1) n)=K_ (if lt (p.getD n 0) (p.getD (n-1) 0)=true then KasT.ret n else kas_asc p f (n+1)):=rfl;rw[e];by_cases c:lt (p.getD n 0) (p.getD (n-1) 0)=true
  ·rw[if_pos c];show⟨U1 _,Nat.le_add_right _ _,h⟩
  ·rw[if_neg c];let c':lt (p.getD n 0) (p.getD (n-1) 0)=false:=by simpa using c
   let h2:STo lt p (n+1):=λi j cq hj=>by
    rcases WI (Nat.le_of_lt_succ hj) with hj|rfl
    ·show h i j cq hj
    ·rcases WI cq with hi|rfl
     ·show tr _ _ _ (h i (j-1) ⋯ ⋯) c'
     ·show gK as _
   let⟨a,b,c⟩:=CJ p f (n+1) ⋯ h2;show⟨⋯,⋯,c⟩
def rev_eq{p:Zb 0}{a:Nat}(hn:n<=p.size)(eq:∀i j,a<=i->i<n->a<=j->j<n->lt (Y8 i) (Y8 j)=false)(i j:Nat):
  lt (pa' (Z_ a n) i) (pa' (Z_ a n) j)=lt (Y8 i) (Y8 j):=by
 let g:∀k,pa' (Z_ a n) k=if a<=k/\k<n then pa' p (a+n-1-k) else Y8 k:=λk=>by rw[iG,iG,iG];unfold kas_rev;rw[getElem?_mirror_all hn];split <;> rfl
 let sim:∀k,∃k',pa' (Z_ a n) k=Y8 k'/\lt (Y8 k) (Y8 k')=false/\lt (Y8 k') (Y8 k)=false:=λk=>by
  rw[g];by_cases h:a<=k/\k<n
  ·rw[if_pos h];show⟨_,rfl,eq _ _ h.1 h.2 ⋯ ⋯,eq _ _ ⋯ ⋯ h.1 h.2⟩
  ·rw[if_neg h];show⟨k,rfl,gK as _,gK as _⟩
 let⟨i',ei,i1,i2⟩:=sim i;let⟨j',ej,j1,j2⟩:=sim j;rw[ei,ej];cases h1:lt (Y8 i) (Y8 j) with
 |false=>exact tr _ _ _ j1<|tr _ _ _ h1 i2
 |true=>
  cases h2:lt (Y8 i') (Y8 j') with
  |true=>rfl
  |false=>have:=tr _ _ _ j2<|tr _ _ _ h2 i1;rw[h1]at this;show this.symm
def Ah:∀f (p:Zb 0) n q,n+f<=p.size->q+1<=n->NIc lt p n->(∀i j,n-(q+1)<=i->i<n->n-(q+1)<=j->j<n->lt (Y8 i) (Y8 j)=false)->GL lt p n f (K_<|kas_desc f p n q)
 |0,p,n,q,_,hq,hN,hE=>⟨Yh _,U1 _,U1 _,hq,hN,hE⟩
 |f+1,p,n,q,hs,hq,hN,hE=>by
  let e:K_ (kas_desc (f+1) p n q)=K_ (if lt (p.getD n 0) (p.getD (n-1) 0)=true then(if q>0 then kas_desc f (Z_ (n-(q+1)) n) (n+1) 0 else kas_desc f p (n+1) 0)
    else .ask (p.getD (n-1) 0) (p.getD n 0) λd=>if d=true then .ret (p,n,q) else kas_desc f p (n+1) (q+1)):=rfl
  by_cases c:lt (p.getD n 0) (p.getD (n-1) 0)=true
  ·let down:∀p':Zb 0,p'.Perm p->(∀i j,lt (pa' p' i) (pa' p' j)=lt (Y8 i) (Y8 j))->K_ (kas_desc (f+1) p n q)=K_ (kas_desc f p' (n+1) 0)->GL lt p n (f+1) (K_<|kas_desc (f+1) p n q):=λp' hp hl SU=>by
    let qa:NIc lt p' (n+1):=λi j cq hj=>by
     rw[hl];rcases WI (Nat.le_of_lt_succ hj) with hj|rfl
     ·show hN i j cq hj
     ·rcases WI cq with hi|rfl
      ·show tr _ _ _ (as _ _ c) (hN i (j-1) ⋯ ⋯)
      ·show gK as _
    let qt:∀i j,n+1-(0+1)<=i->i<n+1->n+1-(0+1)<=j->j<n+1->lt (pa' p' i) (pa' p' j)=false:=λi j h1 h2 h3 h4=>by
     have:i=j:=⋯;subst this;show gK as _
    let ih:=Ah f p' (n+1) 0 (by rw[hp.size_eq];omega) ⋯ qa qt;rw[<-SU]at ih;let⟨a1,a2,a3,a4,a5,a6⟩:=ih;show⟨a1.trans hp,⋯,⋯,a4,a5,a6⟩
   rw[if_pos c]at e;by_cases hq0:q>0
   ·rw[if_pos hq0]at e;show down _ (Yi _ _ _ _) (rev_eq tr as ⋯ hE) e
   ·rw[if_neg hq0]at e;show down p (Yh _) (λ_ _=>rfl) e
  ·rw[if_neg c]at e;let c':lt (p.getD n 0) (p.getD (n-1) 0)=false:=by simpa using c
   let e2:K_ (kas_desc (f+1) p n q)=K_ (if lt (p.getD (n-1) 0) (p.getD n 0)=true then KasT.ret (p,n,q) else kas_desc f p (n+1) (q+1)):=e;by_cases d:lt (p.getD (n-1) 0) (p.getD n 0)=true
   ·rw[if_pos d]at e2;rw[e2];show⟨Yh _,U1 _,Nat.le_add_right _ _,hq,hN,hE⟩
   ·rw[if_neg d]at e2;let d':lt (p.getD (n-1) 0) (p.getD n 0)=false:=by simpa using d
    let qa:NIc lt p (n+1):=λi j cq hj=>by
     rcases WI (Nat.le_of_lt_succ hj) with hj|rfl
     ·show hN i j cq hj
     ·rcases WI cq with hi|rfl
      ·show tr _ _ _ d' (hN i (j-1) ⋯ ⋯)
      ·show gK as _
    let qt:∀i j,n+1-(q+1+1)<=i->i<n+1->n+1-(q+1+1)<=j->j<n+1->lt (Y8 i) (Y8 j)=false:=λi j h1 h2 h3 h4=>by
     by_cases hi:i=n
     ·by_cases hj:j=n
      ·rw[hi,hj];show gK as _
      ·rw[hi];show tr _ _ _ (hE (n-1) j ⋯ ⋯ ⋯ ⋯) c'
     ·by_cases hj:j=n
      ·rw[hj];show tr _ _ _ d'<|hE i (n-1) ⋯ ⋯ ⋯ ⋯
      ·show hE i j ⋯ ⋯ ⋯ ⋯
    let ih:=Ah f p (n+1) (q+1) ⋯ ⋯ qa qt;rw[<-e2]at ih;let⟨a1,a2,a3,a4,a5,a6⟩:=ih;show⟨a1,⋯,⋯,a4,a5,a6⟩
def Bm{p:Zb 0}(h1:1<=n)(hn:n<=nrem)(hz:nrem<=p.size)(hN:NIc lt p n):
  n<=(K_<|kas_tail3 n nrem p).1/\(K_<|kas_tail3 n nrem p).1<=nrem/\(K_<|kas_tail3 n nrem p).2.Perm p/\STo lt (K_<|kas_tail3 n nrem p).2 (K_<|kas_tail3 n nrem p).1:=by
 let e:K_ (kas_tail3 n nrem p)=(K_<|kas_asc (Z_ 0 n) (nrem-n) n,Z_ 0 n):=by unfold kas_tail3;rw[jT];rfl
 let g:∀k,k<n->pa' (Z_ 0 n) k=Y8 (n-1-k):=λk hk=>by
  rw[iG,iG];unfold kas_rev;rw[getElem?_mirror_all ⋯,if_pos ⋯];congr 2;omega
 let hS:STo lt (Z_ 0 n) n:=λi j cq hj=>by rw[g i ⋯,g j hj];show hN _ _ ⋯ ⋯
 let⟨a,b,c⟩:=CJ tr as (Z_ 0 n) (nrem-n) n h1 hS;rw[e];show⟨a,by change K_ (kas_asc (Z_ 0 n) (nrem-n) n)<=nrem;omega,Yi _ _ _ _,c⟩
def sU{p:Zb 0}(h1:1<=n)(hn:n+1<=nrem)(hz:nrem<=p.size)(hN:NIc lt p n)(hd:lt (Y8 n) (Y8<|n-1)=true):
  1<=(K_<|q0d 0).1/\(K_<|q0d 0).1<=nrem/\(K_<|q0d 0).2.Perm p/\STo lt (K_<|q0d 0).2 (K_<|q0d 0).1:=by
 let qa:NIc lt p (n+1):=λi j cq hj=>by
  rcases WI (Nat.le_of_lt_succ hj) with hj|rfl
  ·show hN i j cq hj
  ·rcases WI cq with hi|rfl
   ·show tr _ _ _ (as _ _ hd) (hN i (j-1) ⋯ ⋯)
   ·show gK as _
 let qt:∀i j,n+1-(0+1)<=i->i<n+1->n+1-(0+1)<=j->j<n+1->lt (Y8 i) (Y8 j)=false:=λi j h1 h2 h3 h4=>by
  have:i=j:=⋯;subst this;show gK as _
 let D:=Ah tr as (nrem-(n+1)) p (n+1) 0 ⋯ ⋯ qa qt;let e:K_ (q0d 0)=K_ (if(K_<|kas_desc (nrem-(n+1)) p (n+1) 0).2.2>0 then kas_tail3 (K_<|kas_desc (nrem-(n+1)) p (n+1) 0).2.1 nrem (kas_rev (K_<|kas_desc (nrem-(n+1)) p (n+1) 0).1 ((K_<|kas_desc (nrem-(n+1)) p (n+1) 0).2.1-((K_<|kas_desc (nrem-(n+1)) p (n+1) 0).2.2+1)) (K_<|kas_desc (nrem-(n+1)) p (n+1) 0).2.1) else kas_tail3 (K_<|kas_desc (nrem-(n+1)) p (n+1) 0).2.1 nrem (K_<|kas_desc (nrem-(n+1)) p (n+1) 0).1):=by unfold kas_descPart;rw[jT]
 generalize evT lt (kas_desc (nrem-(n+1)) p (n+1) 0)=r at D e;let⟨a1,a2,a3,a4,a5,a6⟩:=D;let sz:r.1.size=p.size:=a1.size_eq;rw[e];by_cases hq:r.2.2>0
 ·rw[if_pos hq];let hl:=rev_eq tr as (p:=r.1) (a:=r.2.1-(r.2.2+1)) (n:=r.2.1) ⋯ a6;let⟨b1,b2,b3,b4⟩:=Bm tr as (n:=r.2.1) (nrem:=nrem) (p:=kas_rev r.1 (r.2.1-(r.2.2+1)) r.2.1) ⋯ ⋯ (by unfold kas_rev;rw[mirror_size];omega) (λi j cq hj=>by rw[hl];show a5 i j cq hj);show⟨⋯,b2,(b3.trans<|Yi _ _ _ _).trans a1,b4⟩
 ·rw[if_neg hq];let⟨b1,b2,b3,b4⟩:=Bm tr as (n:=r.2.1) (nrem:=nrem) (p:=r.1) ⋯ ⋯ ⋯ a5;show⟨⋯,b2,b3.trans a1,b4⟩
def uY(p:Zb 0):∀f n,1<=n->K_ (Zy f n)<n+f->lt (Y8<|K_<|Zy f n) (Y8<|K_ (Zy f n)-1)=true
 |0,n,_,h=>absurd h (WT _)
 |f+1,n,h1,h=>by
  let e:K_ (Zy (f+1) n)=K_ (if lt (p.getD n 0) (p.getD (n-1) 0)=true then KasT.ret n else kas_asc p f (n+1)):=rfl;rw[e]at h⊢;by_cases c:lt (p.getD n 0) (p.getD (n-1) 0)=true
  ·rw[if_pos c];show c
  ·rw[if_neg c]at h⊢;show uY p f (n+1) ⋯ ⋯
def GM{p:Zb 0}(h1:1<=nrem)(hz:nrem<=p.size):
  1<=(K_<|kas_count nrem p).1/\(K_<|kas_count nrem p).1<=nrem/\(K_<|kas_count nrem p).2.Perm p/\STo lt (K_<|kas_count nrem p).2 (K_<|kas_count nrem p).1:=by
 let h0:STo lt p 1:=λi j cq hj=>by
  have:i=j:=⋯;subst this;show gK as _
 let⟨a,b,c⟩:=CJ tr as p (nrem-1) 1 (U1 _) h0;let stop:=uY tr as p (nrem-1) 1<|U1 _;let e:K_ (kas_count nrem p)=K_ (if(K_ (Zy (nrem-1) 1) == nrem)=true then .ret (K_<|Zy (nrem-1) 1,p) else if K_ (Zy (nrem-1) 1)>1 then .ask (p.getD 0 0) (p.getD (K_ (Zy (nrem-1) 1)-1) 0) λc=>if c=true then .ret (K_<|Zy (nrem-1) 1,p) else kas_descPart (K_<|Zy (nrem-1) 1) nrem (Z_ 0<|K_<|Zy (nrem-1) 1) else kas_descPart (K_<|Zy (nrem-1) 1) nrem p):=by unfold kas_count;rw[jT]
 generalize evT lt (Zy (nrem-1) 1)=n at a b c e stop;rw[e];by_cases hn:(n == nrem)=true
 ·rw[if_pos hn];show⟨a,by change n<=nrem;omega,Yh _,c⟩
 ·rw[if_neg hn];let ue:n≠nrem:=by simpa using hn
  let st:=stop ⋯;by_cases h2:n>1
  ·rw[if_pos h2];let e2:∀k:Bool->KasT (Nat×Zb 0),K_ (.ask (p.getD 0 0) (p.getD (n-1) 0) k)=K_ (k<|lt (p.getD 0 0)<|p.getD (n-1) 0):=λ_=>rfl;rw[e2];by_cases h3:lt (p.getD 0 0) (p.getD (n-1) 0)=true
   ·rw[if_pos h3];show⟨a,by change n<=nrem;omega,Yh _,c⟩
   ·rw[if_neg h3];let S4:lt (Y8 0) (Y8<|n-1)=false:=by simpa using h3
    let eq:∀i j,0<=i->i<n->0<=j->j<n->lt (Y8 i) (Y8 j)=false:=λi j _ hi _ hj=>by show tr _ _ _ (c j (n-1) ⋯ ⋯)<|tr _ _ _ S4<|c 0 i ⋯ hi
    let hl:=rev_eq tr as (p:=p) (a:=0) (n:=n) ⋯ eq;let g:pa' (Z_ 0 n) n=Y8 n:=by rw[iG,iG];unfold kas_rev;rw[getElem?_mirror_all ⋯,if_neg ⋯]
    let⟨b1,b2,b3,b4⟩:=sU tr as (n:=n) (nrem:=nrem) (p:=Z_ 0 n) a ⋯ (by unfold kas_rev;rw[mirror_size];omega) (λi j cq hj=>by rw[hl];show eq i j ⋯ ⋯ ⋯ hj) (by rw[hl];show st);show⟨b1,b2,b3.trans<|Yi _ _ _ _,b4⟩
  ·rw[if_neg h2];let Ua:n=1:=⋯;subst Ua;show sU tr as (n:=1) (nrem:=nrem) (p:=p) (U1 _) ⋯ hz (λi j cq hj=>by
    have:i=j:=⋯;subst this;show gK as _) st
def uZ(p:Zb 0)(k:Nat)(hS:STo lt p k):∀f l r,r-l<=f->l<=r->r<=k->(∀i,i<l->lt (Y8 k) (Y8 i)=false)->(∀i,r<=i->i<k->lt (Y8 k) (Y8 i)=true)->
  l<=K_ (ZK f l r)/\K_ (ZK f l r)<=k/\(∀i,i<K_ (ZK f l r)->lt (Y8 k) (Y8 i)=false)/\(∀i,K_ (ZK f l r)<=i->i<k->lt (Y8 k) (Y8 i)=true)
 |0,l,r,hf,hl,hr,h1,h2=>by
  have:l=r:=⋯;subst this;show⟨U1 _,hr,h1,h2⟩
 |f+1,l,r,hf,hl,hr,h1,h2=>by
  let e:K_ (ZK (f+1) l r)=K_ (if l >= r then .ret l else .ask (p.getD k 0) (p.getD ((l+r)/2) 0) λc=>if c=true then kas_place p k f l ((l+r)/2) else ZK f ((l+r)/2+1) r):=rfl;rw[e];by_cases j6:l >= r
  ·rw[if_pos j6];have:l=r:=⋯;subst this;show⟨U1 _,hr,h1,h2⟩
  ·rw[if_neg j6];let e2:∀q:Bool->KasT Nat,K_ (.ask (p.getD k 0) (p.getD ((l+r)/2) 0) q)=K_ (q<|lt (p.getD k 0)<|p.getD ((l+r)/2) 0):=λ_=>rfl;rw[e2];by_cases c:lt (p.getD k 0) (p.getD ((l+r)/2) 0)=true
   ·rw[if_pos c];refine uZ p k hS f l ((l+r)/2) ⋯ ⋯ ⋯ h1 λi hi hk=>?_;cases q:lt (Y8 k) (Y8 i) with
    |true=>rfl
    |false=>
     have:=tr _ _ _ (hS ((l+r)/2) i hi hk) q;rw[show lt (Y8 k) (Y8<|(l+r)/2)=true from c]at this
     show this.symm
   ·rw[if_neg c];let c':lt (Y8 k) (Y8<|(l+r)/2)=false:=by simpa using c
    let⟨b1,b2,b3,b4⟩:=uZ p k hS f ((l+r)/2+1) r ⋯ ⋯ hr (λi hi=>by
     cases q:lt (Y8 k) (Y8 i) with
     |false=>rfl
     |true=>
      exfalso;let s1:=hS i ((l+r)/2) ⋯ ⋯;let s2:=as _ _ q;have:lt (Y8 k) (Y8 i)=false:=by
       -- p[mid]<=p[k] (c'),p[i]<=p[mid]
       show tr _ _ _ s1 c'
      rw[q]at this;cases this) h2
    show⟨⋯,b2,b3,b4⟩
def GN:∀f (p:Zb 0) k,1<=k->k+f<=p.size->STo lt p k->(K_<|kas_bin f p k).Perm p/\STo lt (K_<|kas_bin f p k) (k+f)
 |0,p,k,_,_,h=>⟨Yh _,h⟩
 |f+1,p,k,h1,hz,h=>by
  let e:K_ (kas_bin (f+1) p k)=K_ (kas_bin f (bubble p k<|k-K_ (ZK k 0 k))<|k+1):=by
   change K_ ((ZK k 0 k).bind λl=>kas_bin f (bubble p k<|k-l)<|k+1)=_
   rw[jT]
  let⟨b1,b2,b3,b4⟩:=uZ tr as p k h k 0 k ⋯ (Vr _) (U1 _) (λi hi=>absurd hi<|Nat.not_lt_zero _) (λi hi hk=>absurd hk ⋯);generalize evT lt (ZK k 0 k)=l at e b1 b2 b3 b4;let g:∀i,pa' (bubble p k<|k-l) i=if i=l then pa' p k else if l<i/\i<=k then pa' p (i-1) else Y8 i:=λi=>by
   rw[iG,iG,iG,iG,getElem?_bubble ⋯ _ ⋯];let el:k-(k-l)=l:=⋯;rw[el];split
   ·rfl
   ·split <;> rfl
  let hS:STo lt (bubble p k<|k-l) (k+1):=λi j cq hj=>by
   rw[g i,g j];by_cases hj1:j=l
   ·by_cases ly:i=l
    ·rw[if_pos hj1,if_pos ly];show gK as _
    ·rw[if_pos hj1,if_neg ly,if_neg ⋯];show b3 i ⋯
   ·rw[if_neg hj1];by_cases ly:i=l
    ·rw[if_pos ly,if_pos ⋯];show as _ _<|b4 (j-1) ⋯ ⋯
    ·rw[if_neg ly];by_cases hj2:l<j/\j<=k
     ·rw[if_pos hj2];by_cases uy:l<i/\i<=k
      ·rw[if_pos uy];show h _ _ ⋯ ⋯
      ·rw[if_neg uy];show h _ _ ⋯ ⋯
     ·rw[if_neg hj2,if_neg ⋯];show h _ _ cq ⋯
  let ih:=GN f (bubble p k<|k-l) (k+1) ⋯ (by rw[bubble_size];omega) hS;rw[e];show⟨ih.1.trans<|bubble_perm _ _ _,by rw[show k+(f+1)=k+1+f by omega];show ih.2⟩
def JI(h1:1<=n):(K_<|kas_sort n).toList.Perm (Vi n)/\(K_<|kas_sort n).toList.Pairwise (λi j=>lt j i=false):=by
 let e:K_ (kas_sort n)=K_ (if(K_<|kas_count n<|Xu<|Vi n).1<n then kas_bin (n-max (K_<|kas_count n<|Xu<|Vi n).1 1) (K_<|kas_count n<|Xu<|Vi n).2 (max (K_<|kas_count n<|Xu<|Vi n).1 1) else .ret (K_<|kas_count n<|Xu<|Vi n).2):=by unfold kas_sort;rw[jT]
 let⟨a1,a2,a3,a4⟩:=GM tr as (nrem:=n) (p:=Xu<|Vi n) h1 (by simp);generalize evT lt (kas_count n<|Xu<|Vi n)=r at e a1 a2 a3 a4;let fin:∀p:Zb 0,p.Perm (Xu<|Vi n)->STo lt p n->p.toList.Perm (Vi n)/\p.toList.Pairwise (λi j=>lt j i=false):=λp hp hs=>by
  let hsz:p.size=n:=by rw[hp.size_eq];simp
  refine⟨by simpa using Array.perm_iff_toList_perm.mp hp,?_⟩
  rw[V8];intro i j hi hj cq;let ak:i<p.size:=by simpa using hi
  let jk:j<p.size:=by simpa using hj
  have:=hs i j (Xq cq) ⋯;simpa[pa',YL,ak,jk] using this
 rw[e];by_cases ag:r.1<n
 ·rw[if_pos ag];let hm:max r.1 1=r.1:=⋯;rw[hm];let⟨b1,b2⟩:=GN tr as (n-r.1) r.2 r.1 a1 (by rw[a3.size_eq];simp;omega) a4;refine fin _ (b1.trans a3) ?_;rw[show r.1+(n-r.1)=n by omega]at b2;show b2
 ·rw[if_neg ag];have:r.1=n:=⋯;show fin _ a3<|this▸a4
end
open PySem.SeqAt PySem.W
abbrev InP{α:Type}(n:Nat)(P:α->Prop):KasT α->Prop
 |.ret a=>P a
 |.ask i j k=>i<n/\j<n/\∀b,InP n P<|k b
def InP.bind{α β:Type}{P:α->Prop}{Q:β->Prop}{f:α->KasT β}:∀{t:KasT α},InP n P t->(∀a,P a->InP n Q (f a))->InP n Q (t.bind f)
 |.ret a,h,hf=>hf a h
 |.ask i j k,⟨h1,h2,h3⟩,hf=>⟨h1,h2,λb=>InP.bind (h3 b) hf⟩
def InP.mono{α:Type}{P Q:α->Prop}(hq:∀a,P a->Q a):∀{t:KasT α},InP n P t->InP n Q t
 |.ret a,h=>hq a h
 |.ask i j k,⟨h1,h2,h3⟩=>⟨h1,h2,λb=>InP.mono hq (h3 b)⟩
abbrev AllLt(n:Nat)(p:Zb 0):Prop:=∀k,p.getD k 0<n
def AllLt.of{p q:Zb 0}(h:AllLt n p)(g:∀k:Nat,q[k]?=b_\/∃k':Nat,q[k]?=p[k']?)(hn:0<n):AllLt n q:=λk=>by
 let e:∀(r:Zb 0) k,r.getD k 0=(r[k]?).getD 0:=λr k=>by simp[Array.getD_eq_getD_getElem?]
 rw[e];rcases g k with h1|⟨k',h1⟩
 ·rw[h1];show hn
 ·rw[h1,<-e];show h k'
def AllLt.perm{p q:Zb 0}(h:AllLt n p)(hp:q.Perm p)(hn:0<n):AllLt n q:=by
 refine AllLt.of h (λk=>?_) hn;cases e:q[k]? with
 |none=>exact .inl rfl
 |some v=>
  right;let hm:v∈q.toList:=by
   have:q.toList[k]?=a_ v:=by simpa using e
   show VE this
  let Ug:v∈p.toList:=(Array.perm_iff_toList_perm.mp hp).mem_iff.mp hm;let⟨k',hk⟩:=List.mem_iff_getElem?.mp Ug;show⟨k',by rw[<-hk];simp⟩
section
variable(hn:0<n)
include hn
def Ai{p:Zb 0}(h:AllLt n p):∀f m,InP n (λ_=>True) (Zy f m)
 |0,m=>trivial
 |f+1,m=>⟨h _,h _,λb=>by
  cases b with
  |true=>exact trivial
  |false=>exact Ai h f (m+1)⟩
def qB:∀f (p:Zb 0) m q,AllLt n p->InP n (λr=>AllLt n r.1) (kas_desc f p m q)
 |0,p,m,q,h=>h
 |f+1,p,m,q,h=>⟨h _,h _,λb=>by
  cases b with
  |true=>
   change InP n _ (if q>0 then kas_desc f (Z_ (m-(q+1)) m) (m+1) 0 else kas_desc f p (m+1) 0)
   by_cases hq:q>0
   ·rw[if_pos hq];show qB f _ _ _<|h.perm (Yi _ _ _ _) hn
   ·rw[if_neg hq];show qB f _ _ _ h
  | false=>exact ⟨h _,h _,fun d=>by
    cases d with
    |true=>exact h
    |false=>exact qB f _ _ _ h⟩⟩
def zD{p:Zb 0}(h:AllLt n p)(m r:Nat):InP n (λx=>AllLt n x.2) (kas_tail3 m r p):=by unfold kas_tail3;show InP.bind (Ai hn (h.perm (Yi _ _ _ _) hn) _ _) λa _=>h.perm (Yi _ _ _ _) hn
def qC{p:Zb 0}(h:AllLt n p)(m r:Nat):InP n (λx=>AllLt n x.2) (kas_descPart m r p):=by
 unfold kas_descPart;refine InP.bind (qB hn _ _ _ _ h) λa ha=>?_;by_cases hq:a.2.2>0
 ·rw[if_pos hq];show zD hn (ha.perm (Yi _ _ _ _) hn) _ _
 ·rw[if_neg hq];show zD hn ha _ _
def Fb{p:Zb 0}(h:AllLt n p)(r:Nat):InP n (λx=>AllLt n x.2) (kas_count r p):=by
 unfold kas_count;refine InP.bind (Ai hn h _ _) λa _=>?_;by_cases h1:(a == r)=true
 ·rw[if_pos h1];show h
 ·rw[if_neg h1];by_cases h2:a>1
  ·rw[if_pos h2];show⟨h _,h _,λb=>by
    cases b with
    |true=>exact h
    |false=>exact qC hn (h.perm (Yi _ _ _ _) hn) _ _⟩
  ·rw[if_neg h2];show qC hn h _ _
def rB{p:Zb 0}(h:AllLt n p)(k:Nat):∀f l r,InP n (λ_=>True) (ZK f l r)
 |0,l,r=>trivial
 |f+1,l,r=>by
  change InP n _ (if l >= r then .ret l else .ask (p.getD k 0) (p.getD ((l+r)/2) 0) λc=>if c=true then kas_place p k f l ((l+r)/2) else ZK f ((l+r)/2+1) r)
  by_cases hl:l >= r
  ·rw[if_pos hl];show trivial
  ·rw[if_neg hl];show⟨h _,h _,λb=>by
    cases b with
    |true=>exact rB h k f _ _
    |false=>exact rB h k f _ _⟩
def DY:∀f (p:Zb 0) k,AllLt n p->InP n (λ_=>True) (kas_bin f p k)
 |0,p,k,_=>trivial
 |f+1,p,k,h=>InP.bind (rB hn h k _ _ _) λl _=>DY f _ _ (h.perm (bubble_perm _ _ _) hn)
def vA:InP n (λ_=>True) (kas_sort n):=by
 let h0:AllLt n (Xu<|Vi n):=λk=>by
  by_cases hk:k<n
  ·simp[YL,hk]
  ·simp[YL,hk,hn]
 unfold kas_sort;refine InP.bind (Fb hn h0 n) λr hr=>?_;by_cases h:r.1<n
 ·rw[if_pos h];show DY hn _ _ _ hr
 ·rw[if_neg h];show trivial
end
def vB{α:Type}{n:Nat}{cmp:Nat->Nat->(j_ Bool)->td->Prop}{lt:Nat->Nat->Bool}{s:td}(hc:∀i j C,i<n->j<n->C (lt i j) s->cmp i j C s){Q:α->td->Prop}{P:α->Prop}:
  ∀{t:KasT α},InP n P t->Q (K_ t) s->t.kasWp cmp Q s
 |.ret _,_,h=>h
 |.ask i j k,⟨h1,h2,h3⟩,h=>hc i j _ h1 h2 (vB hc (h3 _) h)
abbrev ltX(n:Nat)(lt:Nat->Nat->Bool)(i j:Nat):Bool:=if i<n then(if j<n then lt i j else true) else false
def Mx{lt:Nat->Nat->Bool}(tr:∀i j k,i<n->j<n->k<n->lt j i=false->lt k j=false->lt k i=false)(i j k:Nat)(h1:ltX n lt j i=false)(h2:ltX n lt k j=false):ltX n lt k i=false:=by
 unfold ltX at*;by_cases hi:i<n <;> by_cases hj:j<n <;> by_cases hk:k<n <;> simp only[hi,hj,hk,if_true,if_false]at h1 h2⊢ <;> first|exact tr i j k hi hj hk h1 h2|exact absurd h2 nofun|exact absurd h1 nofun|rfl
def My{lt:Nat->Nat->Bool}(as:∀i j,i<n->j<n->lt i j=true->lt j i=false)(i j:Nat)(h:ltX n lt i j=true):ltX n lt j i=false:=by
 unfold ltX at*;by_cases hi:i<n <;> by_cases hj:j<n <;> simp only[hi,hj,if_true,if_false]at h⊢ <;> first|exact as i j hi hj h|exact absurd h nofun|rfl
def zE{α:Type}{n:Nat}{lt lt':Nat->Nat->Bool}(h:∀i j,i<n->j<n->lt i j=lt' i j){P:α->Prop}:∀{t:KasT α},InP n P t->K_ t=evT lt' t
 |.ret _,_=>rfl
 |.ask i j k,⟨h1,h2,h3⟩=>by
  change K_ (k<|lt i j)=evT lt' (k<|lt' i j)
  rw[h i j h1 h2];show zE h<|h3 _
def Bn{lt:Nat->Nat->Bool}(tr:∀i j k,i<n->j<n->k<n->lt j i=false->lt k j=false->lt k i=false)(as:∀i j,i<n->j<n->lt i j=true->lt j i=false)(h1:1<=n):
  (K_<|kas_sort n).toList.Perm (Vi n)/\(K_<|kas_sort n).toList.Pairwise (λi j=>lt j i=false):=by
 let e:K_ (kas_sort n)=evT (ltX n lt) (kas_sort n):=zE (λi j hi hj=>by unfold ltX;rw[if_pos hi,if_pos hj])<|vA ⋯;let⟨a,b⟩:=JI (lt:=ltX n lt) (Mx tr) (My as) h1;rw[e];refine⟨a,b.imp_of_mem λ{i j} hi hj h=>?_⟩;let ak:i<n:=by simpa using a.mem_iff.mp hi
 let jk:j<n:=by simpa using a.mem_iff.mp hj
 unfold ltX at h;rw[if_pos jk,if_pos ak]at h;show h
variable{κ:SortKind}
def tO{vs:ZM 0}{P:PySem.Fin->td->Prop}(lt:Nat->Nat->Bool)(tr:∀i j k,i<vs.length->j<vs.length->k<vs.length->lt j i=false->lt k j=false->lt k i=false)(as:∀i j,i<vs.length->j<vs.length->lt i j=true->lt j i=false)(ho:Y_ 0=a_ (seqObj "list" vs.toArray n))(dj:vs.length<64)(hk:∀s':td,(∀b o,b≠a->N_ 0=a_ o->s'.heap.get? b=a_ o)->∀Q:j_ SortKind,Q κ s'->r_ (keyKind' vs.toArray) Q E s')(ag:∀s':td,(∀b o,b≠a->N_ 0=a_ o->s'.heap.get? b=a_ o)->∀i j,i<vs.length->j<vs.length->∀Q:j_ Bool,Q (lt i j) s'->r_ (keyLt' κ (Zk 0)<|vs.getD j Vj) Q (λ_ _=>False) s')(h:∀p:B_ Nat,p.Perm (Vi vs.length)->p.Pairwise (λi j=>lt j i=false)->P (.done<|.ret .none) {s with heap:=sortedHeap s.heap a vs (p.map λi=>Zk 0).toArray}):
  r_ (Builtin.«list.sort» ⟨[.ref a],[]⟩) P E s:=by
 rw[list_sort_plain];let ha:a<(e_ s):=U8 ho;refine SB<|listItems_at ho rfl ?_;refine SB (Xv ho rfl ?_ (by rw[U6,VN];omega)<|Vr _);obtain⟨e1,dv⟩:∃e1,(X_<|Vw λ_=>#[]).get? a=a_ (seqObj "list" #[] e1):=⟨_,Yj ho<|λ_=>#[]⟩;refine SB<|seqEpoch_at dv rfl ?_;refine SB (wpAny_newTuple ?_ (by change vs.length<=_;rw[VN];omega));refine SB<|wpAny_newList ?_<|Vr _;refine VJ ?_;let km:(((X_<|Vw λ_=>#[]).push<|seqObj "tuple" vs.toArray 0).push<|seqObj "list" #[] 0).get? a=a_ (seqObj "list" #[] e1):=by rw[XO _ _ _ (by rw[size_push',Yw];show Vc<|XQ ha),XO _ _ _ (by rw[Yw];show Vc ha)];show dv
 let kept:∀b o,b≠a->N_ 0=a_ o->(((X_<|Vw λ_=>#[]).push<|seqObj "tuple" vs.toArray 0).push<|seqObj "list" #[] 0).get? b=a_ o:=λb o hb e=>Zn<|Zn<|(Wc s.heap (Vw λ_=>#[])<|Wu hb).trans e
 change r_ _ P E {s with heap:=((X_<|Vw λ_=>#[]).push<|seqObj "tuple" vs.toArray 0).push (seqObj "list" #[] 0)}
 dsimp only;let hsz:vs.toArray.size=vs.length:=by simp
 by_cases h2:vs.toArray.size<2
 ·rw[if_pos h2,if_pos h2];refine SB<|SL ?_;rw[StateT.run_pure];refine SB<|SL ?_;dsimp only;refine SB<|seqEpoch_at km rfl ?_;refine SB (Xv km rfl ?_ (Vr _) (hsz2:=by rw[Array.size_map];change(pairsOf vs).size<=_;rw[pairsOf_size,VN];omega));simp only[bne_self_eq_false,VL,if_false];let e:(vs.toArray.zip vs.toArray).map (·.2)=((Vi vs.length).map λi=>Zk 0).toArray:=by
   apply Array.toList_inj.mp;apply Wo;intro i;by_cases hi:i<vs.length
   ·simp[hi]
   ·simp[hi]
  let key:=h (Vi vs.length) (XB _) (by rw[V8];intro i j hi hj cq;simp only[XR]at hi hj;omega);rw[<-e]at key;show SL key
 ·rw[if_neg h2,if_neg h2];let gj:2<=vs.length:=⋯;refine SB (hk _ kept _ ?_);refine SB (Wz (kat_run (ks:=vs) (vs:=vs) (E:=E) (Q:=λbw s'=>s'={s with heap:=((X_ (Vw λ_=>#[])).push (seqObj "tuple" vs.toArray 0)).push (seqObj "list" #[] 0)}/\arrOf bw=(K_ (kas_sort vs.length)).map (kas_item (vs.toArray.zip vs.toArray))/\failedOf bw=b_)
   (G:=λp s'=>p=K_ (kas_sort vs.length)/\s'={s with heap:=((X_<|Vw λ_=>#[]).push<|seqObj "tuple" vs.toArray 0).push (seqObj "list" #[] 0)}) rfl gj dj (λp bw s' _ a2 a3 a4=>⟨a4.2,by rw[a2,a4.1],a3⟩)
   (vB (n:=vs.length) (lt:=lt) (λi j C hi hj hC=>ag _ kept i j hi hj C hC) (vA ⋯) ⟨rfl,rfl⟩)) ?_ λ_ _ e=>e)
  rintro⟨⟨⟩,bw⟩ s' ⟨rfl,har,hf⟩;dsimp only;let j3:=kat_snds (ks:=vs) (vs:=vs) rfl har;let⟨c1,c2⟩:=Bn tr as ⋯;refine SB (seqEpoch_at km rfl ?_);refine SB (Xv km rfl ?_ (Vr _) (hsz2:=by
   have:(Array.map (λx=>x.snd)<|arrOf bw).size<=U9:=by rw[j3,U6,U2,c1.length_eq,XR,VN];omega
   first|exact this|exact XS this))
  rw[hf];simp only[bne_self_eq_false,VL,if_false];let key:=h _ c1 c2;rw[<-j3]at key;show SL key
abbrev kD:Key->D
 |.inl i=>.int i
 |.inr x=>.str x
abbrev tD(ks:Zq 0):D:=.tup<|ks.map kD
def JJ{k:Key}(h:Rep K H (kD k) v):v=kV k:=by cases k <;> exact h
def zF{K:UF}{H:Hp}:∀{ks:Zq 0}{vs:B_ V},dJ K H (ks.map kD) vs->vs=ks.map kV
 |[],[],_=>rfl
 |k::ks,v::vs,⟨h,r⟩=>by rw[JJ h,zF (ks:=ks) r];rfl
 |[],_::_,h=>h.elim
 |_::_,[],h=>h.elim
@[reducible]def nI(h:w_):ZM 0->B_ (Zq 0)->Prop:=Paired λv ks=>∃a us,v=.ref a/\IsTup h a us.toArray/\aK (ks.map kV) us
def nI.get{h:w_}:∀{vs:ZM 0}{af:B_ (Zq 0)}{i:Nat},nI h vs af->i<vs.length->∃a us,Zk 0=.ref a/\IsTup h a us.toArray/\aK ((af.getD i []).map kV) us
 |_,_,i,.nil,hi=>by simp at hi
 |_,_,0,.cons ⟨a,us,e,p,q⟩ t,hi=>⟨a,us,l_ e,p,l_ q⟩
 |_,_,i+1,.cons _ t,hi=>by
  let⟨a,us,e,p,q⟩:=nI.get (i:=i) t<|l_ hi;show⟨a,us,l_ e,p,l_ q⟩
def vD{X:Cx}{jn:g_ 0}{σ:St}{H:Hp}{s:td}(I:P1 s):∀{af:B_ (Zq 0)}{vs:B_ V}{us:ZM 0},dJ X.K H (af.map tD) vs->aK vs us->nI s.heap us af
 |[],[],_,_,.nil=>.nil
 |ks::af,v::vs,_,⟨⟨a,ws,e,q,r⟩,rs⟩,.cons rv ip=>by
  subst e;cases rv
  let⟨its,r2,p,_⟩:=I.tuple q;rw[zF r]at r2;show .cons ⟨a,its,rfl,p,r2⟩<|vD I rs ip
 |[],_::_,_,h,_=>h.elim
 |_::_,[],_,h,_=>h.elim
variable{ls:Zq 0}{us ws:ZM 0}{af:B_ (Zq 0)}{sh:B_ Bool}
section
def lZ{b:Bool}{Q:j_ Bool}:∀(ks ls:Zq 0)(us ws:ZM 0)(i:Nat),aK (ks.map kV) us->aK (ls.map kV) ws->shape ks=shape ls->Q (bI ks ls) s->KatLex prog w A b false Q (us.zip ws) i s
 |[],[],_,_,i,.nil,.nil,_,h=>h
 |[],_::_,_,_,_,_,_,e,_=>by cases e
 |_::_,[],_,_,_,_,_,e,_=>by cases e
 |x::ks,y::ls,_,_,i,.cons (b:=u) r1 t1,.cons (b:=v) r2 t2,e,h=>by
  let s1:fU x=fU y:=by simpa using congrArg List.head? e
  let s2:shape ks=shape ls:=by simpa using congrArg List.tail e
  rw[List.zip_cons_cons];unfold bI at h;cases x with
  |inl a=>
   cases y with
   |inr c=>cases s1
   |inl c=>
    let⟨t,rfl⟩:=r1;let⟨t',rfl⟩:=r2;refine kat_cons<|EqAt.int_int a t c t' prog w _ _ ?_;by_cases ac:a=c
    ·subst ac;rw[YS 0]at h;rw[beq_self_eq_true];show kat_yes<|lZ ks ls _ _ (i+1) t1 t2 s2 h
    ·rw[if_neg<|λz=>ac<|Sum.inl.inj z]at h;rw[beq_eq_false_iff_ne.mpr ac];refine kat_no ?_;cases hb:(b&&i == 0) with
     |true=>exact oneLt_int h
     |false=>exact kat_one _ _ (lt_int<|show PySem.W.BoolBack Q (.bool<|decide (a<c)) s from h)
  |inr a=>
   cases y with
   |inl c=>cases s1
   |inr c=>
    let⟨t,rfl⟩:=r1;let⟨t',rfl⟩:=r2;refine kat_cons<|EqAt.str_str a t c t' prog w _ _ ?_;by_cases ac:a=c
    ·subst ac;rw[YS 0]at h;rw[beq_self_eq_true];show kat_yes<|lZ ks ls _ _ (i+1) t1 t2 s2 h
    ·rw[if_neg<|λz=>ac<|Sum.inr.inj z]at h;rw[beq_eq_false_iff_ne.mpr ac];refine kat_no ?_;cases hb:(b&&i == 0) with
     |true=>exact oneLt_str h
     |false=>exact kat_one _ _ (lt_str<|show PySem.W.BoolBack Q (.bool<|decide (a.cps.toList<c.cps.toList)) s from h)
def CK{x y:t_}{ks:Zq 0}{Q:j_ Bool}(hx:q0f x us.toArray)(hy:q0f y ws.toArray)(r1:aK (ks.map kV) us)(r2:aK (ls.map kV) ws)(e:shape ks=shape ls)(h:Q (bI ks ls) s):
  r_ (keyLt' (tuples' b) (.ref x)<|.ref y) Q E s:=by
 let⟨ox,rj,_,n,dx⟩:=hx;let⟨oy,r6,_,m,dy⟩:=hy;refine kat_lt rj dx r6 dy ?_;let l1:=r1.length;let l2:=r2.length;let l3:ks.length=ls.length:=by simpa using congrArg List.length e
 rw[U2]at l1 l2;let hf:decide (us.toArray.size<ws.toArray.size)=false:=decide_eq_false (by simp;omega);rw[hf];show lZ ks ls us ws 0 r1 r2 e h
set_option tactic.hygienic true in
def vE{h:w_}{b:Bool}{sh:B_ Bool}:∀{vs:ZM 0}{af:B_ (Zq 0)},nI h vs af->(∀ks∈af,shape ks=b::sh)->∃fs:ZM 0,fs.length=vs.length/\KatTups h vs fs/\∀f∈fs,typeOf f=pure (.type<|if b then "int" else "str")
 |_,_,.nil,_=>⟨[],rfl,KatTups.nil,λ_ hf=>nomatch hf⟩
 |_,_,.cons (b:=ks) ⟨a,us,e,⟨o,ho,hc,n,hd⟩,r⟩ t,hs=>by
  let⟨fs,hl,ht,hT⟩:=vE t λx hx=>hs x<|U4 _ hx;let h0:=hs ks UV;subst e;cases ks with
  |nil=>cases h0
  |cons k ks=>
   cases r with
   |cons rk rks=>
    rename_i u us';let hk:fU k=b:=by simpa using congrArg List.head? h0
    refine⟨u::fs,by simp[hl],KatTups.cons ho hc hd (by simp) ht,λf hf=>?_⟩;rcases U5.mp hf with rfl|hf
    ·cases k with
     |inl i=>let⟨tk,rfl⟩:=rk;subst hk;rfl
     |inr x=>let⟨tk,rfl⟩:=rk;subst hk;rfl
    ·show hT f hf
def Fc{vs:ZM 0}{Q:j_ SortKind}(t:nI s.heap vs af)(hs:∀ks∈af,shape ks=b::sh)(h0:0<vs.length)(h:Q (tuples' true) s):r_ (keyKind' vs.toArray) Q E s:=by
 let⟨fs,hl,ht,hT⟩:=vE t hs;refine kat_kind (T:=.type<|if b then "int" else "str") ht ⋯ (λv hv=>by rw[hT v hv];show Looks.now) (by cases b <;> rfl) ?_;have:((WO<|if b then "int" else "str") != WO "tuple")=true:=by cases b <;> rfl
 rw[this];show h
def rC{P:PySem.Fin->td->Prop}(ho:Y_ 0=a_ (seqObj "list" ([]:ZM 0).toArray n))(h:P (.done<|.ret .none) {s with heap:=sortedHeap s.heap a [] #[]}):r_ (Builtin.«list.sort» ⟨[.ref a],[]⟩) P E s:=by
 rw[list_sort_plain];refine SB<|listItems_at ho rfl ?_;refine SB<|Xv ho rfl ?_ (Vr _)<|Vr _;let ha:a<(e_ s):=U8 ho;obtain⟨e1,dv⟩:∃e1,(X_<|Vw λ_=>#[]).get? a=a_ (seqObj "list" #[] e1):=⟨_,Yj ho<|λ_=>#[]⟩;refine SB<|seqEpoch_at dv rfl ?_;refine SB<|wpAny_newTuple ?_<|Vr _;refine SB<|wpAny_newList ?_<|Vr _;refine VJ ?_;let km:(((X_<|Vw λ_=>#[]).push<|seqObj "tuple" ([]:ZM 0).toArray 0).push<|seqObj "list" #[] 0).get? a=a_ (seqObj "list" #[] e1):=by rw[XO _ _ _ (by rw[size_push',Yw];show Vc<|XQ ha),XO _ _ _ (by rw[Yw];show Vc ha)];show dv
 change r_ _ P E {s with heap:=((X_<|Vw λ_=>#[]).push<|seqObj "tuple" ([]:ZM 0).toArray 0).push (seqObj "list" #[] 0)}
 dsimp only;rw[if_pos nofun,if_pos nofun];refine SB<|SL ?_;rw[StateT.run_pure];refine SB<|SL ?_;dsimp only;refine SB<|seqEpoch_at km rfl ?_;let e0:(Array.map (λx=>x.snd)<|arrOf<|SortSt.mk' general' ((#[]:YV 0).zip (#[]:YV 0)) #[] 7 b_)=(#[]:YV 0):=by
  change Array.map (λx=>x.snd) ((#[]:YV 0).zip (#[]:YV 0))=#[]
  simp
 refine SB (Xv km rfl ?_ (Vr _) (hsz2:=by
  let e1:(Array.map (λx=>x.snd)<|arrOf<|SortSt.mk' general' ((#[]:YV 0).zip (#[]:YV 0)) #[] 7 b_).size=0:=by rw[e0];rfl
  first|exact VO (Nat.le_of_eq e1) (Vr _)|(show _<=_;omega)))
 simp only[bne_self_eq_false,VL,if_false];refine SL ?_
 change P (.done<|.ret .none) {s with heap:=(((X_<|Vw λx=>#[]).push<|seqObj "tuple" ([]:ZM 0).toArray 0).push<|seqObj "list" #[] 0).update a (Vw λx=>Array.map (λx=>x.snd)<|arrOf<|SortSt.mk' general' ((#[]:YV 0).zip (#[]:YV 0)) #[] 7 b_)}
 rw[e0];show h
def zG{v:s_}(zo:ZM 0->td->Prop)(hc:m_ prog w A.in1 (collect v) zo E s)(h:∀vs s1,zo vs s1->vs.length<64/\∃lt:Nat->Nat->Bool,(∀i j k,i<vs.length->j<vs.length->k<vs.length->lt j i=false->lt k j=false->lt k i=false)/\(∀i j,i<vs.length->j<vs.length->lt i j=true->lt j i=false)/\
   (∀(A':v_)(s':td),(∀b o,s1.heap.get? b=a_ o->s'.heap.get? b=a_ o)->0<vs.length->∀(Q:j_ SortKind) E',Q κ s'->m_ prog w A' (keyKind' vs.toArray) Q E' s')/\
   (∀(s':td),(∀b o,s1.heap.get? b=a_ o->s'.heap.get? b=a_ o)->∀i j,i<vs.length->j<vs.length->∀Q:j_ Bool,Q (lt i j) s'->m_ prog w A.in1.in1 (keyLt' κ (Zk 0)<|vs.getD j Vj) Q (λ_ _=>False) s')/\
   ∀(p:B_ Nat)(h':w_)(e:Nat),p.Perm (Vi vs.length)->p.Pairwise (λi j=>lt j i=false)->(∀b o,s1.heap.get? b=a_ o->Ze 0=a_ o)->h'.get? (e_ s1)=a_ (seqObj "list" (p.map λi=>Zk 0).toArray e)->Q (.ref (e_ s1)) {s1 with heap:=h'}):
  r_ (call (.builtin "sorted") [v]) Q E s:=by
 refine Calls.call_function_entry kind_sorted plain_sorted entry_sorted (args_sorted1 _) ?_;unfold Builtin.«sorted»;refine SB (m:=checkCount "sorted" 1 1 _)<|SL ?_;refine SB<|Wz hc (λvs s1 c=>?_) λ_ _ x=>x;let⟨dj,lt,tr,as,hk,ag,fin⟩:=h vs s1 c;refine SB (wpAny_newList ?_ (by rw[VN];omega));let fg:(s1.heap.push<|seqObj "list" vs.toArray 0).get? (e_ s1)=a_ (seqObj "list" vs.toArray 0):=Za 0;let keep:∀b o,s1.heap.get? b=a_ o->b≠(e_ s1)/\(s1.heap.push<|seqObj "list" vs.toArray 0).get? b=a_ o:=λb o q=>⟨Vc<|U8 q,Zn q⟩
 change u_ _ _ _ {s1 with heap:=s1.heap.push (seqObj "list" vs.toArray 0)}
 refine SB<|VJ<|Vz slot_list_sort ⟨_,fg,rfl⟩ entry_list_sort ?_<|args_list_sort _;let tree:m_ prog w A.in1.in1 (Builtin.«list.sort» ⟨[.ref<|e_ s1],[]⟩) (λr s'=>∃p:B_ Nat,r=.done (.ret .none)/\p.Perm (Vi vs.length)/\p.Pairwise (λi j=>lt j i=false)/\s'={s1 with heap:=sortedHeap (s1.heap.push<|seqObj "list" vs.toArray 0) (e_ s1) vs (p.map λi=>Zk 0).toArray}) E {s1 with heap:=s1.heap.push (seqObj "list" vs.toArray 0)}:=by
  by_cases h0:0<vs.length
  ·show tO (κ:=κ) lt tr as fg dj (λs' kp Q hq=>hk _ s' (λb o e=>kp b o (keep b o e).1 (keep b o e).2) h0 Q _ hq) (λs' kp i j hi hj Q hq=>ag s' (λb o e=>kp b o (keep b o e).1 (keep b o e).2) i j hi hj Q hq) λp a1 a2=>⟨p,rfl,a1,a2,rfl⟩
  ·let e0:vs=[]:=List.length_eq_zero_iff.mp ⋯;subst e0;show rC fg ⟨[],rfl,XB _,Yo,rfl⟩
 refine Wz tree (λr s' hr=>?_) λ_ _ x=>x;let⟨p,rfl,a1,a2,rfl⟩:=hr;refine⟨_,rfl,SL ⟨_,rfl,?_⟩⟩;let⟨e,he⟩:=sortedHeap_at (h:=s1.heap.push<|seqObj "list" vs.toArray 0) (out:=(p.map λi=>Zk 0).toArray) fg;show fin p _ e a1 a2 (λb o q=>(sortedHeap_old (keep b o q).1 (by rw[size_push'];show XQ<|U8 q)).trans (keep b o q).2) he
end
def zH{α:Type}{xs:B_ α}{d:α}{p:B_ Nat}(h:p.Perm (Vi xs.length)):(p.map λi=>xs.getD i d).Perm xs:=by
 let e:(Vi xs.length).map (λi=>xs.getD i d)=xs:=by
  apply Wo;intro i;by_cases hi:i<xs.length
  ·simp[hi]
  ·simp[hi]
 have:=h.map λi=>xs.getD i d
 rwa[e]at this
def rD{vs:B_ V}{us:ZM 0}(r:aK vs us):∀{p:B_ Nat},(∀i∈p,i<vs.length)->aK (p.map λi=>vs.getD i .non) (p.map λi=>us.getD i Vj)
 |[],_=>.nil
 |i::p,h=>by
  let hi:=h i UV;let g:vs[i]?=a_ (vs.getD i .non):=by simp[hi]
  let⟨u,hu,hr⟩:=r.get g;let e:us.getD i Vj=u:=by simp[Wr,hu]
  refine .cons ?_<|rD r λj hj=>h j<|U4 _ hj
  change RelV (vs.getD i .non) (us.getD i Vj)
  rw[e];show hr
def xY:typeLookup (.type "tuple") "keys" = pure b_:=by rw[Yk,W1];kernel_rfl
def oA:entryFor table "dict.update.loop" = a_ Builtin.«dict.update.loop»:=entryFor_of_tree (by kernel_rfl)
def fQ:plainId "dict.update.loop" = true:=by decide +kernel
def xZ{o:Obj}{xs:YV 0}{k:Nat}{Q:C_ s_->td->Prop}(hx:Y_ 0=a_ o)(hc:o.cls=.type "tuple")(i8:o.data=.seq xs k)(hd:o.dict=b_)(hA:A.handled=b_)(h:∀h' tk,(∀b u,N_ 0=a_ u->Ze 0=a_ u)->Q b_ {s with heap:=h',toks:=tk}):r_ (getAttr? (.ref a) "keys") Q E s:=by
 let⟨c,u9,dat,sl⟩:=o;simp only at hc i8 hd;subst hc i8 hd;let⟨hp,g,d,tk,os⟩:=s;let hT:∀oq,(⟨hp,g,d,oq,os⟩:td).TypeIs (.ref a) "tuple" := λ_=>⟨_,hx,rfl⟩;let f1:=sub_AttributeError;let f3:=F.slot_tuple_getattribute.lookup;let f4:=F.slot_tuple_getattribute.bind<|.ref a;let f5:=am_tuple_getattr_none;unfold getAttr? getAttrBy? getAttrBy
 repeat (any_goals (first|assumption|exact hT _|((with_reducible show wpAny _ _ (call (Value.builtin "tuple.__getattribute__") _ _) _ _ _);refine call_meets F.slot_tuple_getattribute (hT _) am_entry_tuple_getattribute (F.args_tuple_getattribute_2 _ _) (meets_getattribute_miss_tuple a xs k sl "keys" _ xY nofun<|by size_fits) ⟨hx,hA,λh' oq e df=>?_⟩)|wp_step))
 let⟨t',u',he⟩:=df.there
 change u_ (getattributeRaised _ _ _ _ _ _ _) _ _ _
 unfold getattributeRaised
 repeat (any_goals (first|assumption|wp_step))
 show h _ _ df.of.keeps
variable{I:t_}{fp wr:B_ t_}
section
variable{K:Type}[DecidableEq K]{knd:KeyKind prog w K}
def CL{d:t_}{P:Nat->s_->Prop}{St:Nat->w_->Prop}(W:Walks prog w A.in1 I fp wr n P St)(hd:d∉fp)(ps:B_ (t_×K×s_×s_))(hn:ps.length=n)(hP:∀i v,P i v->∃p,ps[i]?=a_ p/\v=.ref p.1)(hT:∀p∈ps,p.1∉wr/\p.1≠d)(hk:∀p∈ps,knd.is p.2.1 p.2.2.1=true)(res:s_):
  ∀(m i:Nat)(s:td)(kvs:B_ (K×s_)),n-i=m->i<=n->St i s.heap->s.heap.DictOf knd d kvs->kvs.length+n<=U9+i->(∀p∈ps,q0f p.1 #[p.2.2.1,p.2.2.2])->
  (∀h' tk,h'.DictOf knd d (merged kvs<|(ps.drop i).map λp=>(p.2.1,p.2.2.2))->(∀b o,b≠d->b∉wr->N_ 0=a_ o->Ze 0=a_ o)->R (.ok<|.ret res) {s with heap:=h',toks:=tk})->
  codeAny (Z4 0) A (.builtin "dict.update.loop" ⟨[.ref d,.ref I,rawInt i,res],[]⟩) R s:=by
 let Sj:d∉wr:=λh=>hd<|W.sub _ h;intro m
 induction m with
 |zero=>
  intro i s kvs hm hi cg m7 hz hit hR;let cy:i=n:=⋯;subst cy;refine Xk oA ?_;rw[WK fQ _]
  change wpAny _ A.in1 (pyNext (.ref I) >>= _) _ _ s
  refine SB<|W.done s _ _ cg λh' tk e8=>?_
  change wpAny _ A.in1 (Builtin.Dict.addKeywords d [] >>= _) _ _ _
  let k0:=hR h' tk (by rw[List.drop_of_length_le ⋯];let⟨o,es,ep,h1,h2⟩:=m7;show⟨o,es,ep,e8 d _ Sj h1,h2⟩) λb o _ hb e=>e8 b o hb e;show SB<|SL<|SL k0
 |succ m ih=>
  intro i s kvs hm hi cg m7 hz hit hR;let ag:i<n:=⋯;refine Xk oA ?_;rw[WK fQ _]
  change wpAny _ A.in1 (pyNext (.ref I) >>= _) _ _ s
  refine SB<|W.item i s _ _ ag cg λv h' tk UM i6 e8=>?_;let⟨p,hp,rfl⟩:=hP i v UM;let vi:=VE hp;let⟨ob,u6,oj,nn,UX⟩:=hit p vi;let qh:=e8 _ _ (hT p vi).1 u6;let Uj:({s with heap:=h',toks:=tk}:td).TypeIs (.ref p.1) "tuple" := ⟨ob,qh,oj⟩;let vx:h'.DictOf knd d kvs:=by let⟨o,es,ep,h1,h2⟩:=m7;show⟨o,es,ep,e8 d _ Sj h1,h2⟩
  refine SB<|VJ<|SB<|wpAny_tryCatch ?_;unfold Builtin.Dict.pairItems;refine SB<|Xr Uj ?_;rw[if_pos nofun];refine SB<|wpAny_seqItems qh UX<|SL ?_
  change u_ (holding [p.2.2.1,p.2.2.2]<|dictSet d p.2.2.1 p.2.2.2) _ _ _
  refine VJ (wpAny_dictSet_pairs (hk p vi) vx (hsz:=by omega) λh2 hd2 fj=>?_);refine SL ⟨X4 fQ _,?_⟩;let ji:St (i+1) h2:=W.frame (i+1) h' h2 i6 λb hb o e=>(fj.2 b<|λz=>hd<|z▸hb).trans e;refine ih (i+1) _ (stored kvs p.2.1 p.2.2.2) ⋯ ag ji hd2 ?_ (λq hq=>?_) λh3 SV TB Ts=>?_
  ·have:=stored_length_le kvs p.2.1 p.2.2.2;omega
  ·let⟨Ta,c1,c2⟩:=hit q hq;show⟨Ta,(fj.2 _ (hT q hq).2).trans<|e8 _ _ (hT q hq).1 c1,c2⟩
  ·refine hR h3 SV ?_ λb o hb hw e=>Ts b o hb hw<|(fj.2 b hb).trans<|e8 b o hw e;let vb:ps.drop i=p::ps.drop (i+1):=by let⟨hl,e⟩:=SC.mp hp;rw[List.drop_eq_getElem_cons hl,e]
   rw[vb];show TB
def tQ{o:Obj}{k:Nat}{ps:B_ (t_×K×s_×s_)}(hA:A.handled=b_)(hx:Y_ 0=a_ o)(hc:o.cls=.type "tuple")(i8:o.data=.seq (ps.map λp=>Vt p.1).toArray k)(hd:o.dict=b_)(hk:∀p∈ps,knd.is p.2.1 p.2.2.1=true)(hit:∀p∈ps,q0f p.1 #[p.2.2.1,p.2.2.2])(hz:ps.length<=U9)(h:∀h' tk,h'.DictOf knd (e_ s) (merged []<|ps.map λp=>(p.2.1,p.2.2.2))->(∀b u,N_ 0=a_ u->Ze 0=a_ u)->Q (.ref<|e_ s) {s with heap:=h',toks:=tk}):
  r_ (call (.type "dict") [.ref a]) Q E s:=by
 refine callType_codes (Q₁:=λobj s₁=>obj=.ref (e_ s)/\s₁={s with heap:=s.heap.push {cls:=.type "dict",data:=.dict #[]} }) F.kt_called_dict (F.kt_typeCall_dict_1 _) F.entry_dict_init (kt_code_dict_new _ ⟨rfl,rfl⟩) ?_;rintro obj s₁ ⟨rfl,rfl⟩;let iu:(s.heap.push {cls:=.type "dict",data:=.dict #[]}).DictOf knd (e_ s) []:=Heap.DictOf.new s.heap;let up:∀b u,N_ 0=a_ u->(s.heap.push {cls:=.type "dict",data:=.dict #[]}).get? b=a_ u:=λb u e=>Zn e;let UT:({s with heap:=s.heap.push {cls:=.type "dict",data:=.dict #[]} }:td).TypeIs (.ref a) "tuple" := ⟨o,up _ _ hx,hc⟩;refine⟨iu.typeIs,F.args_dict_init_2 _ _,?_⟩;unfold Builtin.«dict.__init__»;refine SB ?_;unfold Builtin.Dict.selfAndRest;refine SB (Xw iu.typeIs<|show u_ (pure (s.heap.objs.size,[Vt a])) _ _ _ from SL ?_)
 change u_ (Builtin.Dict.updateFrom "dict.__init__" (e_ s) (.ref a) [] .none) _ _ _
 unfold Builtin.Dict.updateFrom;refine SB<|Xr UT ?_;rw[if_pos nofun];refine SB<|xZ (up _ _ hx) hc i8 hd hA λh1 Tj qf=>?_;rw[if_pos<|by rfl];refine SB<|XN ?_;let og:IsTup h1 a (ps.map λp=>Vt p.1).toArray:=⟨o,qf _ _<|up _ _ hx,hc,k,i8⟩;refine SB (wpAny_pyIter_tuple (show({s with heap:=h1,toks:=Tj}:td).heap.IsTuple a _ from og) (SL ⟨X4 fQ _,?_⟩))
 let vc:(e_ s)<h1.objs.size:=by have:=qf (e_ s) _<|U3 s.heap rfl;show U8 this
 let ag:∀b u,N_ 0=a_ u->b<(e_ s):=λb u e=>U8 e;let Sk:=ag _ _ hx;refine CL (knd:=knd) (fp:=[h1.objs.size,a]) (wr:=[h1.objs.size]) (n:=(ps.map λp=>Vt p.1).toArray.size) (Walks.tuple (A:=A.in1.in1) hA h1.objs.size a (Vc<|YC Sk vc) (ps.map λp=>Vt p.1).toArray) ?_ ps (by simp) (λi v e=>?_) (λp hp=>?_) hk .none _ 0 _ [] (Nat.sub_zero _) (Vr _) ?_ ?_ (l_ hz) (λp hp=>?_) λh' tk dd kk=>?_
 ·intro z;rcases U5.mp z with z|z
  ·show Vc vc z
  ·show Vc Sk (Va.mp z).symm
 ·let e':(ps.map λp=>Vt p.1)[i]?=a_ v:=by simpa using e
  rw[Vf]at e';let⟨p,hp,rfl⟩:=Vn.mp e';show⟨p,hp,rfl⟩
 ·let⟨ob,e,_⟩:=hit p hp;let h0:=ag _ _ e;show⟨λz=>Vc (YC h0 vc)<|Va.mp z,Vc h0⟩
 ·refine⟨⟨_,Za 0,rfl,rfl⟩,?_⟩;let⟨ob,e,r⟩:=og;show⟨ob,Zn e,r⟩
 ·let⟨oo,es,ep,e,r⟩:=iu;show⟨oo,es,ep,Zn<|qf _ _ e,r⟩
 ·let⟨ob,e,r⟩:=hit p hp;show⟨ob,Zn<|qf _ _<|up _ _ e,r⟩
 ·refine⟨rfl,h h' tk (l_ dd) λb u e=>?_⟩;let h0:=ag _ _ e;show kk b u (Vc h0) (λz=>Vc (YC h0 vc)<|Va.mp z)<|Zn<|qf _ _<|up _ _ e
end
variable{key:s_}
section
variable{K:Type}[DecidableEq K]
def rE{knd:KeyKind prog w K}{d:t_}{kvs:B_ (K×s_)}{k:K}{x:s_}(bg:knd.is k key=true)(hm:s.heap.DictOf knd d kvs)(hz:kvs.length<=U9)(there:∀v,valueAt kvs k=a_ v->Q v { s with toks:=s.toks+1})(new:valueAt kvs k=b_->∀h',h'.DictOf knd d (stored kvs k x)->Wy d s.heap h'->Q x {s with heap:=h',toks:=s.toks+1}):r_ (dictSetDefault d key x) Q E s:=by
 let sd:=hm.mapOf;let⟨o,es,ep,ho,hc,hd,hk,hp,hn⟩:=id hm;let f9:es.size<=U9:=by let e1:=hp.length;rw[X0]at e1;omega
 unfold dictSetDefault;refine VJ<|SB<|knd.pyHash bg<|SB<|wpAny_dictFind_of (s:={ s with toks:=s.toks+1}) bg ho hd hk ?_;let wy:(es.findIdx? λe=>knd.is k e.key)=kvs.findIdx? λkv=>decide (kv.1=k):=by rw[<-hp.findIdx k];let⟨l⟩:=es;simp
 cases hi:es.findIdx? λe=>knd.is k e.key with
 |some i=>
  refine SB<|Wp (s:={ s with toks:=s.toks+1}) ho hd ?_;let⟨o',es',ie,de,_,d8,_,hf⟩:=sd;obtain rfl:o=o':=Vq<|ho.symm.trans de;let yb:es=es':=by rw[hd]at d8;injection d8
  subst yb;let Si:valueAt kvs k=(es[i]?).map (·.val):=by rw[<-hf k,findBy_of_findIdx?,hi]
  let ag:i<es.size:=(Array.findIdx?_eq_some_iff_findIdx_eq.mp hi).1;rw[Vm ag]at Si⊢;show SB<|XN<|SL<|there _ Si
 |none=>
  let fresh:k∉kvs.map (·.1):=not_mem_of_findIdx_none<|wy▸hi;let sy:¬ (kvs.any λkv=>decide (kv.1=k))=true:=by rw[List.any_eq_true];rintro⟨kv,q1,q2⟩;show fresh<|Vl.mpr ⟨kv,q1,of_decide_eq_true q2⟩
  let hv:valueAt kvs k=b_:=by
   let⟨o',es',ie,de,_,d8,_,hf⟩:=sd;obtain rfl:o=o':=Vq<|ho.symm.trans de;let yb:es=es':=by rw[hd]at d8;injection d8
   subst yb;rw[<-hf k,findBy_of_findIdx?,hi]
  refine SB<|XN<|SB<|wpAny_updateDictKeys (hz:=f9) (s:={ s with toks:=s.toks+1}) ho hd (SL<|new hv _ ⟨_,_,ep+1,VS _ ho<|Obj.isFreed_of_dict<|Obj.data_mapDictKeys hd _,hc.mapDictKeys _,Obj.data_mapDictKeys hd _,hk.push bg _,?_,?_⟩<|Vu ..)
  ·rw[stored,if_neg sy];let q:=hp.append bg (knd.hash k) x;let⟨l⟩:=es;simpa using q
  ·rw[stored,if_neg sy,VP,Xg];refine⟨hn,by simp,λu yj v oz e=>fresh ?_⟩;have:v=k:=by simpa using oz
   rw[<-this,<-e];show yj
end
section
variable{K:Type}[DecidableEq K]
def kJ(knd:KeyKind prog w K)(d:t_)(hd:(d == We)=false){k:K}(bg:knd.is k key=true)(x:s_):
  MeetsIn prog w (Builtin.«dict.setdefault» ⟨[.ref d,key,x],[]⟩) (λA R s=>∃kvs,s.heap.DictOf knd d kvs/\kvs.length<=U9/\(∀v,valueAt kvs k=a_ v->R (.ok (.ret v)) { s with toks:=s.toks+1})/\
   (valueAt kvs k=b_->∀h',h'.DictOf knd d (stored kvs k x)->Wy d s.heap h'->R (.ok (.ret x)) {s with heap:=h',toks:=s.toks+1})):=
 .of_wp λA R s ⟨kvs,hm,hz,r1,r2⟩=>by
  unfold Builtin.«dict.setdefault»;refine SB ?_;unfold Builtin.Dict.keyAndDefault;refine SB (Xw hm.typeIs<|show u_ (pure (d,key,a_ x)) _ _ s from SL ?_)
  change u_ (if(d == We)=true then _ else(dictSetDefault d key x >>= _)) _ _ s
  rw[if_neg (show ¬ _ from by rw[hd];decide)]
  show SB<|rE bg hm hz (λv e=>SL ⟨v,rfl,r1 v e⟩) λe h' q1 q2=>SL ⟨x,rfl,r2 e h' q1 q2⟩
end
variable{dc:t_}{ep:Nat}{oc:Obj}{it:t_}
section
variable{v:t_}{es:Array Xs}
def Fd(hv:s.heap.IsValuesView v dc)(h1:Zt 0=a_ oc)(h2:oc.data=.dict es ep)(q:Q (.ref<|e_ s) {s with heap:=s.heap.push {cls:=.type "dict_valueiterator",data:=.fields #[.ref dc,.int 0 0,.int es.size 0,.int ep 0]} }):r_ (pyIter<|.ref v) Q E s:=by
 let⟨ov,g1,g2,g3⟩:=id hv;refine XT hv.typeIs F.slot_dict_values_iter (Vz F.slot_dict_values_iter hv.typeIs F.entry_dict_values_iter (show u_ (Builtin.«dict_values.__iter__» _) _ _ _ from ?_) (F.args_dict_values_iter_1 _))
 unfold Builtin.«dict_values.__iter__»;refine SB<|SL<|SB ?_;unfold Builtin.Dict_items.dictOf;refine SB<|YA g1 g3 (x:=.ref dc) rfl<|SL<|SB ?_;unfold Builtin.Dict_items.newIterator;refine SB<|Wp h1 h2<|SB<|W2 h1 h2 ?_;rw[show VQ "dict_valueiterator" = false by decide];simp only[VL,if_false];refine Vk (SL ⟨_,rfl,"dict_valueiterator",_,⟨_,Za 0,rfl⟩,Wt.lookup,(by simpa[rawInt] using q)⟩)
def GO{Q:C_ s_->td->Prop}(hI:s.heap.IsValIter it dc i es.size ep)(h1:Zt 0=a_ oc)(h2:oc.data=.dict es ep)(ag:i<es.size)(q:∀h',h'.IsValIter it dc (i+1) es.size ep->Wy it s.heap h'->Q (a_ es[i].val) {s with heap:=h'}):r_ (pyNext<|.ref it) Q E s:=by
 let⟨oi,g1,g2,g3⟩:=id hI;unfold pyNext;refine SB<|WV<|Vy (name:=Vh "__next__") hI.typeIs Wt<|Vz Wt hI.typeIs F.entry_dict_valueiterator_next ?_<|F.args_dict_valueiterator_next_1 _;refine SB<|SL<|SB<|SB ?_
 first|refine SB (W8 hI.typeIs<|SL ?_)|refine SB (XU hI.typeIs<|SL ?_)
 refine SB<|WW g1 g3 ?_;rw[show VQ "dict_valueiterator" = false by decide];simp only[VL,if_false]
 change u_ (if(Vt dc == Vj)=true then _ else _) _ _ s
 rw[if_neg<|show ¬ ((Vt dc == Vj)=true) from Ve]
 refine SB<|SL<|SB<|Wp h1 h2 ?_;rw[if_neg<|show ¬ _ by simp];refine SB<|SL<|SB<|W2 h1 h2 ?_;rw[if_neg<|show ¬ _ by simp];refine SL ?_;simp only[show ¬ ((i:Int)<0) by omega,if_false,Xh,Vm ag];refine SB ?_
 first|refine SB (W8 hI.typeIs<|SL ?_)|refine SB (XU hI.typeIs<|SL ?_)
 refine SB (wpAny_isOneOf_valiter hI.typeIs<|show u_ (YH (.ref it) 1 (rawInt<|(i:Int)+1) >>= _) _ _ s from SB (XC g1 g3 (by simp) ?_))
 let jh:(q0a (WX (·.setIfInBounds 1 (rawInt<|(i:Int)+1)))).IsValIter it dc (i+1) es.size ep:=⟨_,VS _ g1<|Xx<|W6 g3 _,(Obj.cls_mapFields ..).trans g2,by rw[W6 g3];simp[rawInt]⟩;let kr:({s with heap:=q0a (WX (·.setIfInBounds 1 (rawInt<|(i:Int)+1)))}:td).TypeIs (.ref it) "dict_valueiterator" := jh.typeIs;refine SB<|VJ<|SB<|wpAny_isOneOf_valiter kr<|SB<|wpAny_isOneOf_valiter kr ?_
 change u_ (pure es[i].val) _ _ _
 show SL<|SL ⟨_,rfl,SL<|q _ jh<|Vu ..⟩
def GP{Q:C_ s_->td->Prop}(hh:A.handled=b_)(hI:s.heap.IsValIter it dc i es.size ep)(h1:Zt 0=a_ oc)(h2:oc.data=.dict es ep)(j6:es.size<=i)(q:∀h',q0k 0->Q b_ {s with heap:=h'}):r_ (pyNext<|.ref it) Q E s:=by
 let⟨oi,g1,g2,g3⟩:=id hI;unfold pyNext;refine SB<|WV<|Vy (name:=Vh "__next__") hI.typeIs Wt<|Vz Wt hI.typeIs F.entry_dict_valueiterator_next ?_<|F.args_dict_valueiterator_next_1 _;refine SB<|SL<|SB<|SB ?_
 first|refine SB (W8 hI.typeIs<|SL ?_)|refine SB (XU hI.typeIs<|SL ?_)
 refine SB<|WW g1 g3 ?_;rw[show VQ "dict_valueiterator" = false by decide];simp only[VL,if_false]
 change u_ (if(Vt dc == Vj)=true then _ else _) _ _ s
 rw[if_neg<|show ¬ ((Vt dc == Vj)=true) from Ve]
 refine SB<|SL<|SB<|Wp h1 h2 ?_;rw[if_neg<|show ¬ _ by simp];refine SB<|SL<|SB<|W2 h1 h2 ?_;rw[if_neg<|show ¬ _ by simp];refine SL ?_;simp only[show ¬ ((i:Int)<0) by omega,if_false,Xh,VM j6];refine SB ?_
 first|refine SB (W8 hI.typeIs<|SL ?_)|refine SB (XU hI.typeIs<|SL ?_)
 refine(show u_ (YH (.ref it) 0 .none >>= _) _ _ s from SB (XC g1 g3 (by simp) ?_))
 refine(show u_ (newExc (.type "StopIteration") [] >>= _) _ _ _ from SB ?_);simp only[newExc,newTuple]
 refine SB (Vk (SB (m:=WY _ _)<|W9 (a:=Vj) (by first|rfl|(simp only[WY];rfl))<|Vk ?_<|by size_fits)<|by size_fits)
 simp only[raiseNew];refine SB<|wpAny_handled ?_;rw[show A.in1.handled=b_ from hh]
 refine SB<|SL<|wpAny_throw ?_;refine SB<|Wl (T:="StopIteration") (b:=true) ⟨_,Za 0,rfl⟩ isSubtype_stop ?_;show SL<|q _<|((Vu ..).extBut.push _).push _
def CM(hh:A.handled=b_)(I dc:t_)(f6:dc≠I)(oc:Obj)(es:Array Xs)(ep:Nat)(h2:oc.data=.dict es ep):
  Walks prog w A I [I,dc] [I] es.size (λi v=>∃e,es[i]?=a_ e/\v=e.val) (λi h=>h.IsValIter I dc i es.size ep/\h.get? dc=a_ oc) where
 sub:=λb hb=>by rw[Va.mp hb];show UV
 frame:=λ_ _ _ st hk=>⟨let ⟨o,e,r⟩:=st.1;⟨o,hk I UV o e,r⟩,hk dc (U4 _ UV) _ st.2⟩
 item:=λi s Q E hi st hQ=>GO st.1 st.2 h2 hi λh' yk il=>hQ _ h' s.toks ⟨es[i],by simp[hi],rfl⟩ ⟨yk,(il.2 dc f6).trans st.2⟩ λb o hb e=>(il.2 b λz=>hb (by rw[z];show UV)).trans e
 done:=λs Q E st hQ=>GP hh st.1 st.2 h2 (U1 _) λh' jo=>hQ h' s.toks λb o hb e=>jo b o (λz=>hb (by rw[z];show UV)) e
 self:=λ_ _ _ _ st hQ=>wpAny_pyIter_valiter st.1 hQ
def GQ{r:t_}(h2:oc.data=.dict es ep):PySem.W.KdlSrc prog w "dict_values" r dc es.size (λi v=>∃e,es[i]?=a_ e/\v=e.val) (λh=>h.IsValuesView r dc/\h.get? dc=a_ oc) where
 type:=λ_ hm=>hm.1.typeIs
 there:=λ_ hm=>⟨let ⟨_,ho,_⟩:=hm.1;U8 ho,U8 hm.2⟩
 keep:=λ_ _ hm hk=>⟨let ⟨o,ho,x⟩:=hm.1;⟨o,hk r (.inl rfl) o ho,x⟩,hk dc (.inr rfl) _ hm.2⟩
 notList:=by decide
 notTuple:=by decide
 hint:=λ_ _ _ _ hm hq=>PySem.W.kdl_hint_values hm.1.typeIs hq
 iter:=λ_ _ hh hm=>⟨_,_,(λ_ _ hq=>Fd hm.1 hm.2 h2 hq),CM hh _ dc (Vc<|U8 hm.2) oc es ep h2,⟨⟨_,Za 0,rfl,rfl⟩,Zn hm.2⟩⟩
def Aj(dc:t_)(hd:(dc == We)=false):MeetsIn prog w (Builtin.«dict.values» ⟨[.ref dc],[]⟩) (λ_ R s=>s.TypeIs (.ref dc) "dict" /\
   R (.ok (.ret (.ref (e_ s)))) {s with heap:=s.heap.push {cls:=.type "dict_values",data:=.fields #[.ref dc]} }):=
 .of_wp λA R s ⟨hT,h⟩=>by
  refine SB ?_;unfold Builtin.Dict.noArgs;refine SB (Xw hT<|show u_ (pure dc) _ _ s from SL (show u_ (W3 dc >>= _) _ _ s from ?_))
  unfold W3;rw[if_neg (show ¬ _ from by rw[hd];decide)]
  refine SB<|SL<|SB<|Vk<|SL ⟨_,rfl,h⟩
end
namespace FR
def nolen_lr:typeLookup (.type "list_reverseiterator") "__len__" = pure b_:=by rw[Yk,W1];kernel_rfl
def hint_lr:typeLookup (.type "list_reverseiterator") "__length_hint__" = pure (a_<|.builtin "list_reverseiterator.__length_hint__"):=by rw[Yk,W1];kernel_rfl
end FR
@[reducible]def GR(items:YV 0)(i:Nat)(v:s_):Prop:=items[items.size-1-i]?=a_ v
def GS{Q:j_ Bool}(hT:s.TypeIs (.ref it) "list_reverseiterator")(h:Q false s):r_ (WJ<|.ref it) Q E s:=by
 unfold WJ;refine SB<|Xj hT FR.nolen_lr ?_
 change wpAny _ A (specialOf (Vt it) (Vh "__length_hint__") >>= _) _ _ _
 refine SB<|Xj hT FR.hint_lr ?_;generalize zx:("list_reverseiterator.__length_hint__" : String)=id0
 wp_delta
 rw[show splitId id0=a_ ("list_reverseiterator","__length_hint__") from by subst zx;decide +kernel]
 subst zx;refine SB (Wl (b:=true) hT (by rw[isSubtype_type];kernel_rfl) ?_);show SL h
variable{items:YV 0}{l:t_}
def CN(hh:A.handled=b_)(hit:s.heap.IsRevIter it l ((items.size:Int)-1))(hl:s.heap.IsList l items)(f6:l≠it)(S:t_)(ze:S≠it)(Tp:S≠l)(res:s_)(c₀:Nat)(hS:s.heap.get? S=a_ {cls:=.type "list",data:=.seq #[] c₀})(hR:∀h' tk cx c',(∀b o,b≠S->b≠it->N_ 0=a_ o->Ze 0=a_ o)->h'.get? S=a_ {cls:=.type "list",dict:=b_,data:=.seq cx c',slots:=#[]}->ItemsOf (GR items) cx items.size->R (.ok<|.ret res) {s with heap:=h',toks:=tk})(hn:items.size<=U9):
  m_ prog w A.in1 (VY (.ref S) (.ref it) res)
   (λfin s'=>match fin with|.done f=>R (.ok f) s'|.again c'=>c'.quiet=true/\codeAny (Z4 0) A c' R s') (λe s'=>R (.error e) s') s:=by
 let lu:S∉[it,l]:=by simp only[U5,List.not_mem_nil,or_false,not_or];show⟨ze,Tp⟩
 let W:=Walks.listRev (prog:=prog) (w:=w) (A:=A.in1) hh it l f6 items;let zd:0<=items.size/\s.heap.IsRevIter it l ((items.size:Int)-1-((0:Nat):Int))/\s.heap.IsList l items:=⟨Vr _,by
  let e:(items.size:Int)-1-((0:Nat):Int)=(items.size:Int)-1:=⋯;rw[e];show hit,hl⟩
 unfold VY;refine SB<|Xr (T:="list_reverseiterator") hit.typeIs ?_;let h1:W7 (.ref S) (.ref it)=false:=by simp[W7,ze]
 let h2:(WO "list_reverseiterator" == WO "list")=false:=by decide
 let h3:(WO "list_reverseiterator" == WO "tuple")=false:=by decide
 simp only[h1,h2,h3,Bool.or_false,VL,if_false];refine SB<|W.self _ _ _ _ zd ?_;refine SB<|VJ<|GS hit.typeIs ?_;rw[ZD 0];refine SL ⟨X4 PySem.F.plain_extend_loop _,codeAny_extend_loopS W.toS hn S lu res items.size 0 _ #[] c₀ rfl (Vr _) zd hS (ItemsOf.nil _) λs' cx c' hm jy aw=>?_⟩;rw[Moved.eq_with hm];refine hR s'.heap s'.toks cx c' (λb o hb hi e=>hm.heap b o (λhmem=>?_) e) jy aw;rcases U5.mp hmem with e'|hmem
 ·show hb e'
 ·show hi (Va.mp hmem)
def yA(hh:A.handled=b_)(hit:s.heap.IsRevIter it l ((items.size:Int)-1))(hl:s.heap.IsList l items)(f6:l≠it)(hn:items.size<=U9)(hQ:∀h' tk cx c',(∀b o,b≠it->N_ 0=a_ o->Ze 0=a_ o)->h'.get? (e_ s)=a_ {cls:=.type "list",dict:=b_,data:=.seq cx c',slots:=#[]}->ItemsOf (GR items) cx items.size->Q (.ref<|e_ s) {s with heap:=h',toks:=tk}):
  r_ (call (.type "list") [.ref it]) Q E s:=by
 refine callType_codes (Q₁:=λobj s₁=>obj=.ref (e_ s)/\s₁={s with heap:=s.heap.push {cls:=.type "list",data:=.seq #[]} }) PySem.F.called_list (PySem.F.typeCall_list_1 _) PySem.F.entry_list_init
  (code_list_new _ ⟨rfl,rfl⟩) λobj s₁ h₁=>?_
 let⟨rfl,rfl⟩:=h₁
 have hS:(s.heap.push {cls:=.type "list",data:=.seq #[]}).get? (e_ s)=a_ {cls:=.type "list",data:=.seq #[]}:=Za 0
 have zy:it<(e_ s):=let ⟨o,ho,_⟩:=hit;U8 ho
 have ux:l<(e_ s):=let ⟨o,ho,_⟩:=hl;U8 ho
 refine⟨⟨_,hS,rfl⟩,PySem.F.args_list_init_2 _ _,?_⟩
 show wpAny _ A.in1.in1 (do let old <-Builtin.List.listItems (.ref<|e_ s);Builtin.List.listUpdate (.ref<|e_ s) (λ_=>#[]);letGo old.toList.reverse;VY (.ref<|e_ s) (.ref it) .none) _ _ _
 refine SB ?_
 unfold Builtin.List.listItems
 refine SB<|wpAny_seqItems hS rfl<|SL ?_
 show u_ (updateSeq (e_ s) (λ_=>#[]) >>= λ_=>letGo (#[]:YV 0).toList.reverse >>= λ_=>VY (.ref<|e_ s) (.ref it) .none) _ _ _
 refine SB<|wpAny_updateSeq hS rfl ?_
 have uu:=VS (Vw<|λ_=>(#[]:YV 0)) hS rfl
 have oth:∀b o,b≠(e_ s)->N_ 0=a_ o->((s.heap.push {cls:=.type "list",data:=.seq #[]}).update (e_ s)<|Vw<|λ_=>(#[]:YV 0)).get? b=a_ o:=
  λb o hb e=>(Wc _ _<|Wu hb).trans<|Zn e
 refine SB<|wpAny_letGo ?_
 refine CN (A:=A.in1) hh (hit.at λo e=>oth it o (Vc zy) e) (let ⟨o,ho,r⟩:=hl;⟨o,oth l o (Vc ux) ho,r⟩) f6 (e_ s) (WL zy) (WL ux) .none _ uu (λh' tk cx c' hk jy aw=>?_) hn
 exact⟨rfl,hQ h' tk cx c' (λb o hb e=>hk b o (Vc<|U8 e) hb<|oth b o (Vc<|U8 e) e) jy aw⟩
variable{ov:s_}
def iV{ok:s_}(hI:IsItemIter s.heap it dc i n ep ok ov):s.TypeIs (.ref it) "dict_itemiterator" := ⟨_,hI,rfl⟩
def CO{v:t_}{es:Array Xs}(hv:s.heap.IsItemsView v dc)(h1:Zt 0=a_ oc)(h2:oc.data=.dict es ep)(q:Q (.ref<|e_ s) {s with heap:=s.heap.push {cls:=.type "dict_itemiterator",data:=.fields #[.none,.bool false,.ref dc,.int 0 0,.int es.size 0,.int ep 0,.none,.none]} }):r_ (pyIter<|.ref v) Q E s:=by
 let⟨ov,g1,g2,g3⟩:=id hv;refine XT hv.typeIs F.slot_dict_items_iter (Vz F.slot_dict_items_iter hv.typeIs F.entry_dict_items_iter (show u_ (Builtin.«dict_items.__iter__» _) _ _ _ from ?_) (F.args_dict_items_iter_1 _))
 unfold Builtin.«dict_items.__iter__»;refine SB<|SL<|SB ?_;unfold Builtin.Dict_items.dictOf;refine SB<|YA g1 g3 (x:=.ref dc) rfl<|SL<|SB ?_;unfold Builtin.Dict_items.newIterator;refine SB<|Wp h1 h2<|SB<|W2 h1 h2 ?_;rw[show VQ "dict_itemiterator" = true by decide];simp only[if_true,Builtin.Dict_items.ownedTupleFields,Yv,List.nil_append,VL,if_false];refine Vk (SL ⟨_,rfl,"dict_itemiterator",_,⟨_,Za 0,rfl⟩,V4.lookup,(by simpa[rawInt] using q)⟩)
def next_item{es:Array Xs}{ok:s_}{Q:C_ s_->td->Prop}(hI:IsItemIter s.heap it dc i es.size ep ok ov)(h1:Zt 0=a_ oc)(h2:oc.data=.dict es ep)(ag:i<es.size)(q:∀h',IsItemIterOut h' it dc (i+1) es.size ep es[i].key es[i].val (e_ s)->h'.get? (e_ s)=a_ {cls:=.type "tuple",data:=.seq #[es[i].key,es[i].val]}->
   (∀(b:t_)(o:Obj),b≠it->N_ 0=a_ o->Ze 0=a_ o)->Q (c_ (e_ s)) {s with heap:=h'}):r_ (pyNext (.ref it)) Q E s:=by
 let hT:=iV hI;unfold pyNext;refine SB<|WV<|Vy (name:=Vh "__next__") hT V4<|Vz V4 hT F.entry_dict_itemiterator_next ?_<|F.args_dict_itemiterator_next_1 _;refine SB<|SL<|SB<|SB ?_
 first|refine SB (W4 hT<|SL ?_)|refine SB (XD hT<|SL ?_)
 refine SB<|WW hI rfl ?_;rw[show VQ "dict_itemiterator" = true by decide];simp only[if_true]
 change u_ (if(Vt dc == Vj)=true then _ else _) _ _ s
 rw[if_neg<|show ¬ ((Vt dc == Vj)=true) from Ve]
 refine SB<|SL<|SB<|Wp h1 h2 ?_;rw[if_neg<|show ¬ _ by simp];refine SB<|SL<|SB<|W2 h1 h2 ?_;rw[if_neg<|show ¬ _ by simp];refine SL ?_;simp only[show ¬ ((i:Int)<0) by omega,if_false,Xh,Vm ag];refine SB ?_
 first|refine SB (W4 hT<|SL ?_)|refine SB (XD hT<|SL ?_)
 refine SB (wpAny_isOneOf_itemiter hT<|show u_ (YH (.ref it) 3 (rawInt<|(i:Int)+1) >>= _) _ _ s from SB (XC hI rfl (by simp) ?_))
 let jh:IsItemIter (q0a (WX (·.setIfInBounds 3 (rawInt<|(i:Int)+1)))) it dc (i+1) es.size ep ok ov:=by
  change(q0a _).get? it=_
  rw[VS _ hI<|Xx<|W6 rfl _];simp[WX,rawInt]
 let kp:∀(b:t_)(o:Obj),b≠it->N_ 0=a_ o->(q0a (WX (·.setIfInBounds 3 (rawInt<|(i:Int)+1)))).get? b=a_ o:=λb o hb e=>by rw[(Vu ..).2 b hb];show e
 let sz:(q0a (WX (·.setIfInBounds 3 (rawInt<|(i:Int)+1)))).objs.size=(e_ s):=(Vu ..).1;generalize s.heap.update it (WX (·.setIfInBounds 3 (rawInt<|(i:Int)+1)))=hA at jh kp sz;let kr:({s with heap:=hA}:td).TypeIs (.ref it) "dict_itemiterator" := iV jh;refine SB<|VJ<|SB<|wpAny_isOneOf_itemiter kr<|SB<|wpAny_isOneOf_itemiter kr ?_
 change u_ (Builtin.Dict_items.pairFromOwner (.ref it) 6 es[i].key es[i].val) _ _ _
 unfold Builtin.Dict_items.pairFromOwner;simp only[newTuple];refine SB (Vk ?_<|by size_fits);let ph:IsItemIter (hA.push {cls:=.type "tuple",data:=.seq #[es[i].key,es[i].val]}) it dc (i+1) es.size ep ok ov:=Zn jh;let gt:(hA.push {cls:=.type "tuple",data:=.seq #[es[i].key,es[i].val]}).get? hA.objs.size=a_ {cls:=.type "tuple",data:=.seq #[es[i].key,es[i].val]}:=Za 0;let zt:∀(b:t_)(o:Obj),b≠it->N_ 0=a_ o->(hA.push {cls:=.type "tuple",data:=.seq #[es[i].key,es[i].val]}).get? b=a_ o:=λb o hb e=>Zn<|kp b o hb e;rw[sz]at gt;let ne:(e_ s)≠it:=WL<|U8 hI
 change u_ _ _ _ {s with heap:=hA.push {cls:=.type "tuple",data:=.seq #[es[i].key,es[i].val]} }
 generalize hA.push {cls:=.type "tuple",data:=.seq #[es[i].key,es[i].val]}=hB at ph gt zt;let eA:(Vt ({s with heap:=hA}:td).heap.objs.size)=.ref (e_ s):=by rw[<-sz]
 simp only[eA];unfold Builtin.Dict_items.ownedTupleIsFree;refine SB<|SB<|YA (s:={s with heap:=hB}) ph rfl (x:=.none) rfl (SL ?_);simp only[if_true];refine SB<|YA (s:={s with heap:=hB}) ph rfl (x:=ok) rfl (SB<|YA (s:={s with heap:=hB}) ph rfl (x:=ov) rfl ?_);let nk:∀{h1:w_}{fs:YV 0}{j:Nat}{x:s_}{α:Type}{f:Unit->Sem α}{R:α->td->Prop}{E':f_ 0},h1.get? it=a_ {cls:=.type "dict_itemiterator",data:=.fields fs}->j<fs.size->
   (∀h2:w_,h2.get? it=a_ {cls:=.type "dict_itemiterator",data:=.fields (fs.setIfInBounds j x)}->(∀(b:t_),b≠it->h2.get? b=h1.get? b)->m_ prog w A.in1 (f ()) R E' {s with heap:=h2})->
   m_ prog w A.in1 (YH (.ref it) j x >>= f) R E' {s with heap:=h1}:=λ{h1 fs j x α f R E'} g hj k=>by
  refine SB<|XC (s:={s with heap:=h1}) g rfl hj ?_;refine k _ ?_ λb hb=>(Vu ..).2 b hb;rw[VS _ g<|Xx<|W6 rfl _];simp[WX]
 refine nk ph (by simp) λh3 g3 s3=>?_;refine nk g3 (by simp) λh4 g4 s4=>?_;refine nk g4 (by simp) λh5 g5 s5=>?_;refine nk g5 (by simp) λh6 g6 s6=>?_;refine SB (wpAny_letGo<|SL<|SL ⟨_,rfl,SL<|q h6 (by rw[<-sz];change h6.get? it=_;rw[g6];simp) ?_ λb o hb e=>?_⟩)
 ·rw[s6 _ ne,s5 _ ne,s4 _ ne,s3 _ ne];show gt
 ·rw[s6 _ hb,s5 _ hb,s4 _ hb,s3 _ hb];show zt b o hb e
def Fe{es:Array Xs}{ok:s_}{Q:C_ s_->td->Prop}(hh:A.handled=b_)(hI:IsItemIter s.heap it dc i es.size ep ok ov)(h1:Zt 0=a_ oc)(h2:oc.data=.dict es ep)(j6:es.size<=i)(q:∀h',q0k 0->Q b_ {s with heap:=h'}):r_ (pyNext<|.ref it) Q E s:=by
 let hT:=iV hI;unfold pyNext;refine SB<|WV<|Vy (name:=Vh "__next__") hT V4<|Vz V4 hT F.entry_dict_itemiterator_next ?_<|F.args_dict_itemiterator_next_1 _;refine SB<|SL<|SB<|SB ?_
 first|refine SB (W4 hT<|SL ?_)|refine SB (XD hT<|SL ?_)
 refine SB<|WW hI rfl ?_;rw[show VQ "dict_itemiterator" = true by decide];simp only[if_true]
 change u_ (if(Vt dc == Vj)=true then _ else _) _ _ s
 rw[if_neg<|show ¬ ((Vt dc == Vj)=true) from Ve]
 refine SB<|SL<|SB<|Wp h1 h2 ?_;rw[if_neg<|show ¬ _ by simp];refine SB<|SL<|SB<|W2 h1 h2 ?_;rw[if_neg<|show ¬ _ by simp];refine SL ?_;simp only[show ¬ ((i:Int)<0) by omega,if_false,Xh,VM j6];refine SB ?_
 first|refine SB (W4 hT<|SL ?_)|refine SB (XD hT<|SL ?_)
 refine(show u_ (YH (.ref it) 2 .none >>= _) _ _ s from SB (XC hI rfl (by simp) ?_))
 refine(show u_ (newExc (.type "StopIteration") [] >>= _) _ _ _ from SB ?_);simp only[newExc,newTuple]
 refine SB (Vk (SB (m:=WY _ _)<|W9 (a:=Vj) (by first|rfl|(simp only[WY];rfl))<|Vk ?_<|by size_fits)<|by size_fits)
 simp only[raiseNew];refine SB<|wpAny_handled ?_;rw[show A.in1.handled=b_ from hh]
 refine SB<|SL<|wpAny_throw ?_;refine SB<|Wl (T:="StopIteration") (b:=true) ⟨_,Za 0,rfl⟩ isSubtype_stop ?_;show SL<|q _<|((Vu ..).extBut.push _).push _
def vF:entryFor table "dict_itemiterator.__iter__" = a_ Builtin.«dict_keyiterator.__iter__»:=entryFor_alias (id:="dict_itemiterator.__iter__") (id':="dict_keyiterator.__iter__") (by first|rfl|decide +kernel) (by first|rfl|decide +kernel) (by decide +kernel) (by rfl)
def CP{ok:s_}(hI:IsItemIter s.heap it dc i n ep ok ov)(q:Q (.ref it) s):r_ (pyIter<|.ref it) Q E s:=by
 let hT:=iV hI;refine XT hT F.slot_dict_itemiterator_iter (Vz F.slot_dict_itemiterator_iter hT vF (show u_ (Builtin.«dict_keyiterator.__iter__» _) _ _ _ from ?_) (F.args_dict_itemiterator_iter_1 _))
 unfold Builtin.«dict_keyiterator.__iter__»;refine SB<|SL ?_;show SL ⟨_,rfl,"dict_itemiterator",_,hT,V4.lookup,q⟩
def Bo(dc:t_)(hd:(dc == We)=false):MeetsIn prog w (Builtin.«dict.items» ⟨[.ref dc],[]⟩) (λ_ R s=>s.TypeIs (.ref dc) "dict" /\
   R (.ok (.ret (.ref (e_ s)))) {s with heap:=s.heap.push {cls:=.type "dict_items",data:=.fields #[.ref dc]} }):=
 .of_wp λA R s ⟨hT,h⟩=>by
  refine SB ?_;unfold Builtin.Dict.noArgs;refine SB (Xw hT<|show u_ (pure dc) _ _ s from SL (show u_ (W3 dc >>= _) _ _ s from ?_))
  unfold W3;rw[if_neg (show ¬ _ from by rw[hd];decide)]
  refine SB<|SL<|SB<|Vk<|SL ⟨_,rfl,h⟩
def GT(xs:Zb 0)(j:Nat):∀(fuel lo hi:Nat),hi-lo<=fuel->lo<=hi->hi<=xs.size->(∀i(h:i<xs.size),i<lo->xs[i]<j)->(∀i(h:i<xs.size),hi<=i->¬ xs[i]<j)->
  (xs.toList.Pairwise (· < ·))->SetTable.below.go xs j fuel lo hi<=xs.size/\(∀i(h:i<xs.size),(xs[i]<j↔i<SetTable.below.go xs j fuel lo hi)):=by
 intro fuel
 induction fuel with
 |zero=>
  intro lo hi hf hl hs ha hb _;have:lo=hi:=⋯;subst this
  change lo<=_/\∀i(h:i<xs.size),(xs[i]<j↔i<lo)
  refine⟨hs,λi h=>⟨λh1=>Decidable.byContradiction λh2=>hb i h ⋯ h1,λh1=>ha i h h1⟩⟩
 |succ fuel ih=>
  intro lo hi hf hl hs ha hb hp
  change(if lo<hi then _ else lo)<=_/\∀i(h:i<xs.size),(xs[i]<j↔i<(if lo<hi then _ else lo))
  by_cases h:lo<hi
  ·simp only[if_pos h];let hm:(lo+hi)/2<xs.size:=⋯;let mono:∀a b(ha:a<xs.size)(hb:b<xs.size),a<b->xs[a]<xs[b]:=λa b h1 h2 h3=>by
    have:=(V8.mp hp) a b (l_ h1) (l_ h2) h3
    simpa using this
   change(if xs.getD ((lo+hi)/2) j<j then _ else _)<=_/\∀i(h:i<xs.size),(xs[i]<j↔i<(if xs.getD ((lo+hi)/2) j<j then _ else _))
   let e:xs.getD ((lo+hi)/2) j=xs[(lo+hi)/2]:=by simp[YL,hm]
   rw[e];by_cases hc:xs[(lo+hi)/2]<j
   ·simp only[if_pos hc];show ih _ _ ⋯ ⋯ hs (λi h1 h2=>by
     by_cases h3:i=(lo+hi)/2
     ·subst h3;show hc
     ·have:=mono i _ h1 hm ⋯;omega) hb hp
   ·simp only[if_neg hc];show ih _ _ ⋯ ⋯ ⋯ ha (λi h1 h2=>by
     by_cases h3:i=(lo+hi)/2
     ·subst h3;show hc
     ·have:=mono _ i hm h1 ⋯;omega) hp
  ·simp only[if_neg h];have:lo=hi:=⋯;subst this;show⟨hs,λi h=>⟨λh1=>Decidable.byContradiction λh2=>hb i h ⋯ h1,λh1=>ha i h h1⟩⟩
def vG{xs:Zb 0}(hp:xs.toList.Pairwise (· < ·))(j:Nat):XE xs j<=xs.size/\(∀i(h:i<xs.size),(xs[i]<j↔i<XE xs j)):=GT xs j xs.size 0 xs.size ⋯ ⋯ ⋯ (λi h h1=>by omega) (λi h h1=>by omega) hp
variable{j:Nat}
def yB{xs:Zb 0}(hp:xs.toList.Pairwise (· < ·))(hj:xs[XE xs j]?≠a_ j):(SetTable.insertAt xs (XE xs j) j).toList.Pairwise (· < ·):=by
 let⟨h1,h2⟩:=vG hp j;generalize XE xs j=p at h1 h2 hj;let e:(SetTable.insertAt xs p j).toList=xs.toList.take p++[j]++xs.toList.drop p:=by simp[SetTable.insertAt,Xm]
 rw[e];rw[Yp,List.pairwise_append,List.singleton_append,Vp];refine⟨hp.sublist<|List.take_sublist ..,⟨λa ha=>?_,hp.sublist<|List.drop_sublist ..⟩,λa ha b hb=>?_⟩
 ·let⟨i,hi,rfl⟩:=List.mem_iff_getElem.mp ha;rw[List.getElem_drop];let ag:p+i<xs.size:=by simp at hi;omega
  let hn:=mt (h2 (p+i) ag).mp ⋯;let f6:xs[p+i]≠j:=by
   intro he;by_cases hi0:i=0
   ·subst hi0;apply hj;rw[Vm ⋯];show congrArg a_ he
   ·have:=(V8.mp hp) p (p+i) (by simp;omega) (l_ ag) ⋯
    let h3:=mt (h2 p ⋯).mp ⋯;simp at this;omega
  simp;omega
 ·let⟨i,hi,rfl⟩:=List.mem_iff_getElem.mp ha;rw[List.getElem_take];let ak:i<p:=by simp at hi;omega
  let ag:i<xs.size:=⋯;let hx:=(h2 i ag).mpr ak;rcases U5.mp hb with rfl|hb
  ·simpa using hx
  ·let⟨k,hk,rfl⟩:=List.mem_iff_getElem.mp hb;rw[List.getElem_drop];let yw:p+k<xs.size:=by simp at hk;omega
   have:=(V8.mp hp) i (p+k) (l_ ag) (l_ yw) ⋯
   simpa using this
structure TOk(bt:Bool)(t:X5):Prop where
 dum:t.dummies=#[]
 led:bt=false->t.led=true
 ris:t.plain=true->t.place.toList.Pairwise (· < ·)
variable{bt:Bool}
def TOk.standIn{t:X5}(h:TOk bt t)(n:Nat):TOk bt (t.standIn n):=⟨rfl,h.led,λe=>by cases e⟩
def Ak{t:X5}(h:t.dummies=#[])(j:Nat):t.slot j≠.dummy:=by
 unfold SetTable.slot;simp only[h,show SetTable.has #[] j=false from by simp[SetTable.has]]
 split <;> simp
def CQ{t:X5}(h:t.slot j=.empty):t.place[XE t.place j]?≠a_ j:=by unfold SetTable.slot at h;intro e;simp[e]at h
def Ff(t:X5)(p:SetTable.Probe):(t.advance p).dummy=p.dummy:=by
 unfold SetTable.advance;split
 ·rfl
 ·rfl
set_option tactic.hygienic true in
def GU{t:X5}(hd:t.dummies=#[])(f:Nat->Int)(h:Int):∀(fuel:Nat)(p:SetTable.Probe),p.dummy=b_->∀j d,SetTable.probe.go t f h fuel p=a_ (.empty j d)->d=b_/\t.slot j=.empty:=by
 intro fuel
 induction fuel with
 |zero=>intro p _ j d e;cases e
 |succ fuel ih=>
  intro p hp j d e;unfold SetTable.probe.go at e;split at e
  ·rename_i he;cases e
   show⟨hp,he⟩
  ·rename_i he;show(Ak hd _ he).elim
  ·split at e
   ·cases e
   ·show ih _ (by rw[Ff];show hp) j d e
set_option tactic.hygienic true in
def Fg{t:X5}(hd:t.dummies=#[]){h:Int}(e:t.freeSlot h=a_ (j,b)):t.slot j=.empty:=by
 unfold SetTable.freeSlot at e;split at e
 ·rename_i j' d he;let⟨h1,h2⟩:=GU hd _ _ _ _ rfl _ _ he;subst h1;cases e
  show h2
 ·cases e
def TOk.put{t:X5}(h:TOk bt t)(he:t.slot j=.empty):TOk bt (t.put j).1:=by refine⟨?_,h.led,λe=>yB (h.ris e)<|CQ he⟩;simp[SetTable.put,h.dum,SetTable.has]
def TOk.orSt{t:X5}(h:TOk bt t)(n:Nat):TOk bt (t.orStandIn n):=by
 unfold SetTable.orStandIn;split
 ·show h
 ·show h.standIn n
set_option tactic.hygienic true in
def TOk.lay{t:X5}(h:TOk bt t)(es:Array (Int×s_))(k:Int)(x:s_):TOk bt (layNew t es k x).2.1:=by
 unfold layNew;split
 ·rename_i slot wd e;show(h.put<|Fg h.dum e).orSt _
 ·show h.standIn _
def Fh(f:Nat->C_ Nat):∀n,((List.filterMap (λj=>Option.map (λx=>(j,x))<|f j)<|Vi n).map (·.1)).Pairwise (· < ·):=by
 intro n;let h1:(Vi n).Pairwise (· < ·):=List.pairwise_lt_range;let h2:((List.filterMap (λj=>Option.map (λx=>(j,x))<|f j)<|Vi n).map (·.1)).Sublist (Vi n):=by
  induction Vi n with
  |nil=>simp
  |cons a l ih=>
   simp only[V1];cases f a with
   |none=>exact ih.cons _
   |some x=>exact ih.cons₂ _
 show h1.sublist h2
set_option tactic.hygienic true in
def TOk.relay{t:X5}(h:TOk bt t)(es:Array (Int×s_))(n:Nat):TOk bt (relayAll t es n).2.1:=by
 unfold relayAll;split
 ·rename_i t' order e;let T9:TOk bt t':=by
   unfold SetTable.relaid SetTable.laid at e;simp only[Option.bind_eq_bind]at e;cases ho:SetTable.layClean (SetTable.sizeAbove n-1) (Array.map (λx=>x.fst) es) with
   |none=>rw[ho]at e;cases e
   |some owner=>rw[ho]at e;let e2:=Vq e;let e3:_=t':=congrArg Prod.fst e2;subst e3;refine⟨rfl,h.led,λ_=>?_⟩;show Fh (λj=>owner.getD j b_) _
  dsimp only;split
  ·show T9
  ·show h.standIn _
 ·show h.standIn _
abbrev vH(e:Int×s_):Int:=match e.2 with|.int k _=>k|_=>0
abbrev cM(w:x_):Bool:=w.params.followText "set-order"
abbrev iW(w:x_)(h:w_)(a:t_)(ks:Z8 0):Prop:=∃o es ep t,h.get? a=a_ o/\o.ExactSet/\o.data=.set es ep t/\TOk (cM w) t/\ZW 0=true/\
 (∀e∈es.toList,∃k tk,e=(hashInt k,Wg k tk))/\(es.toList.map vH).Perm ks
variable{es':Array (Int×s_)}
def DZ{h:w_}{o:Obj}{es:Array (Int×s_)}{t t':X5}(ho:h.get? a=a_ o)(hd:o.data=.set es ep t):
  (h.update a<|Obj.putSet es' t').get? a=a_ { o with data:=.set es' (ep+1) t'}:=by
 let⟨c,d,da,sl⟩:=o;cases hd
 rw[VS _ ho<|by rfl];rfl
def GV{es:Array (Int×s_)}(h:∀e∈es.toList,∃k tk,e=(hashInt k,Wg k tk)):ElemsOf (intKind prog w) es.toList:=λe he=>by let⟨k,tk,rfl⟩:=h e he;show⟨⟨k,intKind_is prog w k tk,rfl⟩,rfl⟩
def Mz{ks:Z8 0}{k:Int}{tk:Tok}{Q:j_ Bool}(hS:iW w s.heap a ks)(hb:ks.length+1<scanBound)
  (h:∀b h',Wy a s.heap h'->iW w h' a (if k∈ks then ks else ks++[k])->Q b {s with heap:=h'}):r_ (setAddHashed a (.int k tk)<|hashInt k) Q E s:=by
 let⟨o,es,ep,t,ho,hx,hd,ht,hf,nu,hp⟩:=hS;let hlen:es.size=ks.length:=by have:=hp.length_eq;simpa using this
 let hE:ElemsOf (intKind prog w) es.toList:=GV nu;unfold setAddHashed;refine VJ ?_;rw[setAddHashedIn.eq_def];refine SB<|XW ho hd hf ?_;dsimp only;rw[byScan_of (prog:=prog) (w:=w) (knd:=intKind prog w) (show(Wg k tk).scannable=true from rfl) ⋯ hE,YS 0]
 refine SB ?_;unfold setAddByScan;refine SB<|XN<|SB<|wpAny_setScan_of (knd:=intKind prog w) (intKind_is prog w k tk) ho hd hf hE ?_;cases hi:List.findIdx? (λe=>(intKind prog w).is k e.snd) es.toList with
 |some j=>
  let hm:k∈ks:=by let⟨hj,h1,_⟩:=List.findIdx?_eq_some_iff_getElem.mp hi;let cy:=V5 hj;let⟨k',oq,e⟩:=nu _ cy;rw[e]at h1;have:k=k':=(intKind prog w).inj _ _ _ h1<|intKind_is prog w k' oq;subst this;refine hp.mem_iff.mp<|Vl.mpr ⟨_,cy,?_⟩;rw[e];rfl
  refine SL<|SL<|h _ s.heap (Heap.SameBut.refl ..) ?_;rw[if_pos hm];show⟨o,es,ep,t,ho,hx,hd,ht,hf,nu,hp⟩
 |none=>
  let hm:k∉ks:=by intro hk;let⟨e,he,UH⟩:=Vl.mp<|hp.mem_iff.mpr hk;let⟨k',oq,rfl⟩:=nu _ he;let h1:=List.findIdx?_eq_none_iff.mp hi _ he;let h2:k'=k:=UH;subst h2;rw[intKind_is prog w k' oq]at h1;cases h1
  let pe:=layNew_perm t es (hashInt k)<|.int k tk;let fi:=layNew_fits t es (hashInt k)<|.int k tk;let tl:=ht.lay es (hashInt k)<|.int k tk;generalize layNew t es (hashInt k) (.int k tk)=L at pe fi tl;let⟨cu,t1,wd,v9⟩:=L;dsimp only at pe fi tl⊢;let hsz:cu.size<scanBound:=by have:=pe.length_eq;simp at this;omega
  let fin:∀h' es' ie t',Wy a s.heap h'->h'.get? a=a_ { o with data:=.set es' ie t'}->es'.toList.Perm cu.toList->TOk (cM w) t'->t'.fits es'.size=true->Q true {s with heap:=h'}:=λh' es' ie t' h1 h2 h3 h4 h5=>by
   let p2:es'.toList.Perm (es.toList++[(hashInt k,.int k tk)]):=h3.trans<|l_ pe;refine h _ _ h1 ?_;rw[if_neg hm];refine⟨_,_,_,_,h2,⟨hx.1,hx.2.1,hx.2.2⟩,rfl,h4,h5,λe he=>?_,?_⟩
   ·rcases Vx.mp (p2.mem_iff.mp he) with h6|h6
    ·show nu e h6
    ·show⟨k,tk,Va.mp h6⟩
   ·refine(p2.map vH).trans ?_;rw[VP];show hp.append<|XB _
  refine SB ?_;refine Wz (Q:=λ_ s'=>s'=s) ?_ (λ_ s' e=>?_)<|λ_ _ e=>e
  ·cases v9
   ·show SL rfl
   ·show XN rfl
  subst e;let Uz:∀{f:Unit->Sem (C_ Bool)}{R:C_ Bool->td->Prop},r_ (f ()) R E { s' with heap:=s'.heap.update a (Obj.putSet cu t1)}->r_ (storeSet a cu t1 >>= f) R E s':=λhq=>SB<|wpAny_storeSet_of ho hd hq<|fits_of_scanBound hsz;let g1:=DZ (es':=cu) (t':=t1) ho hd;let sb:=Vu s'.heap a<|Obj.putSet cu t1;let nk:∀{m:Sem Bool},m=pure true->∀{f:Bool->Sem (C_ Bool)}{R:C_ Bool->td->Prop},r_ (f true) R E s'->r_ (m >>= f) R E s':=λe _ _ hq=>by subst e;show SB<|SL hq
  by_cases bf:t1.plain=true;rw[if_pos bf];refine nk (hashByValue_scannable 8<|show(Wg k tk).scannable=true from rfl) ?_
  rotate_left
  rw[if_neg bf];refine nk rfl ?_
  all_goals
   rw[YS 0];refine Uz ?_;by_cases hc:(!wd&&t1.tooFull)=true
   ·rw[if_pos hc];let yt:=relayAll_perm t1 cu<|YO cu.size;let RM:=relayAll_fits t1 cu<|YO cu.size;let tr:=tl.relay cu<|YO cu.size;let hl:(relayAll t1 cu<|YO cu.size).fst.size=cu.size:=by have:=yt.length_eq;simpa using this
    generalize relayAll t1 cu (YO cu.size)=L at yt RM tr hl;let⟨es2,t2,g2⟩:=L;refine SB<|Wz (Q:=λ_ s2=>s2={ s' with heap:=s'.heap.update a (Obj.putSet cu t1)}) ?_ (λ_ s2 e2=>?_) (λ_ _ e=>e)
    ·cases g2
     ·show SL rfl
     ·show XN rfl
    ·subst e2;refine SB (wpAny_storeSet_of (s:={ s' with heap:=s'.heap.update a (Obj.putSet cu t1)}) g1 rfl ?_ (by rw[hl];show fits_of_scanBound hsz));show SL<|SL<|fin _ _ _ _ (sb.trans<|Vu _ _ _) (DZ (h:=s'.heap.update a<|Obj.putSet cu t1) (o:={ o with data:=.set cu (ep+1) t1}) g1 rfl) yt tr RM
   ·rw[if_neg hc];show SL<|SL<|fin _ _ _ _ sb g1 (XB _) tl fi
def iW.kept{h:w_}{ks:Z8 0}(H:iW w h a ks)(k:∀o,h.get? a=a_ o->h'.get? a=a_ o):iW w h' a ks:=by let⟨o,es,ep,t,ho,r⟩:=H;show⟨o,es,ep,t,k o ho,r⟩
def step_eq(ks:Z8 0)(k:Int):(if k∈ks then ks else ks++[k])=step_dedup ks k:=by
 unfold step_dedup;have:(ks.any λx=>x == k)=true↔k∈ks:=by simp
 by_cases h:k∈ks
 ·rw[if_pos h,if_pos<|this.mpr h]
 ·rw[if_neg h,if_neg<|mt this.mp h]
variable{G:Array GenState->Array GenState->Prop}
def GW{P:Nat->s_->Prop}{St:j_ Nat}(W:WalksS prog w A.in1 I fp wr G n P St)(S:t_)(lu:S∉fp)(val:Nat->Int)(xg:∀i v,P i v->∃t,v=Wg (val i) t)(hb:n+1<scanBound):∀(k i:Nat)(s:td),n-i=k->i<=n->St i s->iW w s.heap S (firstMet val i)->
   (∀s',Moved (S::wr) G s s'->iW w s'.heap S (firstMet val n)->R (.ok<|.ret .none) s')->codeAny (Z4 0) A (.builtin "set.update.loop" ⟨[.ref S,.ref I],[]⟩) R s:=by
 let RL:S∉wr:=λh=>lu<|W.sub S h;let jj:∀b∈wr,b∈S::wr:=λb hb=>U4 S hb;intro k
 induction k with
 |zero=>
  intro i s hk hi cg hS hR;have:i=n:=⋯;subst this;refine Xk PyProof.Rows.F.entry_set_update_loop ?_;rw[WK Xf];refine(show u_ (pyNext (.ref I) >>= _) _ _ s from SB (W.done s _ _ cg λs' hm=>?_))
  show SL<|hR s' (hm.mono jj)<|hS.kept λo ho=>hm.heap S o RL ho
 |succ k ih=>
  intro i s hk hi cg hS hR;let ag:i<n:=⋯;refine Xk PyProof.Rows.F.entry_set_update_loop ?_;rw[WK Xf];refine(show u_ (pyNext (.ref I) >>= _) _ _ s from SB (W.item i s _ _ ag cg λv s' hP i6 hm=>?_))
  let⟨t,rfl⟩:=xg i v hP;let jy:iW w s'.heap S (firstMet val i):=hS.kept λo ho=>hm.heap S o RL ho;refine(show u_ (holding [Wg (val i) t] (setAdd S<|.int (val i) t) >>= _) _ _ s' from SB (VJ ?_))
  unfold setAdd;refine VJ<|SB<|(intKind prog w).pyHash (intKind_is prog w (val i) t) ?_;let hl:=firstMet_length_le val i;refine Mz (s:={ s' with toks:=s'.toks+1}) jy ⋯ λb h' zc uh=>?_;rw[step_eq,<-firstMet_succ]at uh;refine SL ⟨X4 Xf _,ih (i+1) _ ⋯ ag (W.frame (i+1) s' h' (s'.toks+1) i6 (Yz _) λb hb o e=>?_) uh λdk yh yx=>hR dk ?_ yx⟩
  ·rw[zc.2 b λh=>lu<|h▸hb];show e
  ·refine Moved.trans W.gtrans (Moved.then_heap (hm.mono jj) (Yz _) λb o hb e=>?_) yh;rw[zc.2 b λh=>hb<|h▸UV];show e
variable{Q₁:f_ 0}
def code_set_new(x:s_)(q:Q₁ (.ref<|e_ s) {s with heap:=s.heap.push {cls:=.type "set",data:=.set #[] 0 (Wm 0 0 !cM w)} }):
  codeAny (Z4 0) A (.call (.builtin "set.__new__") ⟨[.type "set",x],[]⟩) (wants Q₁ E) s:=by
 refine codeAny_of_tree ?_;refine SB<|W9 (F.newCall_set_1 x)<|SL ⟨X4 F.plain_set_new _,Xk F.entry_set_new ?_⟩;rw[WK F.plain_set_new];unfold Builtin.«set.__new__»;refine SB ?_;unfold Builtin.Frozenset.newClass;refine(show u_ (isType (.type "set") >>= _) _ _ s from SB (SL ?_))
 rw[ZD 0];refine SB<|W9 sub_set_self ?_;rw[ZD 0];refine SL<|SB ?_;unfold newSet setsByText;refine SB<|SB<|Yx<|SL ?_;show Vk<|SL q
def Fi(hh:A.handled=b_)(hl:s.heap.IsList l items)(hi:IntsAre items.toList ns)(hb:items.size+1<scanBound)(h:∀h' tk,iW w h' (e_ s) (firstMet (λi=>ns.getD i 0) items.size)->(∀b o,N_ 0=a_ o->Ze 0=a_ o)->Q (.ref<|e_ s) {s with heap:=h',toks:=tk}):
  r_ (call (.type "set") [.ref l]) Q E s:=by
 let⟨c,tl,xr⟩:=YD.mro;let dt:=YD.made;let jj:=YD.sub;refine wpAny_call (codeAny_of_tree<|show u_ _ _ _ _ from SL ⟨Code.quiet_builtin _<|by simp,Xk F.entry_type_call ?_⟩)
 rw[show A.under (Code.builtin "type.__call__" ⟨WO "set" :: [Vt l],[]⟩)=A.in1 from Around.under_plain (weight_type_call_type "set" [Vt l] []) rfl]
 unfold Builtin.«type.__call__»;dsimp only;let h1:=YD.notType;let h2:=YD.canCreate;refine Ww (show decide _=false from rfl) ?_
 refine Ww (show decide _=false from rfl) ?_
 refine SB<|W9 (F.typeCall_set_1<|Vt l) ?_;refine SB<|W9 xr ?_;refine Ww (show decide _=false from rfl) ?_
 refine SB<|W9 dt ?_;refine SB<|SL ?_;refine SB<|VJ<|wpAny_call<|codeAny_mono (code_set_new (E:=E) (Q₁:=λobj s₁=>obj=.ref (e_ s)/\s₁={s with heap:=s.heap.push {cls:=.type "set",data:=.set #[] 0 (Wm 0 0 !cM w)} }) (Vt l) ⟨rfl,rfl⟩) λr s₁ hr=>?_;cases r with
 |error e=>exact hr
 |ok fl=>
 cases fl with
 |next=>exact hr.elim
 |brk=>exact hr.elim
 |cont=>exact hr.elim
 |ret obj=>
  let⟨rfl,rfl⟩:=hr;let hT:({s with heap:=s.heap.push {cls:=.type "set",data:=.set #[] 0 (Wm 0 0 !cM w)} }:td).TypeIs (.ref<|e_ s) "set" := ⟨_,Za 0,rfl⟩;refine(show u_ _ _ _ _ from SB (Wl hT jj ?_))
  rw[ZD 0];refine SB<|VJ<|Vy (name:=Vh "__init__") hT YD.init ?_;refine wpAny_call<|codeAny_call_builtin YD.init.plain F.entry_set_init<|check_set_init_1 hT ?_;let ho:(s.heap.push {cls:=.type "set",data:=.set #[] 0 (Wm 0 0 !cM w)}).get? (e_ s)=a_ {cls:=.type "set",data:=.set #[] 0 (Wm 0 0 !cM w)}:=Za 0;let d0:(s.heap.push {cls:=.type "set",data:=.set #[] 0 (Wm 0 0 !cM w)}).IsList l items:=by let⟨o,e,r⟩:=hl;show⟨o,Zn e,r⟩
  let ur:({s with heap:=s.heap.push {cls:=.type "set",data:=.set #[] 0 (Wm 0 0 !cM w)} }:td).TypeIs (.ref l) "list" := by let⟨o,e,r,_⟩:=d0;show⟨o,e,r⟩
  let Tb:iW w (s.heap.push {cls:=.type "set",data:=.set #[] 0 (Wm 0 0 !cM w)}) (e_ s) []:=⟨_,_,_,_,ho,⟨rfl,rfl,rfl⟩,rfl,⟨rfl,λe=>by simp[Wm,e],λ_=>Yo⟩,rfl,λe he=>(by cases he),XB _⟩;unfold Builtin.«set.__init__»;refine SB (show u_ (pure ()) _ _ _ from SL ?_)
  refine(show u_ (typeNameOfCut 200 (Vt<|e_ s) >>= _) _ _ _ from SB ?_)
  unfold typeNameOfCut shownTypeOf;refine SB<|SB<|Xr hT ?_;rw[ZD 0];refine SL (W9 (a:="set") (by rfl) ?_);refine SB (W9 (a:=()) (by rfl) ?_);refine SB<|SL ?_;unfold setUsed;refine SB<|SB<|XW ho rfl rfl<|SL ?_;refine Ww (show decide _=false from by cases cM w <;> rfl) ?_
  refine(show u_ (Builtin.Frozenset.updateFrom "set.__init__" (e_ s) (.ref l) >>= _) _ _ _ from SB ?_)
  unfold Builtin.Frozenset.updateFrom Builtin.Frozenset.isAnySet;refine SB ?_;refine SB<|Wl ur F.sub_list_set ?_;refine Wl ur F.sub_list_frozenset ?_;rw[ZD 0];refine SB<|Xr ur ?_;rw[ZD 0];refine SB<|wpAny_pyIter_list d0 ?_;refine SB<|wpAny_runValue ?_;let ne1:(e_ s)≠(s.heap.push {cls:=.type "set",data:=.set #[] 0 (Wm 0 0 !cM w)}).objs.size:=Vc<|U8 ho;let qu:l<(e_ s):=by let⟨o,e,_⟩:=hl;show U8 e
  let ne2:(e_ s)≠l:=WL qu;let Uk:∀b o,N_ 0=a_ o->(s.heap.push {cls:=.type "set",data:=.set #[] 0 (Wm 0 0 !cM w)}).get? b=a_ o:=λb o e=>Zn e;let hsz:(e_ s)<(s.heap.push {cls:=.type "set",data:=.set #[] 0 (Wm 0 0 !cM w)}).objs.size:=U8 ho;clear hT ur ho;generalize s.heap.push {cls:=.type "set",data:=.set #[] 0 (Wm 0 0 !cM w)}=h0 at*;refine GW (A:=A.in1.in1) (Walks.toS<|Walks.list (A:=A.in1.in1.in1) hh h0.objs.size l (Vc<|YC qu hsz) items) (e_ s) ?_ (λi=>ns.getD i 0) (λi v hv=>hi.int_at i v<|l_ hv) hb items.size 0 _ (Nat.sub_zero _) (Vr _) ⟨⟨_,Za 0,rfl,rfl⟩,?_⟩ (Tb.kept λo e=>Zn e) λs' hm hS=>?_
  ·intro z;rcases U5.mp z with z|z
   ·show ne1 z
   ·show ne2 (Va.mp z)
  ·let⟨o,e,r⟩:=d0;show⟨o,Zn e,r⟩
  ·refine SL (SL<|SL ?_);let e:=Moved.eq_with hm;rw[e];refine h s'.heap s'.toks hS λb o e=>hm.heap b o (λz=>?_)<|Zn<|Uk b o e;rcases U5.mp z with z|z
   ·show Vc (U8 e) z
   ·show Vc (YC (U8 e) hsz) (Va.mp z)
def bC:Slot "set_iterator" (Vh "__next__") "set_iterator.__next__" := Slot.of (owner:="set_iterator") (n:="__next__")
 (by rw[Yk,W1];rfl) (by decide +kernel) (by decide +kernel) (by decide +kernel) (.inl<|by decide +kernel) (by rw[isSubtype_type];rfl) (by decide +kernel)
def qD:Slot "set_iterator" (Vh "__iter__") "set_iterator.__iter__" := Slot.of (owner:="set_iterator") (n:="__iter__")
 (by rw[Yk,W1];rfl) (by decide +kernel) (by decide +kernel) (by decide +kernel) (.inl<|by decide +kernel) (by rw[isSubtype_type];rfl) (by decide +kernel)
def fR:entryFor table "set_iterator.__next__" = a_ Builtin.«set_iterator.__next__»:=entryFor_of_tree (by rfl)
def vI:entryFor table "set.__iter__" = a_ Builtin.«frozenset.__iter__»:=entryFor_alias (id:="set.__iter__") (id':="frozenset.__iter__") (by first|rfl|decide +kernel) (by first|rfl|decide +kernel) (by decide +kernel) (by rfl)
def Bp:Yf (String.ofList ['r','o','t','a','r','e','t','i','_','t','e','s'].reverse) Manifest.owners=a_ Manifest.sig_set_iterator:=by rfl
def iC(a:s_):argsOk "set_iterator.__next__" ⟨[a],[]⟩:=by let e:=signature?_of (id:="set_iterator.__next__") (n:=['_','_','t','x','e','n','_','_']) (o:=['r','o','t','a','r','e','t','i','_','t','e','s']) (by rfl) Bp;unfold argsOk;rw[e];rfl
def oJ{α:Type}:∀{l:B_ α}{i:Nat}(h:i<l.length),(l[i]::l.eraseIdx i).Perm l
 |[],i,h=>by simp at h
 |x::l,0,h=>by simp
 |x::l,i+1,h=>by simp only[List.getElem_cons_succ,List.eraseIdx_cons_succ];show(List.Perm.swap _ _ _).trans (List.Perm.cons _<|oJ<|l_ h)
variable{src:Source}
def wp_choose{Q:j_ Nat}(hn:n≠0)(h:∀i d,i<n->Q i { s with drawn:=d}):wpAny M A (choose src n) Q E s:=λΓ p _=>by unfold choose;unfold Sem.wp;show⟨hn,h _ _<|Nat.mod_lt _<|Nat.pos_of_ne_zero hn⟩
def JK{α:Type}:∀(n:Nat)(xs:B_ α)(s:td)(Q:B_ α->td->Prop),xs.length=n->(∀ys d,ys.Perm xs->Q ys { s with drawn:=d})->wpAny M A (drawOrder n xs) Q E s:=by
 intro n
 induction n with
 |zero=>intro xs s Q hl h;have:xs=[]:=Ya hl;subst this;show SL<|h [] s.drawn<|XB _
 |succ n ih=>
  intro xs s Q hl h;cases xs with
  |nil=>simp at hl
  |cons x l=>
   refine(show u_ (choose Source.order (x::l).length >>= _) _ _ _ from SB (wp_choose (by simp) λi d hi=>?_))
   let e:(x::l)[i]?=a_ (x::l)[i]:=VH hi;rw[e];refine SB (ih _ _ _ (by rw[List.length_eraseIdx_of_lt hi];simp at hl⊢;omega) λys d' hp=>SL<|h _ _ ?_);show(List.Perm.cons _ hp).trans (oJ hi)
def JL{α:Type}(next:Nat->Nat):∀(fuel k:Nat)(left:B_ α)(out:Array α),left.length=fuel->(pickOrder.go next fuel k left out).toList.Perm (out.toList++left):=by
 intro fuel
 induction fuel with
 |zero=>intro k left out hl;have:left=[]:=Ya hl;subst this;simp[pickOrder.go]
 |succ fuel ih=>
  intro k left out hl;let hi:next k%left.length<left.length:=Nat.mod_lt _ ⋯
  change(match left[next k%left.length]? with|some x=>pickOrder.go next fuel (k+1) (left.eraseIdx<|next k%left.length) (out.push x)|none=>out).toList.Perm _
  rw[VH hi];dsimp only;refine(ih _ _ _ (by rw[List.length_eraseIdx_of_lt hi];omega)).trans ?_;rw[Array.toList_push,Yp];show List.Perm.append_left _<|oJ hi
def Fj{α:Type}(next:Nat->Nat)(xs:Array α):(pickOrder next xs).toList.Perm xs.toList:=by have:=JL next xs.size 0 xs.toList #[] (by simp);unfold pickOrder;simpa using this
abbrev jU(w:x_)(a:t_)(ep:Nat)(es:Array (Int×s_)):Array (Int×s_):=if cM w=true then pickOrder (w.params.setOrder a ep) es else es
def kK{es:Array (Int×s_)}:(q0h 0).toList.Perm es.toList:=by
 unfold jU;split
 ·show Fj _ _
 ·show XB _
abbrev slotAt(w:x_)(t:X5)(i:Nat):Nat:=if cM w=true then 0 else if i=0 then 0 else t.place.getD (i-1) 0+1
def MA{es:Array (Int×s_)}{t:X5}(ht:TOk (cM w) t)(hf:ZW 0=true)(gq:cM w=true\/(!t.plain&&decide (es.size>1))=false)(hb:cM w=false):t.place.toList.Pairwise (· < ·):=by
 rcases gq with h|h
 ·rw[hb]at h;cases h
 ·cases hp:t.plain with
  |true=>exact ht.ris hp
  |false=>
   rw[hp]at h;have:es.size<=1:=by simpa using h
   let hs:t.place.size=es.size:=by have:=hf;simp[SetTable.fits]at this;show this.1
   have:t.place.toList.length<=1:=by simp;omega
   match hl:t.place.toList with
   |[]=>exact Yo
   |[x]=>exact X6 _ _
   |x::y::r=>rw[hl]at this;simp at this
def Bq{o:Obj}{es:Array (Int×s_)}{t:X5}{Q:C_ (s_×Nat)->td->Prop}(ho:Y_ 0=a_ o)(hd:o.data=.set es ep t)(ht:TOk (cM w) t)(hf:ZW 0=true)(gq:cM w=true\/(!t.plain&&decide (es.size>1))=false)(hi:i<=es.size)(q:Q ((q0h 0)[i]?.map λe=>(e.2,Zw<|i+1)) s):r_ (setNext a (Zw i) i ep) Q E s:=by
 unfold setNext;refine SB<|XW ho hd hf ?_;unfold setsByText;refine SB<|SB<|Yx<|SL ?_
 change u_ (if cM w=true then _ else _) _ _ _
 by_cases hb:cM w=true
 ·rw[if_pos hb];refine Ww (show decide _=false from by simp) ?_
  unfold setWalk;refine SB<|SB<|XW ho hd hf ?_;unfold setsByText;refine SB<|SB<|Yx<|SL ?_
  change u_ (if cM w=true then _ else _) _ _ _
  rw[if_pos hb];refine SB<|Yx<|SL<|SL ?_;let e1:q0h 0=pickOrder (w.params.setOrder a ep) es:=if_pos hb;let e2:∀j,Zw j=0:=λj=>if_pos hb;rw[e1,e2]at q;rw[e2];show q
 ·let hb':cM w=false:=by simpa using hb
  rw[if_neg hb];let hr:=MA ht hf gq hb';let yo:(!t.plain&&decide (es.size>1))=false:=by
   rcases gq with h|h
   ·show(hb h).elim
   ·show h
  refine Ww (show decide ((!t.plain&&decide (es.size>1))=true)=false from by rw[yo];rfl) ?_
  let xp:=ht.led hb';refine SB (W9 (a:=()) (show(if(!t.led && !es.isEmpty)=true then _ else pure ())=pure () from by rw[xp];rfl) (SL ?_))
  let hs:t.place.size=es.size:=by have:=hf;simp[SetTable.fits]at this;show this.1
  let yf:XE t.place (Zw i)=i:=by
   let⟨h1,h2⟩:=vG hr<|Zw i;generalize hp:XE t.place (Zw i)=p at h1 h2;let mono:∀x y(hx:x<t.place.size)(hy:y<t.place.size),x<y->t.place[x]<t.place[y]:=λx y hx hy pb=>by
    have:=(V8.mp hr) x y (l_ hx) (l_ hy) pb
    simpa using this
   let cu:Zw i=if i=0 then 0 else t.place.getD (i-1) 0+1:=if_neg hb;rw[cu]at h2;by_cases h0:i=0
   ·subst h0;rcases Nat.eq_zero_or_pos p with h|h
    ·show h
    ·have:=(h2 0 ⋯).mpr h;simp at this
   ·rw[if_neg h0]at h2;let si:i-1<t.place.size:=⋯;let eg:t.place.getD (i-1) 0=t.place[i-1]:=by simp[YL,si]
    rw[eg]at h2;let l1:i-1<p:=(h2 (i-1) si).mp ⋯;rcases Nat.lt_or_ge i p with h|h
    ·have:=(h2 i ⋯).mpr h;have:=mono (i-1) i si ⋯ ⋯;omega
    ·omega
  rw[yf];let e1:q0h 0=es:=if_neg hb;rw[e1]at q;by_cases ag:i<es.size
  ·rw[Vm ag]at q⊢;rw[Vm<|show i<t.place.size by omega];let e2:Zw (i+1)=t.place[i]+1:=by have:Zw (i+1)=if i+1=0 then 0 else t.place.getD (i+1-1) 0+1:=if_neg hb;rw[this];simp[YL,show i<t.place.size by omega]
   simpa[e2] using q
  ·rw[VM ⋯]at q⊢;simpa using q
variable{E':f_ 0}{first:s_}
section
variable{o:Obj}{es:Array (Int×s_)}{t:X5}
abbrev siO(a:t_)(first:s_)(i n ep:Nat):Obj:={cls:=.type "set_iterator",data:=.fields #[first,.int i 0,.ref a,.int n 0,.int ep 0]}
def GX(ho:Y_ 0=a_ o)(hx:o.ExactSet)(hd:o.data=.set es ep t)(hf:ZW 0=true)(hz:es.size<=U9)(q1:(cM w=true\/(!t.plain&&decide (es.size>1))=false)->Q (.ref<|e_ s) {s with heap:=s.heap.push (siO a (.int 0 0) 0 es.size ep)})(q2:∀(ys:B_ Nat) d,ys.Perm (Vi es.size)->Q (.ref<|s.heap.objs.size+1) {s with heap:=(s.heap.push {cls:=.type "tuple",data:=.seq (ys.map λi=>Wg (i:Nat) 0).toArray}).push<|siO a (.ref<|e_ s) 0 es.size ep,drawn:=d}):
  r_ (pyIter<|.ref a) Q E s:=by
 let hT:s.TypeIs (.ref a) "set" := ⟨o,ho,hx.1⟩;refine XT hT F.slot_set_iter (Vz F.slot_set_iter hT vI (show u_ (Builtin.«frozenset.__iter__» _) _ _ _ from ?_) (F.args_set_iter_1 _))
 unfold Builtin.«frozenset.__iter__» Builtin.Frozenset.slot0;refine SB<|SB<|SL<|SL ?_;unfold Builtin.Frozenset.sizeOf;refine SB<|SB<|X7 ho hd hf<|SL ?_;unfold setDrawn setsByText;refine SB<|SB<|XW ho hd hf<|SB<|SB<|Yx<|SL<|SL ?_
 change u_ (if(!(cM w)&&(!t.plain&&decide (es.size>1)))=true then _ else _) _ _ _
 by_cases hc:(!(cM w)&&(!t.plain&&decide (es.size>1)))=true
 ·rw[if_pos hc];refine SB (JK _ _ _ _ (by simp) λys d hp=>?_);unfold newTuple newFields;refine SB (Vk ?_ ?_)
  ·refine SB (wpAny_setEpoch_of (o:=o) (Zn ho) hd hf ?_);refine SB<|Vk<|SL ⟨_,rfl,"set_iterator",_,⟨_,Za 0,rfl⟩,bC.lookup,?_⟩;have:=q2 ys d hp;rw[<-Xe s.heap {cls:=.type "tuple",data:=.seq (ys.map λi=>Wg (i:Nat) 0).toArray}]at this;show this
  ·change(List.map (λi=>rawInt ((i:Nat):Int)) ys).toArray.size<=U9
   have:=hp.length_eq;simp at this⊢;omega
 ·rw[if_neg hc];refine SB<|SL ?_;refine SB<|wpAny_setEpoch_of ho hd hf ?_;unfold newFields;refine SB<|Vk<|SL ⟨_,rfl,"set_iterator",_,⟨_,Za 0,rfl⟩,bC.lookup,q1 ?_⟩;simp at hc;cases hb:cM w with
  |true=>exact .inl rfl
  |false=>refine .inr ?_;have:=hc hb;simpa using this
def nJ{h1:w_}{fs:YV 0}{x:s_}{α:Type}{f:Unit->Sem α}{R:α->td->Prop}(g:h1.get? it=a_ {cls:=.type "set_iterator",data:=.fields fs})(hj:j<fs.size)(k:∀h2:w_,h2.get? it=a_ {cls:=.type "set_iterator",data:=.fields (fs.setIfInBounds j x)}->(∀(b:t_),b≠it->h2.get? b=h1.get? b)->Heap.ExtBut it h1 h2->r_ (f ()) R E' {s with heap:=h2}):
  r_ (YH (.ref it) j x >>= f) R E' {s with heap:=h1}:=by
 refine SB<|XC (s:={s with heap:=h1}) g rfl hj ?_;refine k _ ?_ (λb hb=>(Vu ..).2 b hb) (Vu ..).extBut;rw[VS _ g<|Xx<|W6 rfl _];simp[WX]
def Br(hI:s.heap.get? it=a_ (siO a first i n ep)):s.TypeIs (.ref it) "set_iterator" := ⟨_,hI,rfl⟩
def Fk{Q:C_ s_->td->Prop}(hI:s.heap.get? it=a_ (siO a (.int (Zw i) 0) i es.size ep))(ho:Y_ 0=a_ o)(hd:o.data=.set es ep t)(ht:TOk (cM w) t)(hf:ZW 0=true)(gq:cM w=true\/(!t.plain&&decide (es.size>1))=false)(ag:i<es.size)(cj:i<(q0h 0).size)(q:∀h',h'.get? it=a_ (siO a (.int (Zw<|i+1) 0) (i+1) es.size ep)->(∀(b:t_),b≠it->Ze 0=N_ 0)->Q (a_ (q0h 0)[i].2) {s with heap:=h'}):r_ (pyNext<|.ref it) Q E s:=by
 let hT:=Br hI;unfold pyNext;refine SB<|WV<|Vy (name:=Vh "__next__") hT bC<|Vz bC hT fR ?_<|iC _;refine SB<|SL<|SB<|WW hI rfl ?_;refine(show u_ (setEntries a >>= _) _ _ s from SB (X7 ho hd hf ?_))
 refine Ww (show decide _=false from by simp) ?_
 refine(show u_ (setNext a (Zw i) i ep >>= _) _ _ s from SB (Bq ho hd ht hf gq (Xq ag) ?_))
 rw[Vm cj];refine(show u_ (YH (.ref it) 0 _ >>= _) _ _ {s with heap:=s.heap} from nJ hI (by simp[siO]) λh2 g2 k2 _=>?_)
 refine nJ g2 (by simp) λh3 g3 k3 _=>?_;refine SL ⟨_,rfl,SL<|q h3 ?_ λb hb=>by rw[k3 b hb,k2 b hb]⟩;rw[g3];simp[siO,rawInt]
def GY{Q:C_ s_->td->Prop}(hh:A.handled=b_)(hI:s.heap.get? it=a_ (siO a (.int (Zw es.size) 0) es.size es.size ep))(ho:Y_ 0=a_ o)(hd:o.data=.set es ep t)(ht:TOk (cM w) t)(hf:ZW 0=true)
  (gq:cM w=true\/(!t.plain&&decide (es.size>1))=false)
  (q:∀h',q0k 0->Q b_ {s with heap:=h'}):r_ (pyNext<|.ref it) Q E s:=by
 let hT:=Br hI;let hsz:(q0h 0).size=es.size:=by have:=(kK (w:=w) (a:=a) (ep:=ep) (es:=es)).length_eq;simpa using this
 unfold pyNext;refine SB<|WV<|Vy (name:=Vh "__next__") hT bC<|Vz bC hT fR ?_<|iC _;refine SB<|SL<|SB<|WW hI rfl ?_;refine(show u_ (setEntries a >>= _) _ _ s from SB (X7 ho hd hf ?_))
 refine Ww (show decide _=false from by simp) ?_
 refine(show u_ (setNext a (Zw es.size) es.size ep >>= _) _ _ s from SB (Bq ho hd ht hf gq (U1 _) ?_))
 rw[VM ⋯];refine(show u_ (YH (.ref it) 2 _ >>= _) _ _ {s with heap:=s.heap} from nJ hI (by simp[siO]) λh2 g2 k2 x2=>?_)
 refine(show u_ (newExc (.type "StopIteration") [] >>= _) _ _ _ from SB ?_);simp only[newExc,newTuple]
 refine SB (Vk (SB (m:=WY _ _)<|W9 (a:=Vj) (by first|rfl|(simp only[WY];rfl))<|Vk ?_<|by size_fits)<|by size_fits)
 simp only[raiseNew];refine SB<|wpAny_handled ?_;rw[show A.in1.handled=b_ from hh]
 refine SB<|SL<|wpAny_throw ?_;refine SB<|Wl (T:="StopIteration") (b:=true) ⟨_,Za 0,rfl⟩ isSubtype_stop ?_;show SL<|q _<|(x2.push _).push _
abbrev yC(ys:B_ Nat):Obj:={cls:=.type "tuple",data:=.seq (ys.map λi=>Wg (i:Nat) 0).toArray}
def Fm{tp p:Nat}{e:Int×s_}{ys:B_ Nat}{Q:C_ s_->td->Prop}(hI:s.heap.get? it=a_ (siO a (.ref tp) i es.size ep))(xc:s.heap.get? tp=a_ (yC ys))(ho:Y_ 0=a_ o)(hd:o.data=.set es ep t)(hf:ZW 0=true)(hp:ys[i]?=a_ p)(he:es[p]?=a_ e)(q:∀h',h'.get? it=a_ (siO a (.ref tp) (i+1) es.size ep)->(∀(b:t_),b≠it->Ze 0=N_ 0)->Q (a_ e.2) {s with heap:=h'}):r_ (pyNext<|.ref it) Q E s:=by
 let hT:=Br hI;unfold pyNext;refine SB<|WV<|Vy (name:=Vh "__next__") hT bC<|Vz bC hT fR ?_<|iC _;refine SB<|SL<|SB<|WW hI rfl ?_;refine(show u_ (setEntries a >>= _) _ _ s from SB (X7 ho hd hf ?_))
 refine Ww (show decide _=false from by simp) ?_
 unfold seqItems?;refine(show u_ ((load tp >>= _) >>= _) _ _ s from SB (SB<|wpAny_load xc<|show u_ (pure<|a_ _) _ _ s from SL ?_))
 let e1:(ys.map λi=>Wg (i:Nat) 0).toArray[((i:Nat):Int).toNat]?=a_ (.int p 0):=by simp[hp]
 refine(show u_ (match(ys.map λi=>Wg (i:Nat) 0).toArray[((i:Nat):Int).toNat]? with|some (Wg place tok)=>_|some val=>_|none=>_) _ _ s from ?_)
 rw[e1];unfold setNextDrawn;refine SB<|SB<|XW ho hd hf ?_;refine Ww (show decide _=false from by simp) ?_
 refine(show u_ (match es[p]? with|some (fst,x)=>pure x|x=>_) _ _ s from ?_)
 rw[he];refine SL ?_;refine(show u_ (YH (.ref it) 1 _ >>= _) _ _ {s with heap:=s.heap} from nJ hI (by simp[siO]) λh2 g2 k2 _=>?_)
 refine SL ⟨_,rfl,SL<|q h2 ?_ k2⟩;rw[g2];simp[siO,rawInt]
def GZ{tp:Nat}{ys:B_ Nat}{Q:C_ s_->td->Prop}(hh:A.handled=b_)(hI:s.heap.get? it=a_ (siO a (.ref tp) es.size es.size ep))(xc:s.heap.get? tp=a_ (yC ys))(ho:Y_ 0=a_ o)(hd:o.data=.set es ep t)(hf:ZW 0=true)
  (hy:ys.length=es.size) (q:∀h',q0k 0->Q b_ {s with heap:=h'}):r_ (pyNext<|.ref it) Q E s:=by
 let hT:=Br hI;unfold pyNext;refine SB<|WV<|Vy (name:=Vh "__next__") hT bC<|Vz bC hT fR ?_<|iC _;refine SB<|SL<|SB<|WW hI rfl ?_;refine(show u_ (setEntries a >>= _) _ _ s from SB (X7 ho hd hf ?_))
 refine Ww (show decide _=false from by simp) ?_
 unfold seqItems?;refine(show u_ ((load tp >>= _) >>= _) _ _ s from SB (SB<|wpAny_load xc<|show u_ (pure<|a_ _) _ _ s from SL ?_))
 let e1:(ys.map λi=>Wg (i:Nat) 0).toArray[((es.size:Nat):Int).toNat]?=b_:=by simp[hy]
 refine(show u_ (match(ys.map λi=>Wg (i:Nat) 0).toArray[((es.size:Nat):Int).toNat]? with|some (Wg place tok)=>_|some val=>_|none=>_) _ _ s from ?_)
 rw[e1];refine(show u_ (YH (.ref it) 0 _ >>= _) _ _ {s with heap:=s.heap} from nJ hI (by simp[siO]) λh1 g1 k1 x1=>?_)
 refine nJ g1 (by simp) λh2 g2 k2 x2=>?_;refine(show u_ (newExc (.type "StopIteration") [] >>= _) _ _ _ from SB ?_);simp only[newExc,newTuple]
 refine SB (Vk (SB (m:=WY _ _)<|W9 (a:=Vj) (by first|rfl|(simp only[WY];rfl))<|Vk ?_<|by size_fits)<|by size_fits)
 simp only[raiseNew];refine SB<|wpAny_handled ?_;rw[show A.in1.handled=b_ from hh]
 refine SB<|SL<|wpAny_throw ?_;refine SB<|Wl (T:="StopIteration") (b:=true) ⟨_,Za 0,rfl⟩ isSubtype_stop ?_;show SL<|q _<|((x1.trans x2).push _).push _
end
def Al:typeLookup (WO "set") (Vh "__len__")=pure (a_<|Value.builtin "set.__len__"):=by rw[Yk,W1];rfl
def yD:entryFor table "set_iterator.__iter__" = a_ Builtin.«dict_keyiterator.__iter__»:=entryFor_alias (id:="set_iterator.__iter__") (id':="dict_keyiterator.__iter__") (by first|rfl|decide +kernel) (by first|rfl|decide +kernel) (by decide +kernel) (by rfl)
def Am(a:s_):argsOk "set_iterator.__iter__" ⟨[a],[]⟩:=by let e:=signature?_of (id:="set_iterator.__iter__") (n:=['_','_','r','e','t','i','_','_']) (o:=['r','o','t','a','r','e','t','i','_','t','e','s']) (by rfl) Bp;unfold argsOk;rw[e];rfl
section
variable{o:Obj}{es:Array (Int×s_)}{t:X5}
def Ha{Q:j_ Bool}(hT:s.TypeIs (.ref a) "set")(q:Q false s):r_ (WJ<|.ref a) Q E s:=by unfold WJ;refine SB<|Xj hT Al ?_;dsimp only;rw[show splitId "set.__len__" = a_ ("set","__len__") by decide +kernel];refine SB<|Wl hT sub_set_self ?_;refine wpAny_ite_split (λh=>absurd h nofun) λ_=>?_;refine wpAny_ite_split (λ_=>SB<|Xr hT<|SL q) λh=>?_;show absurd nofun h
def Bs(hI:s.heap.get? it=a_ (siO a first i n ep))(q:Q (.ref it) s):r_ (pyIter<|.ref it) Q E s:=by
 let hT:=Br hI;refine XT hT qD (Vz qD hT yD (show u_ (Builtin.«dict_keyiterator.__iter__» _) _ _ _ from ?_) (Am _))
 unfold Builtin.«dict_keyiterator.__iter__»;refine SB<|SL ?_;show SL ⟨_,rfl,"set_iterator",_,hT,bC.lookup,q⟩
def CS(hh:A.handled=b_)(f6:a≠it)(hd:o.data=.set es ep t)(ht:TOk (cM w) t)(hf:ZW 0=true)(gq:cM w=true\/(!t.plain&&decide (es.size>1))=false):
  Walks prog w A it [it,a] [it] es.size (λi v=>(q0h 0)[i]?.map (·.2)=a_ v) (λi h=>h.get? it=a_ (siO a (.int (Zw i) 0) i es.size ep)/\h.get? a=a_ o):=by
 let hsz:(q0h 0).size=es.size:=by have:=(kK (w:=w) (a:=a) (ep:=ep) (es:=es)).length_eq;simpa using this
 refine⟨λb hb=>by simp at hb;simp[hb],λi h h' hs k=>⟨k it (by simp) _ hs.1,k a (by simp) _ hs.2⟩,λi s Q E hi hs q=>?_,λs Q E hs q=>?_,λi s Q E hs q=>?_⟩
 ·let hl:i<(q0h 0).size:=⋯;refine Fk hs.1 hs.2 hd ht hf gq hi hl λh' g k=>q _ h' s.toks (by rw[Vm hl];rfl) ⟨g,by rw[k a f6];show hs.2⟩ λb o' hb e=>by rw[k b<|l_ hb];show e
 ·show GY hh hs.1 hs.2 hd ht hf gq λh' k=>q h' s.toks λb o' hb e=>k b o' (l_ hb) e
 ·show Bs hs.1 q
def CT{tp:Nat}{ys:B_ Nat}(hh:A.handled=b_)(f6:a≠it)(UB:tp≠it)(hd:o.data=.set es ep t)(hf:ZW 0=true)(hy:ys.Perm (Vi es.size)):
  Walks prog w A it [it,tp,a] [it] es.size (λi v=>∃p e,ys[i]?=a_ p/\es[p]?=a_ e/\v=e.2) (λi h=>h.get? it=a_ (siO a (.ref tp) i es.size ep)/\h.get? tp=a_ (yC ys)/\h.get? a=a_ o):=by
 let hl:ys.length=es.size:=by have:=hy.length_eq;simpa using this
 refine⟨λb hb=>by simp at hb;simp[hb],λi h h' hs k=>⟨k it (by simp) _ hs.1,k tp (by simp) _ hs.2.1,k a (by simp) _ hs.2.2⟩,λi s Q E hi hs q=>?_,λs Q E hs q=>?_,λi s Q E hs q=>?_⟩
 ·let h1:i<ys.length:=⋯;let e1:ys[i]?=a_ ys[i]:=VH h1;let h2:ys[i]<es.size:=by have:=hy.mem_iff.mp<|V5 h1;simpa using this
  let e2:es[ys[i]]?=a_ es[ys[i]]:=Vm h2;show Fm hs.1 hs.2.1 hs.2.2 hd hf e1 e2 λh' g k=>q _ h' s.toks ⟨_,_,e1,e2,rfl⟩ ⟨g,by rw[k tp UB];show hs.2.1,by rw[k a f6];show hs.2.2⟩ λb o' hb e=>by rw[k b<|l_ hb];show e
 ·show GZ hh hs.1 hs.2.1 hs.2.2 hd hf hl λh' k=>q h' s.toks λb o' hb e=>k b o' (l_ hb) e
 ·show Bs hs.1 q
def CU(hh:A.handled=b_)(ho:Y_ 0=a_ o)(hx:o.ExactSet)(hd:o.data=.set es ep t)(ht:TOk (cM w) t)(hf:ZW 0=true)(hz:es.size<=U9)(S:t_)(yn:S≠a)(res:s_)(c₀:Nat)(hS:s.heap.get? S=a_ {cls:=.type "list",data:=.seq #[] c₀})(hR:∀h' d tk (acc:YV 0) c',(∀b o,b≠S->N_ 0=a_ o->Ze 0=a_ o)->h'.get? S=a_ {cls:=.type "list",data:=.seq acc c'}->acc.toList.Perm (es.toList.map (·.2))->R (.ok<|.ret res) {s with heap:=h',drawn:=d,toks:=tk}):
  m_ prog w A.in1 (VY (.ref S) (.ref a) res) (λfin s'=>match fin with|.done f=>R (.ok f) s'|.again c'=>c'.quiet=true/\codeAny (Z4 0) A c' R s') (λe s'=>R (.error e) s') s:=by
 have hT:s.TypeIs (.ref a) "set" := ⟨o,ho,hx.1⟩
 have Sn:=U8 ho
 have n9:=U8 hS
 unfold VY
 refine SB<|Xr hT ?_
 have hc:(W7 (.ref S) (.ref a) || WO "set" == WO "list" || WO "set" == WO "tuple")=false:=by
  have:W7 (.ref S) (.ref a)=false:=by simp[W7,yn]
  rw[this]
  decide
 rw[hc,if_neg Ve]
 have tail:∀{s1:td}{I:t_}{fp:B_ t_}{P:Nat->s_->Prop}{St:Nat->w_->Prop},Walks prog w A.in1 I fp [I] es.size P St->S∉fp->St 0 s1.heap->I≠S->s1.heap.get? S=a_ {cls:=.type "list",data:=.seq #[] c₀}->s1.TypeIs (.ref a) "set" -> s1.gens=s.gens->s1.os=s.os->
   (∀b o,N_ 0=a_ o->s1.heap.get? b=a_ o)->(e_ s)<=I->(∀acc,ItemsOf P acc es.size->acc.toList.Perm (es.toList.map (·.2)))->
   ∀{f:Bool->Sem PySem.Fin},(∀b,f b=(if(b || false)=true then(do rule "list.extend.makes-room";Yc (.ref S);again (.builtin "list.extend.loop" ⟨[.ref S,.ref I,res],[]⟩)) else again (.builtin "list.extend.loop" ⟨[.ref S,.ref I,res],[]⟩))\/
    f b=(do rule "list.extend.makes-room";Yc (.ref S);again (.builtin "list.extend.loop" ⟨[.ref S,.ref I,res],[]⟩)))->
   m_ prog w A.in1 (holding [Vt I] (WJ<|.ref a) >>= f) (λfin s'=>match fin with|.done f=>R (.ok f) s'|.again c'=>c'.quiet=true/\codeAny (Z4 0) A c' R s') (λe s'=>R (.error e) s') s1:=by
  intro s1 I fp P St W lu cg hIS hS1 hT1 hg ju kp hI hit f hf'
  have key:∀h c₁ tk,St 0 h->(∀b o,b≠S->s1.heap.get? b=a_ o->h.get? b=a_ o)->h.get? S=a_ {cls:=.type "list",data:=.seq #[] c₁}->codeAny (Z4 0) A (.builtin "list.extend.loop" ⟨[.ref S,.ref I,res],[]⟩) R {s1 with heap:=h,toks:=tk}:=by
   intro h c₁ tk i6 hk uh
   refine codeAny_extend_loopS (Walks.toS W) hz S lu res es.size 0 _ #[] c₁ (Nat.sub_zero _) (Vr _) i6 uh (ItemsOf.nil P) λs' acc c' hm jy aw=>?_
   have e:=Moved.eq_with hm
   rw[e]
   have:=hR s'.heap s1.drawn s'.toks acc c' (λb o hb e=>hm.heap b o (λz=>?_)<|hk b o hb<|kp b o e) jy<|hit acc aw
   ·rw[<-hg,<-ju]at this
    exact this
   ·rcases U5.mp z with z|z
    ·exact hb z
    ·have h1:=U8 e
     exact absurd (Va.mp z▸h1)<|Nat.not_lt.mpr hI
  refine SB<|VJ<|Ha hT1 ?_
  have pq:m_ prog w A.in1 (do rule "list.extend.makes-room";Yc (.ref S);again (.builtin "list.extend.loop" ⟨[.ref S,.ref I,res],[]⟩)) (λfin s'=>match fin with|.done f=>R (.ok f) s'|.again c'=>c'.quiet=true/\codeAny (Z4 0) A c' R s') (λe s'=>R (.error e) s') s1:=by
   refine SB<|XN<|SB ?_
   unfold Yc
   refine SB<|wpAny_updateSeq hS1 rfl ?_
   have uu:=VS (Vw λx=>x.push Vj) hS1 rfl
   refine wpAny_updateSeq uu rfl ?_
   have S5:=VS (Vw λx=>x.pop) uu rfl
   refine SL ⟨X4 F.plain_extend_loop _,key _ _ _ (W.frame 0 s1.heap _ cg λb hb o e=>?_) (λb o hb e=>?_) S5⟩
   ·have RU:b≠S:=λh=>lu (h▸hb)
    exact(Wc _ _<|Wu RU).trans ((Wc _ _<|Wu RU).trans e)
   ·exact(Wc _ _<|Wu hb).trans ((Wc _ _<|Wu hb).trans e)
  rcases hf' false with h|h
  ·rw[h,ZD 0]
   exact SL ⟨X4 F.plain_extend_loop _,key s1.heap _ s1.toks cg (λb o _ e=>e) hS1⟩
  ·rw[h]
   exact pq
 refine SB<|GX ho hx hd hf hz (λgq=>?_) λys d hp=>?_
 ·refine tail (s1:={s with heap:=s.heap.push (siO a (.int 0 0) 0 es.size ep)}) (CS (A:=A.in1) hh (Vc Sn) hd ht hf gq) ?_ ⟨?_,Zn ho⟩ (WL n9) (Zn hS) ⟨o,Zn ho,hx.1⟩ rfl rfl (λb o e=>Zn e) (U1 _) (λacc ha=>?_) (λb=>?_)
  ·intro z
   rcases U5.mp z with z|z
   ·exact Vc n9 z
   ·exact yn (Va.mp z)
  ·have e0:Zw 0=0:=by unfold slotAt;split <;> rfl
   rw[e0]
   exact Za 0
  ·have hsz:(q0h 0).size=es.size:=by have:=(kK (w:=w) (a:=a) (ep:=ep) (es:=es)).length_eq;simpa using this
   have:acc.toList=(q0h 0).toList.map (·.2):=by
    apply Wo
    intro i
    rw[Vf,V0,V0]
    by_cases hi:i<acc.size
    ·have e:=ha.2 i acc[i] (Vm hi)
     rw[Vm hi]
     exact e.symm
    ·have h1:=ha.1
     rw[VM ⋯,VM ⋯]
     rfl
   rw[this]
   exact kK.map _
  ·cases b <;> first|exact Or.inl rfl|exact Or.inr rfl
 ·have y0:(s.heap.push<|yC ys).objs.size=(e_ s)+1:=Xe ..
  have gS:(s.heap.push<|yC ys).get? S=a_ {cls:=.type "list",data:=.seq #[] c₀}:=Zn hS
  have ga:(s.heap.push<|yC ys).get? a=a_ o:=Zn ho
  have gt:(s.heap.push<|yC ys).get? (e_ s)=a_ (yC ys):=Za 0
  refine tail (s1:={s with heap:=(s.heap.push<|yC ys).push<|siO a (.ref<|e_ s) 0 es.size ep,drawn:=d}) (CT (A:=A.in1) (it:=(e_ s)+1) (tp:=(e_ s)) hh (Vc<|XQ Sn) (Vc<|Nat.lt_succ_self _) hd hf hp) ?_ ⟨?_,Zn gt,Zn ga⟩ (WL<|XQ n9) (Zn gS) ⟨o,Zn ga,hx.1⟩ rfl rfl (λb o e=>Zn<|Zn e) (Yz _) (λacc ha=>?_) (λb=>?_)
  ·intro z
   rcases U5.mp z with z|z
   ·exact Vc (XQ n9) z
   rcases U5.mp z with z|z
   ·exact Vc n9 z
   ·exact yn (Va.mp z)
  ·have:=U3 (s.heap.push<|yC ys) (o:=siO a (.ref<|e_ s) 0 es.size ep) rfl
   rw[y0]at this
   exact this
  ·have hl:ys.length=es.size:=by have:=hp.length_eq;simpa using this
   have:acc.toList=ys.map λp=>(es.toList.map (·.2)).getD p .none:=by
    apply Wo
    intro i
    rw[Vf,V0]
    by_cases hi:i<acc.size
    ·let⟨p,e,h1,h2,h3⟩:=ha.2 i acc[i] (Vm hi)
     rw[Vm hi,h1,h3]
     simp[h2]
    ·have h1:=ha.1
     rw[VM ⋯,Xy ⋯]
     rfl
   rw[this]
   refine(hp.map _).trans ?_
   have e2:(Vi es.size).map (λp=>(es.toList.map (·.2)).getD p .none)=es.toList.map (·.2):=by
    apply Yy
    ·simp
    ·intro i h1 h2
     simp at h1 h2
     simp[h2]
   rw[e2]
  ·cases b <;> first|exact Or.inl rfl|exact Or.inr rfl
end
open PySem.SeqAt PySem.W
abbrev cN(b:Bool)(n i:Nat):Nat:=if b then n-1-i else i
abbrev Bt(b:Bool)(n:Nat)(p:B_ Nat):B_ Nat:=Y7<|p.map<|cN b n
def mB{α:Type}(b:Bool){l:B_ α}{d:α}(hi:i<l.length):(Y7 l).getD i d=l.getD (cN b l.length i) d:=by
 cases b with
 |false=>rfl
 |true=>
  change l.reverse.getD i d=l.getD (l.length-1-i) d
  rw[Wr,Wr,List.getElem?_reverse hi]
def iH(h:i<n):cN b n i<n:=by unfold cN;split <;> omega
def CV{p:B_ Nat}(h:p.Perm (Vi n)):(Bt b n p).Perm (Vi n):=by
 cases b with
 |false=>
  let e:Bt false n p=p:=by
   change p.map (λi=>cN false n i)=p
   have:(λi=>cN false n i)=id:=by funext i;rfl
   rw[this,List.map_id]
  rw[e];show h
 |true=>
  let e:(Vi n).map (cN true n)=(Vi n).reverse:=by
   apply Yy
   ·simp
   ·intro i h1 h2;simp[cN]
  change((p.map<|cN true n).reverse).Perm _
  refine(List.reverse_perm _).trans ((h.map _).trans ?_);rw[e];show List.reverse_perm _
def CW{p:B_ Nat}{lt:Nat->Nat->Bool}(h:p.Pairwise (λi j=>lt (cN b n j) (cN b n i)=false)):(Bt b n p).Pairwise (λi j=>(if b then lt i j else lt j i)=false):=by
 let h1:(p.map<|cN b n).Pairwise (λi j=>lt j i=false):=VZ.mpr h;cases b with
 |false=>exact h1
 |true=>
  change((p.map<|cN true n).reverse).Pairwise _
  rw[List.pairwise_reverse];show h1
def Fo{vs:ZM 0}{p:B_ Nat}(h:∀i∈p,i<vs.length):Y7 (p.map λi=>(Y7 vs).getD i Vj)=(Bt b vs.length p).map λi=>Zk 0:=by
 let e:(p.map λi=>(Y7 vs).getD i Vj)=(p.map<|cN b vs.length).map λi=>Zk 0:=by rw[VF];show Wj λi hi=>mB b<|h i hi
 rw[e];unfold Bt katRev;split
 ·rw[List.map_reverse]
 ·rfl
def CY{α:Type}(b:Bool)(l:B_ α):Y7 (Y7 l)=l:=by unfold katRev;split <;> simp
def range_getD(vs:ZM 0):((Vi vs.length).map λi=>Zk 0)=vs:=by
 apply Wo;intro i;by_cases hi:i<vs.length
 ·simp[hi]
 ·simp[hi]
variable{e1:Nat}{kS:t_}{out:ZM 0}
section
variable{vs ks:ZM 0}
def Lg{st:SortSt}{e:Nat}{P:PySem.Fin->td->Prop}(j3:(arrOf st).map (·.2)=out.toArray)(hz:out.length<64)(hkz:ks.length<64)(hf:failedOf st=b_)(lj:kS≠a)(gk:s.heap.get? kS=a_ (seqObj "list" ks.toArray e))(ga:Y_ 0=a_ (seqObj "list" #[] e1))(h:∀(h':w_)(c:Nat),(∀x o,x≠a->x≠kS->s.heap.get? x=a_ o->h'.get? x=a_ o)->h'.get? a=a_ (seqObj "list" (Y7 out).toArray c)->(∃o,h'.get? kS=a_ o)->P (.done<|.ret .none) {s with heap:=h'}):
  r_ (ksk_tail a b e1 (.ref kS) st) P E s:=by
 let w1:=Vu s.heap kS<|Vw λ_=>(#[]:YV 0);obtain⟨ck,hck⟩:∃ck,(s.heap.update kS<|Vw λ_=>(#[]:YV 0)).get? kS=a_ (seqObj "list" #[] ck):=⟨_,Yj gk λ_=>#[]⟩;let yq:=(w1.2 a lj.symm).trans ga;let w2:=Vu (s.heap.update kS<|Vw λ_=>(#[]:YV 0)) a<|Vw λ_=>(Y7 out).toArray;obtain⟨c2,gi⟩:∃c2,((s.heap.update kS<|Vw λ_=>(#[]:YV 0)).update a<|Vw λ_=>(Y7 out).toArray).get? a=a_ (seqObj "list" (Y7 out).toArray c2):=⟨_,Yj yq λ_=>(Y7 out).toArray⟩;let hsz:(Y7 out).toArray.size=out.length:=by rw[U6,kat_len]
 unfold ksk_tail
 try dsimp only
 rw[j3,kat_outs];refine SB (Xv gk rfl ?_ (by rw[U6,VN];omega)<|Vr _);refine SB<|wpAny_letGo<|SB<|seqEpoch_at yq rfl ?_;refine SB (Xv yq rfl ?_ (Vr _)<|VO (Nat.le_of_eq hsz) (by rw[VN];omega));rw[hf];simp only[bne_self_eq_false,VL,if_false];show SL<|h _ c2 (λx o h1 h2 q=>(w2.2 x h1).trans<|(w1.2 x h2).trans q) gi ⟨_,(w2.2 kS lj).trans hck⟩
def R0{e:Nat}{P:PySem.Fin->td->Prop}(lt:Nat->Nat->Bool)(hl:ks.length=vs.length)(dj:vs.length<64)(lj:kS≠a)(tr:∀i j k,i<vs.length->j<vs.length->k<vs.length->lt j i=false->lt k j=false->lt k i=false)(as:∀i j,i<vs.length->j<vs.length->lt i j=true->lt j i=false)(gk:s.heap.get? kS=a_ (seqObj "list" ks.toArray e))(ga:Y_ 0=a_ (seqObj "list" #[] e1))(hk:2<=vs.length->∀(Q:j_ SortKind) E',Q κ s->r_ (keyKind' ks.toArray) Q E' s)(ag:∀i j,i<vs.length->j<vs.length->∀Q:j_ Bool,Q (lt i j) s->r_ (keyLt' κ (ks.getD i Vj) (ks.getD j Vj)) Q (λ_ _=>False) s)(h:∀(p:B_ Nat)(h':w_)(c:Nat),p.Perm (Vi vs.length)->p.Pairwise (λi j=>(if b then lt i j else lt j i)=false)->(∀x o,x≠a->x≠kS->s.heap.get? x=a_ o->h'.get? x=a_ o)->
   h'.get? a=a_ (seqObj "list" (p.map λi=>Zk 0).toArray c)->(∃o,h'.get? kS=a_ o)->P (.done (.ret .none)) {s with heap:=h'}):
  r_ (ksk_end a b vs.toArray e1 (.ref kS) ks.toArray) P E s:=by
 have skip:∀t:Sem PySem.Fin,r_ t P E s->r_ (if b=true then(do let _ <-rule "list.sort.reverse";t) else t) P E s:=λt ht=>by
  split
  ·exact SB (XN ht)
  ·exact ht
 have vf:(Y7 ks).length=(Y7 vs).length:=by rw[kat_len,kat_len,hl]
 unfold ksk_end
 try dsimp only
 refine skip _ ?_
 rw[kat_pairs b hl]
 by_cases h2:vs.toArray.size<2
 ·rw[if_pos h2,if_pos h2]
  rw[U6]at h2
  refine SB<|SL ?_
  rw[StateT.run_pure]
  refine SB<|SL ?_
  try dsimp only
  refine Lg (st:=SortSt.mk' general' ((Y7 ks).toArray.zip (Y7 vs).toArray) #[] 7 b_) (out:=Y7 vs) (ks:=ks) ?_ (by rw[kat_len];exact dj) ⋯ rfl lj gk ga λh' c k1 k2 k3=>?_
  ·show((Y7 ks).toArray.zip (Y7 vs).toArray).map (·.2)=(Y7 vs).toArray
   apply Array.toList_inj.mp
   rw[Array.toList_map,ksk_zip]
   show(List.zip _ _).map Prod.snd=_
   rw[List.map_snd_zip (by rw[vf];exact U1 _)]
  ·rw[CY]at k2
   refine h (Vi vs.length) h' c (XB _) ?_ k1 (by rw[range_getD];exact k2) k3
   rw[V8]
   intro i j hi hj cq
   simp only[XR]at hi hj
   omega
 ·rw[if_neg h2,if_neg h2]
  rw[U6]at h2
  refine SB<|hk ⋯ _ _ ?_
  have wc:(kas_sort (Y7 vs).length).kasWp (kas_ask prog w A κ<|Y7 ks) (λp dk=>p=evT (λi j=>lt (ZQ i)<|ZQ j) (kas_sort vs.length)/\dk=s) s:=by
   rw[kat_len]
   refine vB (n:=vs.length) (lt:=λi j=>lt (ZQ i)<|ZQ j) (λi j C hi hj hC=>?_) (vA ⋯) ⟨rfl,rfl⟩
   show r_ (keyLt' κ ((Y7 ks).getD i Vj)<|(Y7 ks).getD j Vj) C (λ_ _=>False) s
   rw[mB b ⋯,mB b ⋯,hl]
   exact ag _ _ (iH hi) (iH hj) C hC
  refine SB (Wz (kat_run (ks:=Y7 ks) (vs:=Y7 vs) (E:=E) (Q:=λbw s'=>s'=s/\arrOf bw=(evT (λi j=>lt (ZQ i) (ZQ j)) (kas_sort vs.length)).map (kas_item ((Y7 ks).toArray.zip (Y7 vs).toArray))/\failedOf bw=b_)
   vf (by rw[kat_len];omega) (by rw[kat_len];exact dj) (λp bw s' _ a2 a3 a4=>⟨a4.2,by rw[a2,a4.1],a3⟩) wc) ?_ λ_ _ x=>x)
  rintro⟨⟨⟩,bw⟩ s' ⟨rfl,har,hf⟩
  try dsimp only
  let⟨c1,c2⟩:=Bn (n:=vs.length) (lt:=λi j=>lt (ZQ i)<|ZQ j) (λi j k hi hj hk=>tr _ _ _ (iH hi) (iH hj)<|iH hk) (λi j hi hj=>as _ _ (iH hi)<|iH hj) ⋯
  have cy:∀i∈(evT (λi j=>lt (ZQ i)<|ZQ j)<|kas_sort vs.length).toList,i<vs.length:=λi hi=>by simpa using c1.mem_iff.mp hi
  refine Lg (ks:=ks) (kat_snds vf har) (by rw[U2,c1.length_eq,XR];exact dj) ⋯ hf lj gk ga λh' c k1 k2 k3=>?_
  rw[Fo cy]at k2
  exact h _ h' c (CV c1) (CW c2) k1 k2 k3
def CZ{f:s_}{P:PySem.Fin->td->Prop}(ho:Y_ 0=a_ (seqObj "list" vs.toArray n))(dj:vs.length<64)(J:t_->Nat->ZM 0->Nat->td->Prop)(h0:∀(kS e1:Nat)(h':w_),(∀x o,x≠a->s.heap.get? x=a_ o->h'.get? x=a_ o)->(e_ s)<=kS->h'.get? a=a_ (seqObj "list" #[] e1)->h'.get? kS=a_ (seqObj "list" #[] 0)->J kS e1 [] 0 {s with heap:=h'})(dr:∀kS e1 ks e s',J kS e1 ks e s'->kS≠a/\s'.heap.get? a=a_ (seqObj "list" #[] e1)/\s'.heap.get? kS=a_ (seqObj "list" ks.toArray e))(turn:∀kS e1 ks e s' x,vs[ks.length]?=a_ x->J kS e1 ks e s'->r_ (call f [x]) (λv dk=>dk.heap.get? kS=a_ (seqObj "list" ks.toArray e)/\∀(h':w_) e',Wy kS dk.heap h'->h'.get? kS=a_ (seqObj "list" (ks++[v]).toArray e')->J kS e1 (ks++[v]) e' { dk with heap:=h'}) (λ_ _=>False) s')(fin:∀kS e1 ks e s',ks.length=vs.length->J kS e1 ks e s'->∃lt:Nat->Nat->Bool,(∀i j k,i<vs.length->j<vs.length->k<vs.length->lt j i=false->lt k j=false->lt k i=false)/\(∀i j,i<vs.length->j<vs.length->lt i j=true->lt j i=false)/\
   (2<=vs.length->∀(Q:j_ SortKind) E',Q κ s'->r_ (keyKind' ks.toArray) Q E' s')/\
   (∀i j,i<vs.length->j<vs.length->∀Q:j_ Bool,Q (lt i j) s'->r_ (keyLt' κ (ks.getD i Vj)<|ks.getD j Vj) Q (λ_ _=>False) s')/\
   ∀(p:B_ Nat)(h':w_)(c:Nat),p.Perm (Vi vs.length)->p.Pairwise (λi j=>(if b then lt i j else lt j i)=false)->(∀x o,x≠a->x≠kS->s'.heap.get? x=a_ o->h'.get? x=a_ o)->
   h'.get? a=a_ (seqObj "list" (p.map λi=>Zk 0).toArray c)->(∃o,h'.get? kS=a_ o)->P (.done (.ret .none)) { s' with heap:=h'}):
  r_ (ksk_tree a f b) P E s:=by
 let ha:a<(e_ s):=U8 ho;let w1:=Vu s.heap a<|Vw λ_=>(#[]:YV 0);obtain⟨e1,dv⟩:∃e1,(X_<|Vw λ_=>(#[]:YV 0)).get? a=a_ (seqObj "list" #[] e1):=⟨_,Yj ho λ_=>#[]⟩;unfold ksk_tree;refine SB (listItems_at ho rfl<|SB<|Xv ho rfl ?_ (by rw[U6,VN];omega)<|Vr _);refine SB (seqEpoch_at dv rfl<|SB<|wpAny_newTuple ?_ (by change vs.length<=_;rw[VN];omega));refine SB<|wpAny_newList (VJ ?_)<|Vr _;let TX:((X_<|Vw λ_=>(#[]:YV 0)).push<|seqObj "tuple" vs.toArray 0).objs.size=(e_ s)+1:=by rw[size_push',Yw]
 let J0:=h0 ((X_<|Vw λ_=>(#[]:YV 0)).push<|seqObj "tuple" vs.toArray 0).objs.size e1 (((X_<|Vw λ_=>(#[]:YV 0)).push<|seqObj "tuple" vs.toArray 0).push<|seqObj "list" #[] 0)
  (λx o hx q=>Zn<|Zn<|(w1.2 x hx).trans q) (by rw[TX];show Yz _) (Zn<|Zn dv) (Za 0)
 change r_ (ksk_rest a f b vs.toArray e1<|.ref ((X_<|Vw λ_=>(#[]:YV 0)).push<|seqObj "tuple" vs.toArray 0).objs.size) P E {s with heap:=((X_<|Vw λ_=>(#[]:YV 0)).push<|seqObj "tuple" vs.toArray 0).push (seqObj "list" #[] 0)}
 generalize ((X_<|Vw λ_=>(#[]:YV 0)).push<|seqObj "tuple" vs.toArray 0).objs.size=kS at J0
 revert J0
 generalize ({s with heap:=((X_<|Vw λ_=>(#[]:YV 0)).push<|seqObj "tuple" vs.toArray 0).push (seqObj "list" #[] 0)}:td)=s0;intro J0;unfold ksk_rest;refine SB<|XN ?_
 first
  |rw[List.forIn_toArray]
  |(rw[<-Array.forIn_toList];simp only[List.toList_toArray])
 refine SB<|ksk_fold (λi s'=>∃ks e,ks.length=i/\J kS e1 ks e s') vs 0 s0 ⟨[],0,rfl,J0⟩ ?step ?done
 case step=>
  rintro j x s' hx ⟨ks,e,hl,hJ⟩;let hj:j<vs.length:=(SC.mp hx).1;let d0:ks.length=j:=⋯;refine SB (WV<|Wz (turn kS e1 ks e s' x (by rw[d0];show hx) hJ) (λv dk q=>?_) λ_ _ z=>z.elim);let⟨gk,u7⟩:=q
  try dsimp only
  let w2:=Vu dk.heap kS (Vw (·.push v));obtain⟨c2,gi⟩:∃c2,(dk.heap.update kS (Vw (·.push v))).get? kS=a_ (seqObj "list" (ks.toArray.push v) c2):=⟨_,Yj gk (·.push v)⟩;refine SB (Xv gk rfl ?_ (by rw[U6,VN];omega)<|VO (Nat.le_of_eq<|Array.size_push ..) (by rw[U6,VN];omega));refine SL ⟨rfl,ks++[v],c2,by simp;omega,u7 _ c2 w2 ?_⟩;rw[gi];simp
 case done=>
  rintro s' ⟨ks,e,hl,hJ⟩;let d0:ks.length=vs.length:=⋯;let⟨lj,ga,gk⟩:=dr kS e1 ks e s' hJ;let⟨lt,tr,as,hk,ag,h⟩:=fin kS e1 ks e s' d0 hJ
  try dsimp only
  refine SB<|listItems_at gk rfl ?_;show R0 (κ:=κ) lt d0 dj lj tr as gk ga hk ag h
end
open PySem.SeqAt
inductive PV where
 |non|bl (b:Bool)|int (i:Int)|str (x:Str)|tup (xs:B_ PV)|ref (n:Nat)|ty (n:String)|fl (xs:B_ PV)
mutual
def PV.beq:PV->PV->Bool
 |.non,.non=>true
 |.bl a,.bl b=>a == b
 |.int a,.int b=>a == b
 |.str a,.str b=>a == b
 |.tup a,.tup b=>PV.beqs a b
 |.ref a,.ref b=>a == b
 |.ty a,.ty b=>a == b
 |.fl a,.fl b=>PV.beqs a b
 |_,_=>false
def PV.beqs:Y4 0->Y4 0->Bool
 |[],[]=>true
 |x::xs,y::ys=>PV.beq x y&&PV.beqs xs ys
 |_,_=>false
end
mutual
theorem PV.beq_self:∀x:PV,PV.beq x x=true
 |.non=>rfl
 |.bl a=>by simp[PV.beq]
 |.int a=>by simp[PV.beq]
 |.str a=>by simp[PV.beq]
 |.tup a=>by simp only[PV.beq];show PV.beqs_self a
 |.ref a=>by simp[PV.beq]
 |.ty a=>by simp[PV.beq]
 |.fl a=>by simp only[PV.beq];show PV.beqs_self a
theorem PV.beqs_self:∀x:Y4 0,PV.beqs x x=true
 |[]=>rfl
 |x::xs=>by simp only[PV.beqs,PV.beq_self x,PV.beqs_self xs,Bool.and_self]
end
mutual
theorem PV.beq_eq:∀{x y:PV},PV.beq x y=true->x=y
 |.non,y,h=>by cases y <;> first|rfl|(simp[PV.beq]at h)
 |.bl a,y,h=>by cases y <;> first|(simp[PV.beq]at h;rw[h])|(simp[PV.beq]at h)
 |.int a,y,h=>by cases y <;> first|(simp[PV.beq]at h;rw[h])|(simp[PV.beq]at h)
 |.str a,y,h=>by cases y <;> first|(simp[PV.beq]at h;rw[h])|(simp[PV.beq]at h)
 |.tup a,y,h=>by
  cases y with
  |tup b=>simp only[PV.beq]at h;rw[PV.beqs_eq h]
  |_=>simp[PV.beq]at h
 |.ref a,y,h=>by cases y <;> first|(simp[PV.beq]at h;rw[h])|(simp[PV.beq]at h)
 |.ty a,y,h=>by cases y <;> first|(simp[PV.beq]at h;rw[h])|(simp[PV.beq]at h)
 |.fl a,y,h=>by
  cases y with
  |fl b=>simp only[PV.beq]at h;rw[PV.beqs_eq h]
  |_=>simp[PV.beq]at h
theorem PV.beqs_eq:∀{x y:Y4 0},PV.beqs x y=true->x=y
 |[],y,h=>by cases y <;> first|rfl|(simp[PV.beqs]at h)
 |x::xs,y,h=>by
  cases y with
  |nil=>simp[PV.beqs]at h
  |cons y ys=>simp only[PV.beqs,VA]at h;rw[PV.beq_eq h.1,PV.beqs_eq h.2]
end
instance:DecidableEq PV:=λx y=>match h:PV.beq x y with
 |true=>isTrue (PV.beq_eq h)
 |false=>isFalse λe=>by rw[e,PV.beq_self]at h;cases h
abbrev PV.ky:Nat->PV->Bool
 |_,.int _=>true
 |_,.str _=>true
 |n+1,.tup xs=>xs.all (PV.ky n)
 |_,_=>false
section
variable(w:x_)
mutual
def hsh:PV->Int
 |.int i=>Lw w (.inl i)
 |.str x=>Lw w (.inr x)
 |.tup xs=>reduceHash (V9<|tR xs)
 |_=>0
def tR:Y4 0->Z8 0
 |[]=>[]
 |x::xs=>hsh x::tR xs
end
end
mutual
def drw:PV->Nat
 |.tup xs=>Bu xs+1
 |_=>1
def Bu:Y4 0->Nat
 |[]=>0
 |x::xs=>drw x+Bu xs
end
mutual
def HR(h:w_):PV->s_->Prop
 |.int i,v=>∃t,v=.int i t
 |.str x,v=>∃t,v=.str x t
 |.tup ps,v=>∃a its,v=.ref a/\IsTup h a its.toArray/\HRs h ps its
 |_,_=>False
def HRs(h:w_):Y4 0->ZM 0->Prop
 |[],[]=>True
 |p::ps,v::vs=>HR h p v/\HRs h ps vs
 |[],_::_=>False
 |_::_,[]=>False
end
def HRs.length{h:w_}:∀{ps:Y4 0}{vs:ZM 0},HRs h ps vs->ps.length=vs.length
 |[],[],_=>rfl
 |_::_,_::_,r=>congrArg (·+1) (HRs.length r.2)
 |[],_::_,r=>r.elim
 |_::_,[],r=>r.elim
def HRs.at{h:w_}:∀{ps:Y4 0}{vs:ZM 0}{j:Nat}{p:PV},HRs h ps vs->ps[j]?=a_ p->∃v,vs[j]?=a_ v/\HR h p v
 |[],[],_,_,_,e=>by simp at e
 |q::_,v::_,0,p,r,e=>by
  have:q=p:=by simpa using e
  subst this;show⟨v,rfl,r.1⟩
 |_::ps,_::vs,j+1,p,r,e=>by
  let⟨v,h1,h2⟩:=HRs.at (ps:=ps) (vs:=vs) (j:=j) (p:=p) r.2<|l_ e;show⟨v,l_ h1,h2⟩
 |[],_::_,_,_,r,_=>r.elim
 |_::_,[],_,_,r,_=>r.elim
def Fp{h:w_}{x y:YV 0}(p:IsTup h a x)(q:IsTup h a y):x=y:=by let⟨o,ho,_,n,hd⟩:=p;let⟨o',de,_,n',d8⟩:=q;obtain rfl:o=o':=Vq<|ho.symm.trans de;rw[hd]at d8;injection d8
mutual
theorem HR.one{h:w_}:∀{p q:PV}{v:s_},HR h p v->HR h q v->p=q
 |.int i,q,v,r,r'=>by
  let⟨t,rfl⟩:=r;cases q with
  |int j=>let⟨t',e⟩:=r';injection e with e;rw[e]
  |str j=>let⟨t',e⟩:=r';cases e
  |tup j=>let⟨_,_,e,_⟩:=r';cases e
  |_=>exact r'.elim
 |.str i,q,v,r,r'=>by
  let⟨t,rfl⟩:=r;cases q with
  |int j=>let⟨t',e⟩:=r';cases e
  |str j=>let⟨t',e⟩:=r';injection e with e;rw[e]
  |tup j=>let⟨_,_,e,_⟩:=r';cases e
  |_=>exact r'.elim
 |.tup ps,q,v,r,r'=>by
  let⟨a,its,rfl,p,rs⟩:=r;cases q with
  |int j=>let⟨t',e⟩:=r';cases e
  |str j=>let⟨t',e⟩:=r';cases e
  |tup qs=>
   let⟨b,its',e,p',d9⟩:=r';cases e
   have:its=its':=by simpa using congrArg Array.toList (Fp p p')
   subst this;rw[HRs.one rs d9]
  |_=>exact r'.elim
 |.non,_,_,r,_=>r.elim
 |.bl _,_,_,r,_=>r.elim
 |.ref _,_,_,r,_=>r.elim
 |.ty _,_,_,r,_=>r.elim
 |.fl _,_,_,r,_=>r.elim
theorem HRs.one{h:w_}:∀{ps qs:Y4 0}{vs:ZM 0},HRs h ps vs->HRs h qs vs->ps=qs
 |[],[],[],_,_=>rfl
 |p::ps,q::qs,v::vs,r,r'=>by rw[HR.one r.1 r'.1,HRs.one r.2 r'.2]
 |[],_::_,[],_,r=>r.elim
 |[],_,_::_,r,_=>r.elim
 |_::_,_,[],r,_=>r.elim
 |_::_,[],_::_,_,r=>r.elim
end
def D0{h:w_}{d:t_}{o:Obj}{es ep}{x:YV 0}(p:IsTup h a x)(ho:h.get? d=a_ o)(hd:o.data=.dict es ep)(hs:Wy d h h'):IsTup h' a x:=by
 let⟨q,hq,hc,n,m7⟩:=p;let ne:a≠d:=by rintro rfl;obtain rfl:q=o:=Vq<|hq.symm.trans ho;rw[hd]at m7;cases m7
 show⟨q,(hs.2 a ne).trans hq,hc,n,m7⟩
mutual
theorem HR.keep{h h':w_}(k:∀a x,IsTup h a x->IsTup h' a x):∀{p:PV}{v:s_},HR h p v->HR h' p v
 |.int i,v,r=>r
 |.str i,v,r=>r
 |.tup ps,v,⟨a,its,e,p,rs⟩=>⟨a,its,e,k _ _ p,HRs.keep k rs⟩
 |.non,_,r=>r.elim
 |.bl _,_,r=>r.elim
 |.ref _,_,r=>r.elim
 |.ty _,_,r=>r.elim
 |.fl _,_,r=>r.elim
theorem HRs.keep{h h':w_}(k:∀a x,IsTup h a x->IsTup h' a x):∀{ps:Y4 0}{vs:ZM 0},HRs h ps vs->HRs h' ps vs
 |[],[],_=>trivial
 |_::_,_::_,r=>⟨HR.keep k r.1,HRs.keep k r.2⟩
 |[],_::_,r=>r.elim
 |_::_,[],r=>r.elim
end
def Hb:∀(n:Nat){A:v_}{E:f_ 0}{s:td}{p:PV}{v:s_}{Q:j_ Int},p.ky n=true->A.units+n<cLine->HR s.heap p v->Q (hsh w p) { s with toks:=s.toks+drw p}->
  r_ (pyHash v) Q E s:=by
 intro n
 induction n with
 |zero=>
  intro A E s p v Q hk hu r h;cases p with
  |int i=>let⟨t,rfl⟩:=r;show wpAny_pyHash_int h
  |str i=>let⟨t,rfl⟩:=r;show wpAny_pyHash_str h
  |_=>cases hk
 |succ n ih=>
  intro A E s p v Q hk hu r h;cases p with
  |int i=>let⟨t,rfl⟩:=r;show wpAny_pyHash_int h
  |str i=>let⟨t,rfl⟩:=r;show wpAny_pyHash_str h
  |tup ps=>
   let⟨a,its,rfl,⟨o,ho,hc,m,hd⟩,rs⟩:=r;let e8:∀q∈ps,q.ky n=true:=Vs.mp hk;let hT:s.TypeIs (.ref a) "tuple" := ⟨o,ho,hc⟩;unfold pyHash;unfold pyHashByItsType;refine SB (wpAny_cRoomFor_or (.inr<|show A.units<cLine by omega) (SB<|Xj hT F.slot_tuple_hash.lookup ?_))
   change u_ (if((a_ (Value.builtin "tuple.__hash__"):C_ s_) == a_ Vj)=true then _ else _) Q E s
   rw[if_neg (show ¬ _ from by rw[beq_builtin_none];decide)]
   refine SB (Xj hT F.slot_tuple_hash.lookup<|show u_ (callSpecialIfBoundUnlessNone? (.ref a) "__hash__" _ >>= _) Q E s from ?_)
   refine SB (wpAny_callSpecialIfBoundUnlessNone?_slot hT F.slot_tuple_hash<|Vz F.slot_tuple_hash hT F.entry_tuple_hash (show u_ (Yr (.ref a) >>= _) _ _ s from ?_) (F.args_tuple_hash_1 _))
   refine SB<|wpAny_tupleItemsOf ho hd<|SB ?_;rw[<-Array.forIn_toList];refine wpAny_forIn_list _ (λrest (b:Array Int) s'=>∃left,HRs s.heap left rest/\(∀q∈left,q.ky n=true)/\b.toList++tR w left=tR w ps/\s'.heap=s.heap/\s'={ s with toks:=s'.toks}/\s'.toks+Bu left=s.toks+Bu ps) _ ?turn ?stop _ _ ⟨ps,rs,e8,rfl,rfl,rfl,rfl⟩
   case turn=>
    rintro x rest b s' ⟨left,rl,kl,eb,eh,es,et⟩;cases left with
    |nil=>exact rl.elim
    |cons q left=>
     let r1:HR s'.heap q x:=by rw[eh];show rl.1
     refine SB (ih (kl q UV) (show A.units+1+n<cLine by omega) r1 (SL ?_));refine⟨left,rl.2,λz hz=>kl z<|U4 _ hz,?_,eh,?_,?_⟩
     ·rw[<-eb];simp[tR]
     ·rw[es]
     ·rw[<-et]
      change s'.toks+drw q+Bu left=s'.toks+(drw q+Bu left)
      omega
   case stop=>
    rintro b s' ⟨left,rl,kl,eb,eh,es,et⟩;cases left with
    |cons q left=>exact rl.elim
    |nil=>
     let UW:b.toList=tR w ps:=by rw[<-eb];simp[tR]
     let T':s'.toks=s.toks+Bu ps:=et
     change u_ (retInt<|V9 b.toList) _ _ _
     rw[UW,es];refine wpAny_ret_mkInt ?_
     change u_ (if(decide (-(2:Int) ^ 63<=V9 (tR w ps))&&decide (V9 (tR w ps)<2 ^ 63))=true then _ else _) Q E _
     let h':Q (reduceHash<|V9<|tR w ps) { s with toks:=s.toks+(Bu ps+1)}:=h;unfold reduceHash at h';rw[T'];by_cases hr:(decide (-(2:Int) ^ 63<=V9 (tR w ps))&&decide (V9 (tR w ps)<2 ^ 63))=true
     ·rw[if_pos hr]at h'⊢;show SL (by simpa[Nat.add_assoc] using h')
     ·rw[if_neg hr]at h'⊢;show SB (XN<|SL<|by simpa[Nat.add_assoc] using h')
  |_=>cases hk
def MB:∀(n:Nat){A:v_}{s:td}{p q:PV}{v u:s_},p.ky n=true->q.ky n=true->A.units+n<cLine->HR s.heap p v->HR s.heap q u->RcAt A s v u (decide (p=q)):=by
 intro n
 induction n with
 |zero=>
  intro A s p q v u hp hq hu r r';cases p with
  |int i=>
   let⟨t,rfl⟩:=r;cases q with
   |int j=>let⟨t',rfl⟩:=r';have:=RcAt.int_int (A:=A) (s:=s) i t j t';rwa[show decide (PV.int i=PV.int j)=(i == j) by simp[Yl]]
   |str j=>let⟨t',rfl⟩:=r';show RcAt.int_str i t j t'
   |_=>cases hq
  |str i=>
   let⟨t,rfl⟩:=r;cases q with
   |int j=>let⟨t',rfl⟩:=r';show RcAt.str_int i t j t'
   |str j=>let⟨t',rfl⟩:=r';have:=RcAt.str_str (A:=A) (s:=s) i t j t';rwa[show decide (PV.str i=PV.str j)=(i == j) by simp[Yl]]
   |_=>cases hq
  |_=>cases hp
 |succ n ih=>
  intro A s p q v u hp hq hu r r';cases p with
  |int i=>
   let⟨t,rfl⟩:=r;cases q with
   |int j=>let⟨t',rfl⟩:=r';have:=RcAt.int_int (A:=A) (s:=s) i t j t';rwa[show decide (PV.int i=PV.int j)=(i == j) by simp[Yl]]
   |str j=>let⟨t',rfl⟩:=r';show RcAt.int_str i t j t'
   |tup js=>let⟨b,its,rfl,p',_⟩:=r';show RcAt.int_tuple i t p' ⋯
   |_=>cases hq
  |str i=>
   let⟨t,rfl⟩:=r;cases q with
   |int j=>let⟨t',rfl⟩:=r';show RcAt.str_int i t j t'
   |str j=>let⟨t',rfl⟩:=r';have:=RcAt.str_str (A:=A) (s:=s) i t j t';rwa[show decide (PV.str i=PV.str j)=(i == j) by simp[Yl]]
   |tup js=>let⟨b,its,rfl,p',_⟩:=r';show RcAt.str_tuple i t p' ⋯
   |_=>cases hq
  |tup ps=>
   let⟨a,its,rfl,ta,rs⟩:=r;cases q with
   |int j=>let⟨t',rfl⟩:=r';show RcAt.tuple_int j t' ta ⋯
   |str j=>let⟨t',rfl⟩:=r';show RcAt.tuple_str j t' ta ⋯
   |tup qs=>
    let⟨b,its',rfl,tb,d9⟩:=r';let kp:∀z∈ps,z.ky n=true:=Vs.mp hp;let kq:∀z∈qs,z.ky n=true:=Vs.mp hq;let l1:=rs.length;let l2:=d9.length;let key:=RcAt.tuples (A:=A) (e:=λj=>match ps[j]?,qs[j]? with|some x,a_ y=>decide (x=y)|_,_=>false) ta tb ⋯ (λj h1 h2=>by
     let ja:j<ps.length:=by simp at h1;omega
     let gj:j<qs.length:=by simp at h2;omega
     let g1:ps[j]?=a_ ps[j]:=by simp[ja]
     let g2:qs[j]?=a_ qs[j]:=by simp[gj]
     let⟨xu,o5,gu⟩:=rs.at g1;let⟨yu,qy,fe⟩:=d9.at g2;let e1:its.toArray[j]=xu:=by simpa using(SC.mp o5).2
     let e2:its'.toArray[j]=yu:=by simpa using(SC.mp qy).2
     rw[e1,e2];simp only[g1,g2];refine fE (ih (kp _<|V5 ja) (kq _<|V5 gj) (show A.units+1+n<cLine by omega) gu fe) (λev=>?_) (λf t e=>?_)
     ·subst ev;rw[HR.one gu fe];show decide_eq_true rfl
     ·subst e;generalize ps[j]=z at gu;cases z with
      |int i=>let⟨_,e⟩:=gu;cases e
      |str i=>let⟨_,e⟩:=gu;cases e
      |tup i=>let⟨_,_,e,_⟩:=gu;cases e
      |_=>exact gu.elim)
    let sz:((Vi<|min its.toArray.size its'.toArray.size).all (λj=>match ps[j]?,qs[j]? with|some x,a_ y=>decide (x=y)|_,_=>false)&&its.toArray.size == its'.toArray.size)=decide (PV.tup ps=PV.tup qs):=by
     let a1:its.toArray.size=ps.length:=by simp;omega
     let a2:its'.toArray.size=qs.length:=by simp;omega
     rw[a1,a2,WE];simp only[VA,Vs,Xd,beq_iff_eq,decide_eq_true_eq,PV.tup.injEq];constructor
     ·rintro⟨hall,hlen⟩;apply Yy hlen;intro i hi ak;have:=hall i ⋯;simpa[hi,ak] using this
     ·rintro rfl;refine⟨λx hx=>?_,rfl⟩;have:x<ps.length:=⋯;simp[this]
    rw[<-sz];show key
   |_=>cases hq
  |_=>cases hp
variable{p:PV}
def HR.noflt{h:w_}{v:s_}(r:HR h p v):∀f t,v≠.float f t:=λf t e=>by
 subst e;cases p with
 |int i=>let⟨_,e⟩:=r;cases e
 |str i=>let⟨_,e⟩:=r;cases e
 |tup i=>let⟨_,_,e,_⟩:=r;cases e
 |_=>exact r.elim
def D1{q:PV}{v:s_}(hp:p.ky n=true)(hq:q.ky n=true)(hu:A.units+n<cLine)(r:HR s.heap p v)(r':HR s.heap q u):EqAt A s v u (decide (p=q)):=fE (MB n hp hq hu r r') (λev=>by subst ev;rw[HR.one r r'];show decide_eq_true rfl) r.noflt
def Fq:∀(n m:Nat){A:v_}{E:f_ 0}{s:td}{p:PV}{v:s_}{Q:j_ Bool},p.ky n=true->n<=m->HR s.heap p v->Q true s->r_ (eqIsQuiet m v) Q E s:=by
 intro n
 induction n with
 |zero=>
  intro m A E s p v Q hk hm r h;cases p with
  |int i=>let⟨t,rfl⟩:=r;rw[eqIsQuiet_byValue _ rfl];show SL h
  |str i=>let⟨t,rfl⟩:=r;rw[eqIsQuiet_byValue _ rfl];show SL h
  |_=>cases hk
 |succ n ih=>
  intro m A E s p v Q hk hm r h;cases p with
  |int i=>let⟨t,rfl⟩:=r;rw[eqIsQuiet_byValue _ rfl];show SL h
  |str i=>let⟨t,rfl⟩:=r;rw[eqIsQuiet_byValue _ rfl];show SL h
  |tup ps=>
   let⟨a,its,rfl,⟨o,ho,hc,m',hd⟩,rs⟩:=r;let e8:∀q∈ps,q.ky n=true:=Vs.mp hk;let hT:s.TypeIs (.ref a) "tuple" := ⟨o,ho,hc⟩;obtain⟨m,rfl⟩:∃j,m=j+1:=⟨m-1,⋯⟩;unfold eqIsQuiet;refine SB (Xj hT F.slot_tuple_eq.lookup<|show u_ (isInstance (.ref a) (.type "tuple") >>= _) _ _ s from ?_)
   refine SB<|Wl hT isSubtype_tuple_tuple ?_;simp only[Bool.not_true,VL,if_false];refine SB (wpAny_seqItems ho hd<|SB<|show u_ (forIn its.toArray _ _) _ _ s from ?_);rw[<-Array.forIn_toList]
   refine wpAny_forIn_list _ (λrest r s'=>r.1=b_/\s'=s/\∃left,HRs s.heap left rest/\∀q∈left,q.ky n=true) _ ?_ ?_ _ _ ⟨rfl,rfl,ps,rs,e8⟩
   ·rintro v rest r s' ⟨hr,rfl,left,rl,kl⟩;cases left with
    |nil=>exact rl.elim
    |cons q left=>refine SB<|ih m (kl q UV) ⋯ rl.1 ?_;simp only[Bool.not_true,VL,if_false];show SL ⟨rfl,rfl,left,rl.2,λz hz=>kl z (U4 _ hz)⟩
   ·rintro⟨r1,r2⟩ s' ⟨hr,rfl,_⟩;simp only at hr;subst hr;show SL h
  |_=>cases hk
abbrev E2(prog:y_)(w:x_):HeapKind prog w PV where
 is:=λh p a=>p.ky 6=true/\HR h p (.ref a)
 hash:=hsh w
 draws:=drw
 room:=λA=>A.units+6<cLine
 inj:=λx y=>HR.one x.2 y.2
 keeps:=λx ho hd hs=>⟨x.1,HR.keep (λa it p=>D0 p ho hd hs) x.2⟩
 pyHash:=λhu x h=>Hb 6 x.1 hu x.2 h
 eqBool:=λhu x y h=>D1 x.1 y.1 hu x.2 y.2 _ _ _ _ h
 quiet:=λx h=>Fq 6 8 x.1 ⋯ x.2 h
abbrev dDO(w:x_)(a:t_)(ks:B_ (PV×t_×V)):HO:=.ext λh=>ks.length<=U9/\(a == We)=false/\∃xs:B_ (PV×t_×s_),
 Paired (λ(p:PV×t_×V)(q:PV×t_×s_)=>p.1=q.1/\p.2.1=q.2.1/\RelV p.2.2 q.2.2) ks xs/\
 ∃o es ep,h.get? a=a_ o/\o.ExactDict/\o.data=.dict es ep/\es.toList=xs.map (λx=>(⟨hsh w x.1,.ref x.2.1,x.2.2⟩:Xs))/\(xs.map (·.1)).Nodup
abbrev Hc(kd:Nat)(v d:t_):HO:=.ext λh=>match kd with
 |0=>h.IsItemsView v d
 |1=>h.IsValuesView v d
 |_=>∃o,h.get? v=a_ o/\o.cls=.type "dict_keys" /\ o.data=.fields #[.ref d]
inductive MO where
 |lst (xs:B_ PV)
 |dK (kvs:B_ (Key×PV))
 |ins (C:Str) (fs:B_ (Str×PV))
 |dD (kvs:B_ (PV×PV))
 |vw (kd d:Nat)
 |fz (o:MO)
@[reducible]def PH:=B_ MO
@[reducible]def Ev:=B_<|C_ PV
structure PX where
 cls:Str
 fs:B_ (Str×PV)
inductive Rs(α:Type) where
 |ok (a:α) (h:PH)
 |exc (x:PX) (h:PH)
 |bad
inductive Fl where
 |nx (δ:Ev) (h:PH)
 |rt (p:PV) (h:PH)
 |bk (δ:Ev) (h:PH)
 |ct (δ:Ev) (h:PH)
 |exc (x:PX) (h:PH)
 |bad
@[reducible]def Me:=Ev->PH->Rs PV
@[reducible]def Ms:=Ev->PH->Fl
@[reducible]def Fn:=Y4 0->PH->Rs PV
abbrev Rs.bind{α β:Type}(r:Rs α)(f:α->PH->Rs β):Rs β:=match r with
 |.ok a h=>f a h
 |.exc x h=>.exc x h
 |.bad=>.bad
@[simp]theorem Rs.bind_ok{α β:Type}(a:α)(h:PH)(f:α->PH->Rs β):(Rs.ok a h).bind f=f a h:=rfl
@[simp]theorem Rs.bind_exc{α β:Type}(x:PX)(h:PH)(f:α->PH->Rs β):(Rs.exc x h:Rs α).bind f=.exc x h:=rfl
@[simp]theorem Rs.bind_bad{α β:Type}(f:α->PH->Rs β):(Rs.bad:Rs α).bind f=.bad:=rfl
structure MC where
 K:UF
 cl:Str->C_ t_
 bs:B_ Str
 ex:B_ t_->Hp->PX->Prop
 w:x_
abbrev SqF(K:UF)(H:Hp)(a:t_)(xs:B_ V):Prop:=
 (∃o,H a=a_ (.frz o<|.lst xs))\/
  ∃(o:Obj)(its:YV 0)(n:Nat),K.lookup a=a_ o/\o.cls=.type "list" /\ o.dict=b_/\o.data=.seq its n/\its.size<=U9/\aK xs its.toList
def SqF.sq{xs:B_ V}(h:SqF K H a xs):ZT a xs:=by
 rcases h with⟨o,h⟩|h
 ·show .inl (.inr ⟨o,h⟩)
 ·show .inr h
abbrev Kp(H H':Hp):Prop:=kI H H'/\∀a o u,H a=a_ (.frz o u)->H' a=a_ (.frz o u)
def Kp.refl(H:Hp):Zx H:=⟨kI.refl H,λ_ _ _ h=>h⟩
def Kp.trans(a:Zx H1)(b:Kp H1 H2):Zx H2:=⟨a.1.trans b.1,λc o u h=>b.2 c o u<|a.2 c o u h⟩
def Kp.same(s:CF H H'):Zx H':=⟨kI.same s,λ_ _ _ h=>s _ _ h⟩
def Kp.new{o:HO}(h:H a=b_):Zx (S1 a o):=Kp.same<|CF.upd h
def Kp.upd{p:t_}{o:HO}(h:pW (H p)):Zx (S1 p o):=⟨kI.upd h,λa ob u q=>by
 let ne:a≠p:=by rintro rfl;rw[q]at h;show h
 rw[aH ne];show q⟩
def Kp.lst{p:t_}{o:HO}{xs:B_ V}(h:H p=a_ (.lst xs)):Zx (L2.upd H p o):=Kp.upd (by rw[h];trivial)
def Kp.dK{p:t_}{o:HO}{xs:B_ (Key×V)}(h:H p=a_ (.dK xs)):Zx (L2.upd H p o):=Kp.upd (by rw[h];trivial)
def Kp.sq{xs:B_ V}(t:Zx H')(h:ZE a xs):SqT K H' a xs:=t.1.sq h
def Kp.sf{xs:B_ V}(t:Zx H')(h:SqF K H a xs):SqF K H' a xs:=by
 rcases h with⟨o,h⟩|h
 ·show .inl ⟨o,t.2 _ _ _ h⟩
 ·show .inr h
section
variable(C:MC)(φ:B_ t_)(H:Hp)
mutual
def RV:PV->V->Prop
 |.non,v=>v=.non
 |.bl b,v=>v=.bl b
 |.int i,v=>v=.int i
 |.str x,v=>v=.str x
 |.ty n,v=>v=.ty n
 |.tup ps,v=>∃a vs,v=.ref a/\SqT C.K H a vs/\RVs ps vs
 |.ref n,v=>∃a,v=.ref a/\φ[n]?=a_ a
 |.fl ps,v=>∃a vs,v=.ref a/\SqF C.K H a vs/\RVs ps vs
def RVs:Y4 0->B_ V->Prop
 |[],[]=>True
 |p::ps,v::vs=>RV p v/\RVs ps vs
 |[],_::_=>False
 |_::_,[]=>False
end
abbrev RKv{κ:Type}:B_ (κ×PV)->B_ (κ×V)->Prop:=Paired λp q=>p.1=q.1/\D_ p.2 q.2
abbrev RKd:B_ (PV×PV)->B_ (PV×t_×V)->Prop:=Paired λp q=>p.1=q.1/\p.1.ky 6=true/\D_ p.1 (.ref q.2.1)/\D_ p.2 q.2.2
abbrev RO(a:t_):MO->Prop
 |.lst ps=>∃vs,H a=a_ (.lst vs)/\E_ ps vs
 |.dK kvs=>∃ks,H a=a_ (.dK ks)/\Zh kvs ks
 |.ins n fs=>∃c dx ks,C.cl n=a_ c/\H a=a_ (.ins c dx ks)/\Zh fs ks
 |.dD kvs=>∃ks,H a=a_ (dDO C.w a ks)/\q0b 0
 |.vw kd d=>∃b,φ[d]?=a_ b/\H a=a_ (Hc kd a b)
 |.fz (.dK kvs)=>∃ob ks,H a=a_ (.frz ob<|.dK ks)/\Zh kvs ks
 |.fz (.dD kvs)=>∃ob ks,H a=a_ (.frz ob<|dDO C.w a ks)/\q0b 0
 |.fz _=>False
structure RH(h:PH):Prop where
 len:φ.length=h.length
 nd:φ.Nodup
 at':∀(n:Nat)(a:t_)(o:MO),φ[n]?=some a->h[n]?=some o->RO C φ H a o
abbrev RE(δ:Ev)(σ:St):Prop:=δ.length=σ.length/\∀(i:Nat)(p:PV),δ[i]?=a_ (a_ p)->∃v,σ[i]?=a_ (a_ v)/\D_ p v
end
def dU{α:Type}{l l':B_ α}(p:l<+:l'){a:α}(h:l[n]?=a_ a):l'[n]?=a_ a:=by let⟨t,rfl⟩:=p;have:=(SC.mp h).1;rw[VR this];show h
abbrev Kq(H H':Hp):Prop:=kI H H'/\∀a o xs,H a=a_ (.frz o<|.lst xs)->H' a=a_ (.frz o<|.lst xs)
def Kp.q(t:Zx H'):Kq H H':=⟨t.1,λa o xs h=>t.2 a o _ h⟩
def Kq.sq{xs:B_ V}(t:Kq H H')(h:ZE a xs):SqT K H' a xs:=t.1.sq h
def Kq.sf{xs:B_ V}(t:Kq H H')(h:SqF K H a xs):SqF K H' a xs:=by
 rcases h with⟨o,h⟩|h
 ·show .inl ⟨o,t.2 _ _ _ h⟩
 ·show .inr h
mutual
theorem RV.monoQ(p:φ<+:φ')(t:Kq H H'):∀{x:PV}{v:V},D_ x v->RV C φ' H' x v
 |.non,_,h=>h
 |.bl _,_,h=>h
 |.int _,_,h=>h
 |.str _,_,h=>h
 |.ty _,_,h=>h
 |.tup _,_,⟨a,vs,e,q,r⟩=>⟨a,vs,e,t.sq q,RVs.monoQ p t r⟩
 |.ref _,_,⟨a,e,q⟩=>⟨a,e,dU p q⟩
 |.fl _,_,⟨a,vs,e,q,r⟩=>⟨a,vs,e,t.sf q,RVs.monoQ p t r⟩
theorem RVs.monoQ(p:φ<+:φ')(t:Kq H H'):∀{xs:Y4 0}{vs:B_ V},ZR 0->RVs C φ' H' xs vs
 |[],[],_=>trivial
 |_::_,_::_,⟨h,r⟩=>⟨RV.monoQ p t h,RVs.monoQ p t r⟩
 |[],_::_,h=>h.elim
 |_::_,[],h=>h.elim
end
variable{C:MC}{φ φ':B_ t_}
def RV.mono(p:φ<+:φ')(t:Zx H'){x:PV}(h:D_ x v):RV C φ' H' x v:=RV.monoQ p t.q h
variable{xs:Y4 0}
def RVs.mono(p:φ<+:φ')(t:Zx H')(h:ZR 0):RVs C φ' H' xs vs:=RVs.monoQ p t.q h
def RVs.length:∀{xs:Y4 0}{vs:B_ V},ZR 0->xs.length=vs.length
 |[],[],_=>rfl
 |_::_,_::_,⟨_,r⟩=>by simp[RVs.length r]
 |[],_::_,h=>h.elim
 |_::_,[],h=>h.elim
def RVs.get:∀{xs:Y4 0}{vs:B_ V}{i:Nat}{v:V},ZR 0->vs[i]?=a_ v->∃x,xs[i]?=a_ x/\D_ x v
 |[],[],_,_,_,e=>by simp at e
 |x::_,w::_,0,v,⟨h,_⟩,e=>by
  have:w=v:=by simpa using e
  subst this;show⟨x,rfl,h⟩
 |_::xs,_::vs,i+1,v,⟨_,r⟩,e=>by
  let⟨x,h1,h2⟩:=RVs.get (xs:=xs) (vs:=vs) (i:=i) (v:=v) r<|l_ e;show⟨x,l_ h1,h2⟩
 |[],_::_,_,_,h,_=>h.elim
 |_::_,[],_,_,h,_=>h.elim
def RVs.at:∀{xs:Y4 0}{vs:B_ V}{i:Nat}{x:PV},ZR 0->xs[i]?=a_ x->∃v,vs[i]?=a_ v/\D_ x v
 |[],[],_,_,_,e=>by simp at e
 |x::_,w::_,0,x',⟨h,_⟩,e=>by
  have:x=x':=by simpa using e
  subst this;show⟨w,rfl,h⟩
 |_::xs,_::vs,i+1,x,⟨_,r⟩,e=>by
  let⟨v,h1,h2⟩:=RVs.at (xs:=xs) (vs:=vs) (i:=i) (x:=x) r<|l_ e;show⟨v,l_ h1,h2⟩
 |[],_::_,_,_,h,_=>h.elim
 |_::_,[],_,_,h,_=>h.elim
def RVs.append:∀{xs ys:Y4 0}{vs us:B_ V},ZR 0->E_ ys us->E_ (xs++ys) (vs++us)
 |[],_,[],_,_,h=>h
 |_::_,_,_::_,_,⟨h,r⟩,h'=>⟨h,RVs.append r h'⟩
 |[],_,_::_,_,h,_=>h.elim
 |_::_,_,[],_,h,_=>h.elim
def RVs.snoc{x:PV}(r:ZR 0)(h:D_ x v):E_ (xs++[x]) (vs++[v]):=r.append ⟨h,trivial⟩
def RVs.drop:∀{xs:Y4 0}{vs:B_ V}(n:Nat),ZR 0->E_ (xs.drop n) (vs.drop n)
 |_,_,0,h=>h
 |[],[],_+1,_=>trivial
 |_::_,_::_,n+1,⟨_,r⟩=>RVs.drop n r
 |[],_::_,_+1,h=>h.elim
 |_::_,[],_+1,h=>h.elim
def RVs.take:∀{xs:Y4 0}{vs:B_ V}(n:Nat),ZR 0->E_ (xs.take n) (vs.take n)
 |[],[],0,_=>trivial
 |_::_,_::_,0,_=>trivial
 |[],[],_+1,_=>trivial
 |_::_,_::_,n+1,⟨h,r⟩=>⟨h,RVs.take n r⟩
 |[],_::_,_,h=>h.elim
 |_::_,[],_,h=>h.elim
def RVs.set{x:PV}(h:D_ x v):∀{xs:Y4 0}{vs:B_ V}(n:Nat),ZR 0->E_ (xs.set n x) (vs.set n v)
 |[],[],_,_=>trivial
 |_::_,_::_,0,⟨_,r⟩=>⟨h,r⟩
 |_::_,_::_,n+1,⟨q,r⟩=>⟨q,RVs.set h n r⟩
 |[],_::_,_,h=>h.elim
 |_::_,[],_,h=>h.elim
def RVs.reverse:∀{xs:Y4 0}{vs:B_ V},ZR 0->E_ xs.reverse vs.reverse
 |[],[],_=>trivial
 |_::_,_::_,⟨h,r⟩=>by simp only[List.reverse_cons];show(RVs.reverse r).append ⟨h,trivial⟩
 |[],_::_,h=>h.elim
 |_::_,[],h=>h.elim
def RKv.monoQ{κ:Type}(p:φ<+:φ')(t:Kq H H'){x:B_ (κ×PV)}{v:B_ (κ×V)}(h:Zh x v):RKv C φ' H' x v:=Paired.mapP h λ_ _ q=>⟨q.1,q.2.monoQ p t⟩
def RKd.monoQ(p:φ<+:φ')(t:Kq H H'){x:B_ (PV×PV)}{v:B_ (PV×t_×V)}(h:RKd C φ H x v):RKd C φ' H' x v:=Paired.mapP h λ_ _ q=>⟨q.1,q.2.1,q.2.2.1.monoQ p t,q.2.2.2.monoQ p t⟩
def RKv.mono{κ:Type}(p:φ<+:φ')(t:Zx H'){x:B_ (κ×PV)}{v:B_ (κ×V)}(h:Zh x v):RKv C φ' H' x v:=Paired.mapP h λ_ _ q=>⟨q.1,q.2.mono p t⟩
def RKd.mono(p:φ<+:φ')(t:Zx H'){x:B_ (PV×PV)}{v:B_ (PV×t_×V)}(h:RKd C φ H x v):RKd C φ' H' x v:=Paired.mapP h λ_ _ q=>⟨q.1,q.2.1,q.2.2.1.mono p t,q.2.2.2.mono p t⟩
variable{δ:Ev}
def RE.mono(p:φ<+:φ')(t:Zx H'){σ:St}(h:Y5 0):RE C φ' H' δ σ:=⟨h.1,λi x e=>let ⟨v,q,r⟩:=h.2 i x e;⟨v,q,r.mono p t⟩⟩
def RE.set{σ:St}{x:PV}(h:Y5 0)(r:D_ x v)(i:Nat):RE C φ H (δ.set i<|a_ x) (σ.set i<|a_ v):=by
 refine⟨by rw[Wv,Wv];show h.1,λj p e=>?_⟩;by_cases hj:i=j
 ·subst hj;by_cases hl:i<δ.length
  ·rw[VW hl]at e;cases e
   show⟨v,by rw[VW (by rw[<-h.1];show hl)],r⟩
  ·rw[Xy (by rw[Wv];omega)]at e;cases e
 ·rw[VD hj]at e;rw[VD hj];show h.2 j p e
variable{o:MO}
def RO.stayQ(p:φ<+:φ')(t:Kq H H')(e:H' a=H a)(h:RO C φ H a o):RO C φ' H' a o:=by
 cases o with
 |lst ps=>let⟨vs,q,r⟩:=h;show⟨vs,e.trans q,r.monoQ p t⟩
 |dK ps=>let⟨vs,q,r⟩:=h;show⟨vs,e.trans q,r.monoQ p t⟩
 |ins n fs=>let⟨c,dx,ks,hc,q,r⟩:=h;show⟨c,dx,ks,hc,e.trans q,r.monoQ p t⟩
 |dD kvs=>let⟨ks,q,r⟩:=h;show⟨ks,e.trans q,r.monoQ p t⟩
 |vw kd d=>let⟨b,hb,q⟩:=h;show⟨b,dU p hb,e.trans q⟩
 |fz o=>
  cases o with
  |dK kvs=>let⟨ob,ks,q,r⟩:=h;show⟨ob,ks,e.trans q,r.monoQ p t⟩
  |dD kvs=>let⟨ob,ks,q,r⟩:=h;show⟨ob,ks,e.trans q,r.monoQ p t⟩
  |_=>exact h.elim
def RO.stay(p:φ<+:φ')(t:Zx H')(e:H' a=H a)(h:RO C φ H a o):RO C φ' H' a o:=h.stayQ p t.q e
def RO.some(h:RO C φ H a o):∃u,H a=a_ u:=by
 cases o with
 |lst ps=>let⟨vs,q,r⟩:=h;show⟨_,q⟩
 |dK ps=>let⟨vs,q,r⟩:=h;show⟨_,q⟩
 |ins n fs=>let⟨c,dx,ks,hc,q,r⟩:=h;show⟨_,q⟩
 |dD kvs=>let⟨ks,q,r⟩:=h;show⟨_,q⟩
 |vw kd d=>let⟨b,hb,q⟩:=h;show⟨_,q⟩
 |fz o=>
  cases o with
  |dK kvs=>let⟨ob,ks,q,r⟩:=h;show⟨_,q⟩
  |dD kvs=>let⟨ob,ks,q,r⟩:=h;show⟨_,q⟩
  |_=>exact h.elim
variable{h:PH}
def RH.get(r:J_ h)(e:h[n]?=a_ o):∃a,φ[n]?=a_ a/\RO C φ H a o:=by
 let hn:=(SC.mp e).1;have:n<φ.length:=by rw[r.len];show hn
 show⟨φ[n],by simp[this],r.at' n _ o (by simp[this]) e⟩
def RH.tracked(r:J_ h)(e:φ[n]?=a_ a):∃u,H a=a_ u:=by
 let hn:=(SC.mp e).1;have:n<h.length:=by rw[<-r.len];show hn
 show(r.at' n a h[n] e<|by simp[this]).some
def RH.aside(r:J_ h){o:HO}(e:H a=b_):RH C φ (S1 a o) h:=⟨r.len,r.nd,λn b ob h1 h2=>by let q:=r.at' n b ob h1 h2;let⟨u,hu⟩:=q.some;show q.stay (U7) (Kp.new e)<|aH<|cR hu e⟩
def RH.new(r:J_ h){u:HO}(e:H a=b_)(q:RO C (φ++[a]) (S1 a u) a o):RH C (φ++[a]) (S1 a u) (h++[o]):=by
 refine⟨by simp[r.len],?_,λn b ob h1 h2=>?_⟩
 ·rw[Xg];refine⟨r.nd,by simp,λx hx y hy z=>?_⟩;rw[Va]at hy;subst hy z;let⟨n,hn⟩:=List.mem_iff_getElem?.mp hx;let⟨u',hu⟩:=r.tracked hn;rw[e]at hu;cases hu
 ·by_cases hn:n<φ.length
  ·rw[VR hn]at h1;rw[VR (by rw[<-r.len];show hn)]at h2;let q':=r.at' n b ob h1 h2;let⟨u',hu⟩:=q'.some;show q'.stay (Vv _ _) (Kp.new e)<|aH<|cR hu e
  ·let ue:n=φ.length:=by have:=(SC.mp h1).1;simp at this;omega
   subst ue;rw[Wq<|U1 _,Nat.sub_self]at h1;rw[r.len,Wq<|U1 _,Nat.sub_self]at h2;cases h1
   cases h2
   show q
def RH.write(r:J_ h){u:HO}(e:φ[n]?=a_ a)(t:pW (H a))(q:RO C φ (S1 a u) a o):RH C φ (S1 a u) (ZL o):=by
 refine⟨by rw[Wv];show r.len,r.nd,λm b ob h1 h2=>?_⟩;by_cases hm:n=m
 ·subst hm;rw[e]at h1;cases h1;let hl:n<h.length:=by rw[<-r.len];show(SC.mp e).1
  rw[VW hl]at h2;cases h2
  show q
 ·rw[VD hm]at h2;let hb:b≠a:=λz=>by subst z;show hm ((List.getElem?_inj (SC.mp e).1 r.nd).mp<|e.trans h1.symm)
  show(r.at' m b ob h1 h2).stay U7 (Kp.upd t) (aH hb)
section
variable(C:MC)(φ:B_ t_)(H:Hp)
abbrev post(r:Rs PV)(Q:VK):Prop:=match r with
 |.ok p h=>∀φ' v H',φ<+:φ'->Zx H'->Zi h->RV C φ' H' p v->Q v H'
 |.exc x h=>∀φ' H',φ<+:φ'->Zx H'->Zi h->C.ex φ' H' x
 |.bad=>False
abbrev bR(r:ZI 0)(Q:Bool->Hp->Prop):Prop:=match r with
 |.ok b h=>∀φ' H',φ<+:φ'->Zx H'->Zi h->Q b H'
 |.exc x h=>∀φ' H',φ<+:φ'->Zx H'->Zi h->C.ex φ' H' x
 |.bad=>False
abbrev postA(r:Rs (Y4 0))(Q:B_ V->Hp->Prop):Prop:=match r with
 |.ok ps h=>∀φ' vs H',φ<+:φ'->Zx H'->Zi h->RVs C φ' H' ps vs->Q vs H'
 |.exc x h=>∀φ' H',φ<+:φ'->Zx H'->Zi h->C.ex φ' H' x
 |.bad=>False
abbrev bN(r:Fl)(D:Ends):Prop:=match r with
 |.nx δ h=>∀φ' σ H',φ<+:φ'->Zx H'->Zi h->RE C φ' H' δ σ->D.nx σ H'
 |.rt p h=>∀φ' v H',φ<+:φ'->Zx H'->Zi h->RV C φ' H' p v->D.rt v H'
 |.bk δ h=>∀φ' σ H',φ<+:φ'->Zx H'->Zi h->RE C φ' H' δ σ->D.bk σ H'
 |.ct δ h=>∀φ' σ H',φ<+:φ'->Zx H'->Zi h->RE C φ' H' δ σ->D.ct σ H'
 |.exc x h=>∀φ' H',φ<+:φ'->Zx H'->Zi h->C.ex φ' H' x
 |.bad=>False
end
variable{φ1:B_ t_}
def post.weak{r:Rs PV}{Q:VK}(p:φ<+:φ1)(t:Zx H1)(h:P2 r Q):post C φ1 H1 r Q:=by
 cases r with
 |ok a h'=>exact λφ' v H' p' t'=>h φ' v H' (p.trans p') (t.trans t')
 |exc a h'=>exact λφ' H' p' t'=>h φ' H' (p.trans p') (t.trans t')
 |bad=>exact h
def bR.weak{r:ZI 0}{Q:Bool->Hp->Prop}(p:φ<+:φ1)(t:Zx H1)(h:bR C φ H r Q):bR C φ1 H1 r Q:=by
 cases r with
 |ok a h'=>exact λφ' H' p' t'=>h φ' H' (p.trans p') (t.trans t')
 |exc a h'=>exact λφ' H' p' t'=>h φ' H' (p.trans p') (t.trans t')
 |bad=>exact h
def postA.weak{r:Rs (Y4 0)}{Q:B_ V->Hp->Prop}(p:φ<+:φ1)(t:Zx H1)(h:postA C φ H r Q):postA C φ1 H1 r Q:=by
 cases r with
 |ok a h'=>exact λφ' v H' p' t'=>h φ' v H' (p.trans p') (t.trans t')
 |exc a h'=>exact λφ' H' p' t'=>h φ' H' (p.trans p') (t.trans t')
 |bad=>exact h
def bN.weak{r:Fl}{D:Ends}(p:φ<+:φ1)(t:Zx H1)(h:bN C φ H r D):bN C φ1 H1 r D:=by
 cases r with
 |nx a h'=>exact λφ' v H' p' t'=>h φ' v H' (p.trans p') (t.trans t')
 |rt a h'=>exact λφ' v H' p' t'=>h φ' v H' (p.trans p') (t.trans t')
 |bk a h'=>exact λφ' v H' p' t'=>h φ' v H' (p.trans p') (t.trans t')
 |ct a h'=>exact λφ' v H' p' t'=>h φ' v H' (p.trans p') (t.trans t')
 |exc a h'=>exact λφ' H' p' t'=>h φ' H' (p.trans p') (t.trans t')
 |bad=>exact h
def post.imp{r:Rs PV}{Q Q':VK}(h:P2 r Q)(i:∀v H',Q v H'->Q' v H'):P2 r Q':=by
 cases r with
 |ok a h'=>exact λφ' v H' p t rh rv=>i v H' (h φ' v H' p t rh rv)
 |exc a h'=>exact h
 |bad=>exact h
def post.bind{r:Rs PV}{f:PV->PH->Rs PV}{Q:VK}(h:P2 (r.bind f) Q):P2 r λv H1=>∃φ1 p h1,φ<+:φ1/\Zx H1/\Zj 0/\RV C φ1 H1 p v/\post C φ1 H1 (f p h1) Q:=by
 cases r with
 |ok a h'=>exact λφ' v H' p t rh rv=>⟨φ',a,h',p,t,rh,rv,post.weak p t h⟩
 |exc a h'=>exact h
 |bad=>exact h
def post.bindB{r:Rs PV}{f:PV->PH->ZI 0}{Q:Bool->Hp->Prop}(h:bR C φ H (r.bind f) Q):P2 r λv H1=>∃φ1 p h1,φ<+:φ1/\Zx H1/\Zj 0/\RV C φ1 H1 p v/\bR C φ1 H1 (f p h1) Q:=by
 cases r with
 |ok a h'=>exact λφ' v H' p t rh rv=>⟨φ',a,h',p,t,rh,rv,bR.weak p t h⟩
 |exc a h'=>exact h
 |bad=>exact h
def bR.bind{r:ZI 0}{f:Bool->PH->Rs PV}{Q:VK}(h:P2 (r.bind f) Q):bR C φ H r λb H1=>∃φ1 h1,φ<+:φ1/\Zx H1/\Zj 0/\post C φ1 H1 (f b h1) Q:=by
 cases r with
 |ok a h'=>exact λφ' H' p t rh=>⟨φ',h',p,t,rh,post.weak p t h⟩
 |exc a h'=>exact h
 |bad=>exact h
def bR.bindB{r:ZI 0}{f:Bool->PH->ZI 0}{Q:Bool->Hp->Prop}(h:bR C φ H (r.bind f) Q):bR C φ H r λb H1=>∃φ1 h1,φ<+:φ1/\Zx H1/\Zj 0/\bR C φ1 H1 (f b h1) Q:=by
 cases r with
 |ok a h'=>exact λφ' H' p t rh=>⟨φ',h',p,t,rh,bR.weak p t h⟩
 |exc a h'=>exact h
 |bad=>exact h
def postA.bind{r:Rs (Y4 0)}{f:Y4 0->PH->Rs PV}{Q:VK}(h:P2 (r.bind f) Q):postA C φ H r λvs H1=>∃φ1 ps h1,φ<+:φ1/\Zx H1/\Zj 0/\RVs C φ1 H1 ps vs/\post C φ1 H1 (f ps h1) Q:=by
 cases r with
 |ok a h'=>exact λφ' v H' p t rh rv=>⟨φ',a,h',p,t,rh,rv,post.weak p t h⟩
 |exc a h'=>exact h
 |bad=>exact h
def postA.bindA{r:Rs (Y4 0)}{f:Y4 0->PH->Rs (Y4 0)}{Q:B_ V->Hp->Prop}(h:postA C φ H (r.bind f) Q):postA C φ H r λvs H1=>∃φ1 ps h1,φ<+:φ1/\Zx H1/\Zj 0/\RVs C φ1 H1 ps vs/\postA C φ1 H1 (f ps h1) Q:=by
 cases r with
 |ok a h'=>exact λφ' v H' p t rh rv=>⟨φ',a,h',p,t,rh,rv,postA.weak p t h⟩
 |exc a h'=>exact h
 |bad=>exact h
def post.bindA{r:Rs PV}{f:PV->PH->Rs (Y4 0)}{Q:B_ V->Hp->Prop}(h:postA C φ H (r.bind f) Q):P2 r λv H1=>∃φ1 p h1,φ<+:φ1/\Zx H1/\Zj 0/\RV C φ1 H1 p v/\postA C φ1 H1 (f p h1) Q:=by
 cases r with
 |ok a h'=>exact λφ' v H' p t rh rv=>⟨φ',a,h',p,t,rh,rv,postA.weak p t h⟩
 |exc a h'=>exact h
 |bad=>exact h
def post.val{Q:VK}(q:P2 (.ok p h) Q)(rh:J_ h)(rv:D_ p v):Q v H:=q φ v H U7 (Kp.refl H) rh rv
structure Cxt(C:MC)(k:Nat)(X:Cx):Prop where
 K:X.K=C.K
 calm:X.calm=true
 room:eI k X.A
 bn:∀x∈C.bs,X.mg x=none
 w:X.w=C.w
def Cxt.hu{k:Nat}(c:Y2 X):X.A.units+1<cLine:=Oq c.room
def Cxt.hu64{k:Nat}(c:Y2 X):X.A.units+64<cLine:=c.room.units
def Cxt.comp{k:Nat}(c:Y2 X)(sc:Scope)(N:Zf 0)(a:t_)(fp:B_ t_)(s:td)(H:Hp):Y2 (S2 N a fp s H):=⟨c.K,c.calm,c.room,c.bn,c.w⟩
section
variable(C:MC)
abbrev rd(m:Me):TE:=λσ H Q=>∃φ δ h,J_ h/\Y5 0/\P2 (m δ h) Q
abbrev rdB(m:Ev->PH->ZI 0):TT:=λσ H Q=>∃φ δ h,J_ h/\Y5 0/\bR C φ H (m δ h) Q
abbrev rdA(m:Ev->PH->Rs (Y4 0)):TA:=λσ H Q=>∃φ δ h,J_ h/\Y5 0/\postA C φ H (m δ h) Q
abbrev rdS(m:Ms):TS:=λD σ H=>∃φ δ h,J_ h/\Y5 0/\bN C φ H (m δ h) D
abbrev r2(g:PV->PV->PH->Rs PV):R2:=λx y H Q=>∃φ h p q,J_ h/\D_ p x/\D_ q y/\P2 (g p q h) Q
abbrev r1(g:PV->PH->Rs PV):V->Hp->VK->Prop:=λx H Q=>∃φ h p,J_ h/\D_ p x/\P2 (g p h) Q
abbrev rL(g:Y4 0->PH->Rs PV):B_ V->Hp->VK->Prop:=λxs H Q=>∃φ h ps,J_ h/\E_ ps xs/\P2 (g ps h) Q
end
variable{C:MC}{k:Nat}{X:Cx}
abbrev SE(C:MC)(k:Nat)(X:Cx)(e:z_)(m:Me):Prop:=Y2 X->Zr e (rd C m)
abbrev ST(C:MC)(k:Nat)(X:Cx)(e:z_)(m:Ev->PH->ZI 0):Prop:=Y2 X->PT X e (rdB C m)
abbrev SA(C:MC)(k:Nat)(X:Cx)(es:B_ z_)(m:Ev->PH->Rs (Y4 0)):Prop:=Y2 X->PA X es (rdA C m)
abbrev SSt(C:MC)(k:Nat)(X:Cx)(st:A_)(m:Ms):Prop:=Y2 X->PS X st (rdS C m)
abbrev SSs(C:MC)(k:Nat)(X:Cx)(st:B_ A_)(m:Ms):Prop:=Y2 X->PSs X st (rdS C m)
abbrev OpS(C:MC)(k:Nat)(X:Cx)(f:s_->s_->Sem s_)(g:PV->PV->PH->Rs PV):Prop:=Y2 X->Y3 f (r2 C g)
abbrev mD(C:MC)(k:Nat)(X:Cx)(f:s_)(g:Y4 0->PH->Rs PV):Prop:=Y2 X->cS X f (rL C g)
abbrev An:Ev->Nat->C_ PV
 |[],_=>b_
 |x::_,0=>x
 |_::r,n+1=>An r n
@[simp]theorem Fs(x:C_ PV)(r:Ev):An (x::r) 0=x:=(rfl)
@[simp]theorem Ft(x:C_ PV)(r:Ev)(n:Nat):An (x::r) (n+1)=An r n:=(rfl)
def vJ:∀{δ:Ev}{i:Nat}{p:PV},An δ i=a_ p->δ[i]?=a_ (a_ p)
 |[],_,_,h=>by cases h
 |x::_,0,p,h=>by let h':x=a_ p:=h;simp[h']
 |_::r,n+1,p,h=>by rw[Wn];show vJ (δ:=r) (i:=n) h
abbrev mV(i:Nat):Me:=λδ h=>match An δ i with
 |some p=>.ok p h
 |none=>.bad
abbrev mC(p:PV):Me:=λ_ h=>.ok p h
def OH(i:Nat)(hN:X.N[i]?=a_ x:=by rfl)(hv:Vis X.env.scope x:=by first|exact Or.inl rfl|exact Or.inr (Or.inl rfl)|exact Or.inr (Or.inr rfl))(hd:(x == ("__debug__" : Str))=false:=by decide)(g8:(x == ("__classdict__" : Str))=false:=by decide):G_ (.Name x pos) (mV i):=λ_=>by
 refine(Ga hN hv hd g8).imp λσ H Q h=>?_;let⟨φ,δ,h,rh,re,p⟩:=h;unfold mV at p;cases e:An δ i with
 |none=>rw[e]at p;show p.elim
 |some x=>rw[e]at p;let⟨v,hv,rv⟩:=re.2 i x<|vJ e;show⟨v,hv,p.val rh rv⟩
def OI{i j pos}:G_ (.Constant (.int i) j pos) (mC<|.int i):=λ_=>LB.imp λσ H Q ⟨φ,δ,h,rh,re,p⟩=>p.val rh rfl
def R1{i j pos}:G_ (.Constant (.bool i) j pos) (mC<|.bl i):=λ_=>O1.imp λσ H Q ⟨φ,δ,h,rh,re,p⟩=>p.val rh rfl
def OJ{j pos}:G_ (.Constant .none j pos) (mC .non):=λ_=>LC.imp λσ H Q ⟨φ,δ,h,rh,re,p⟩=>p.val rh rfl
def OK{i j pos}:G_ (.Constant (.str i) j pos) (mC<|.str i):=λ_=>LD.imp λσ H Q ⟨φ,δ,h,rh,re,p⟩=>p.val rh rfl
def MD{n:String}(hv:Xp x=a_ (.type n))(hb:x∈C.bs:=by decide)(hg:Gl X x:=by rfl)(hn:x≠"__name__" := by decide)(hd:(x == ("__debug__" : Str))=false:=by decide):G_ (.Name x pos) (mC<|.ty n):=λc=>(J6 (v:=.ty n) hg (c.bn x hb) hv rfl hn hd).imp λσ H Q ⟨φ,δ,h,rh,re,p⟩=>p.val rh rfl
abbrev aB(g:PV->PV->PH->Rs PV)(ma mb:Me):Me:=λδ h=>(ma δ h).bind λx h1=>(mb δ h1).bind λy h2=>g x y h2
variable{ma mb:Me}
def E3{g:PV->PV->PH->Rs PV}{σ:St}{Q:VK}(h:rd C (aB g ma mb) σ H Q):tOp (r2 C g) (rd C ma) (rd C mb) σ H Q:=by let⟨φ,δ,h,rh,re,p⟩:=h;refine⟨φ,δ,h,rh,re,(post.bind p).imp ?_⟩;rintro v H1 ⟨φ1,x,h1,p1,t1,aa,ab,q1⟩;refine⟨φ1,δ,h1,aa,Q_ 0,(post.bind q1).imp ?_⟩;rintro u H2 ⟨φ2,y,h2,p2,t2,ah,c6,q2⟩;show⟨φ2,h2,x,y,ah,ab.mono p2 t2,c6,q2⟩
variable{op:CmpOp}
section
variable{a b:z_}{g:PV->PV->PH->Rs PV}
def OL{op:Operator}(ho:Y0 (Wx op) g)(ha:G_ a ma)(hb:G_ b mb):G_ (.BinOp a op b pos) (aB g ma mb):=λc=>(O8 (ho c) (ha c)<|hb c).imp λσ H Q h=>E3 h
def OM(ho:Y0 (VC op) g)(ha:G_ a ma)(hb:G_ b mb)(hm:behindInMarks op b=false:=by first|exact Gh _|rfl):G_ (.Compare a [op] [b] pos) (aB g ma mb):=λc=>(Jh (ho c) (ha c) (hb c) hm).imp λσ H Q h=>E3 h
abbrev mUn(g:PV->PH->Rs PV)(ma:Me):Me:=λδ h=>(ma δ h).bind g
end
abbrev aM(h:PH)(n:Nat):C_ (Y4 0):=match h[n]? with
 |some (.lst xs)=>a_ xs
 |_=>b_
def bK(rh:J_ h)(e:aM h n=a_ xs):∃a vs,φ[n]?=a_ a/\SqL C.K H a vs/\ZR 0:=by
 unfold aM at e;cases q:h[n]? with
 |none=>rw[q]at e;cases e
 |some o=>
  rw[q]at e;let⟨a,ha,ro⟩:=rh.get q;cases o with
  |lst ys=>cases e;let⟨vs,q',r⟩:=ro;show⟨a,vs,ha,SqL.of q',r⟩
  |_=>cases e
abbrev bT(h:PH)(n:Nat):C_ (Y4 0):=match h[n]? with
 |some (.lst xs)=>a_ xs
 |_=>b_
def fV(e:bT h n=a_ xs):h[n]?=a_ (.lst xs):=by
 unfold bT at e;cases q:h[n]? with
 |none=>rw[q]at e;cases e
 |some o=>
  rw[q]at e;cases o with
  |lst ys=>cases e;rfl
  |_=>cases e
abbrev dM(x:PV)(h:PH):C_ (Y4 0):=match x with
 |.ref n=>aM h n
 |.fl xs=>a_ xs
 |_=>b_
def fW{x:PV}(rh:J_ h)(rv:D_ x v)(e:dM x h=a_ xs):∃a vs,v=.ref a/\SqL C.K H a vs/\ZR 0:=by
 cases x with
 |ref n=>let⟨a,rfl,ha⟩:=rv;let⟨a2,vs,aj,sa,ra⟩:=bK rh e;rw[ha]at aj;cases aj;show⟨a,vs,rfl,sa,ra⟩
 |fl ys=>
  cases e
  let⟨a,vs,rfl,sa,ra⟩:=rv;show⟨a,vs,rfl,sa.sq,ra⟩
 |_=>cases e
abbrev Lh:Y4 0->Bool
 |[]=>true
 |_::_=>false
abbrev Hd:PV->PV->PH->Rs PV:=λx y h=>match x,y with
 |.int i,.int j=>.ok (.int<|i+j) h
 |.str i,.str j=>if i.length+j.length<=U9 then .ok (.str<|i++j) h else .bad
 |.tup xs,.tup ys=>if Lh xs=false/\xs.length+ys.length<=U9 then .ok (.tup<|xs++ys) h else .bad
 |.ref a,.ref b=>match bT h a,bT h b with
  |some xs,a_ ys=>if xs.length+ys.length<=U9 then .ok (.ref h.length) (h++[.lst<|xs++ys]) else .bad
  |_,_=>.bad
 |_,_=>.bad
def post.ite{c:Prop}[Decidable c]{r:Rs PV}{Q:VK}(h:P2 (if c then r else .bad) Q):c/\P2 r Q:=by
 by_cases hc:c
 ·rw[if_pos hc]at h;show⟨hc,h⟩
 ·rw[if_neg hc]at h;show h.elim
def post.lnew{Q:VK}(q:P2 (.ok (.ref h.length)<|h++[.lst xs]) Q)(rh:J_ h)(r:ZR 0){p:t_}(hp:H p=b_):Q (.ref p) (S1 p<|.lst vs):=q (φ++[p]) (.ref p) _ (Vv _ _) (Kp.new hp) (rh.new hp ⟨vs,aL,r.mono (Vv _ _)<|Kp.new hp⟩) ⟨p,rfl,by rw[<-rh.len];simp⟩
def post.tnew{Q:VK}(q:P2 (.ok (.tup xs) h) Q)(rh:J_ h)(r:ZR 0){p:t_}(hp:H p=b_):Q (.ref p) (S1 p<|.tup vs):=q φ (.ref p) _ U7 (Kp.new hp) (rh.aside hp) ⟨p,vs,rfl,SqT.of aL,r.mono U7<|Kp.new hp⟩
def post.lset{ws:B_ V}{Q:VK}(q:P2 (.ok p<|ZL<|.lst xs) Q)(rh:J_ h)(e:φ[n]?=a_ a)(hl:H a=a_ (.lst ws))(r:ZR 0)(rv:D_ p v):Q v (S1 a<|.lst vs):=q φ v _ U7 (Kp.lst hl) (rh.write e (by rw[hl];trivial) ⟨vs,aL,r.mono U7<|Kp.lst hl⟩)<|rv.mono U7<|Kp.lst hl
def He(r:ZR 0)(h:Lh xs=false):vs≠[]:=by
 cases xs with
 |nil=>cases h
 |cons x xs=>
  cases vs with
  |nil=>exact r.elim
  |cons=>intro z;cases z
def ON:Y0 (Wx .Add) Hd:=λc=>(Jy C.K c.K).imp λx y H Q h=>by
 let⟨φ,h,p,q,rh,rx,ry,po⟩:=h;unfold Hd at po;cases p with
 |int i=>
  cases q with
  |int j=>cases rx;cases ry;show P_ rfl
  |_=>exact po.elim
 |str i=>
  cases q with
  |str j=>cases rx;cases ry;show⟨po.ite.1,po.ite.2.val rh rfl⟩
  |_=>exact po.elim
 |tup xs=>
  cases q with
  |tup ys=>let⟨a,vs,rfl,sa,ra⟩:=rx;let⟨b,us,rfl,sb,rb⟩:=ry;let⟨⟨h1,h2⟩,po⟩:=po.ite;refine .inr ⟨a,b,vs,us,rfl,rfl,sa,sb,He ra h1,by rw[<-ra.length,<-rb.length];show h2,λz=>?_,λz p hp=>po.tnew rh (ra.append rb) hp⟩;subst z;let e:ys=[]:=Ya rb.length;subst e;show P_ ⟨a,vs,rfl,sa,by rw[WZ];show ra⟩
  |_=>exact po.elim
 |ref n=>
  cases q with
  |ref m=>
   let⟨a,rfl,ha⟩:=rx;let⟨b,rfl,hb⟩:=ry;dsimp only at po;cases e1:bT h n with
   |none=>rw[e1]at po;show po.elim
   |some xs=>
    cases e2:bT h m with
    |none=>rw[e1,e2]at po;show po.elim
    |some ys=>rw[e1,e2]at po;let⟨vs,h1,r1⟩:=YW<|fV e1;let⟨us,h2,r2⟩:=rh.at' m b _ hb<|fV e2;let⟨hz,po⟩:=po.ite;show .inl ⟨a,b,vs,us,rfl,rfl,h1,h2,by rw[<-r1.length,<-r2.length];show hz,λp hp=>po.lnew rh (r1.append r2) hp⟩
  |_=>exact po.elim
 |_=>exact po.elim
abbrev vInt(P:Int->Int->Prop)[∀i j,Decidable<|P i j](f:Int->Int->Int):PV->PV->PH->Rs PV:=λx y h=>match x,y with
 |.int i,.int j=>if P i j then .ok (.int<|f i j) h else .bad
 |_,_=>.bad
def E4{P:Int->Int->Prop}[∀i j,Decidable<|P i j](ho:Y3 f (yX P g)):Y0 f (vInt P g):=λc=>ho.imp λx y H Q h=>by
 let⟨φ,h,p,q,rh,rx,ry,po⟩:=h;unfold vInt at po;cases p with
 |int i=>
  cases q with
  |int j=>cases rx;cases ry;show⟨po.ite.1,po.ite.2.val rh rfl⟩
  |_=>exact po.elim
 |_=>exact po.elim
noncomputable instance(i j:Int):Decidable (Ba i j):=WH _
noncomputable instance(i j:Int):Decidable (Gg i j):=WH _
noncomputable instance(i j:Int):Decidable (EO i j):=WH _
abbrev rF:PV->PV->PH->Rs PV:=λx y h=>match x,y with
 |.int i,.int j=>.ok (.int<|i-j) h
 |_,_=>.bad
def OO:Y0 (Wx .Sub) rF:=λc=>Jz.imp λx y H Q h=>by
 let⟨φ,h,p,q,rh,rx,ry,po⟩:=h;unfold rF at po;cases p with
 |int i=>
  cases q with
  |int j=>cases rx;cases ry;show P_ rfl
  |_=>exact po.elim
 |_=>exact po.elim
noncomputable abbrev Bv:=vInt Ba λi j=>i*j
noncomputable abbrev D2:=vInt Gg λi j=>i/j
@[reducible]def dB:=vInt (λ_ j=>0<j) λi j=>i%j
noncomputable abbrev JM:=vInt EO λi j=>i ^ j.toNat
def OP:Y0 (Wx .Mult) Bv:=E4 JA
def OQ:Y0 (Wx .FloorDiv) D2:=E4 JB
def OR:Y0 (Wx .Mod) dB:=E4 JC
def OS:Y0 (Wx .Pow) JM:=E4 JD
variable{C:MC}{k:Nat}{X:Cx}
abbrev D3(f:Int->Int->Bool)(g:B_ Nat->B_ Nat->Bool):PV->PV->PH->Rs PV:=λx y h=>match x,y with
 |.int i,.int j=>.ok (.bl<|f i j) h
 |.str i,.str j=>.ok (.bl<|g i.cps.toList j.cps.toList) h
 |_,_=>.bad
def E5{p:Int->Int->Bool}{g:B_ Nat->B_ Nat->Bool}(ho:Y3 f (yY p g)):Y0 f (D3 p g):=λc=>ho.imp λx y H Q h=>by
 let⟨φ,h,p,q,rh,rx,ry,po⟩:=h;unfold D3 at po;cases p with
 |int i=>
  cases q with
  |int j=>cases rx;cases ry;show P_ rfl
  |_=>exact po.elim
 |str i=>
  cases q with
  |str j=>cases rx;cases ry;show P_ rfl
  |_=>exact po.elim
 |_=>exact po.elim
@[reducible]def vLt:=D3 (λi j=>decide (i<j)) λi j=>decide (i<j)
@[reducible]def vGt:=D3 (λi j=>decide (j<i)) λi j=>decide (j<i)
@[reducible]def vLe:=D3 (λi j=>decide (i<=j)) λi j=>!decide (j<i)
@[reducible]def vGe:=D3 (λi j=>decide (j<=i)) λi j=>!decide (i<j)
def R3:Y0 (VC .Lt) vLt:=E5 Ml
def R4:Y0 (VC .Gt) vGt:=E5 Mm
def R5:Y0 (VC .LtE) vLe:=E5 Mn
def R7:Y0 (VC .GtE) vGe:=E5 Mp
mutual
def PV.d:PV->C_ D
 |.non=>a_ .non
 |.bl b=>a_ (.bl b)
 |.int i=>d_ i
 |.str x=>a_ (.str x)
 |.tup xs=>match PV.ds xs with
  |some ds=>a_ (.tup ds)
  |none=>b_
 |.ref _=>b_
 |.ty _=>b_
 |.fl _=>b_
def PV.ds:Y4 0->C_ (B_ D)
 |[]=>a_ []
 |x::xs=>match PV.d x,PV.ds xs with
  |some d,a_ ds=>a_ (d::ds)
  |_,_=>b_
end
mutual
theorem RV.rep:∀{x:PV}{d:D}{v:V},D_ x v->x.d=a_ d->Rep C.K H d v
 |.non,_,_,h,e=>by cases e;show h
 |.bl _,_,_,h,e=>by cases e;show h
 |.int _,_,_,h,e=>by cases e;show h
 |.str _,_,_,h,e=>by cases e;show h
 |.tup xs,d,v,⟨a,vs,e1,q,r⟩,e=>by
  unfold PV.d at e;cases e2:PV.ds xs with
  |none=>rw[e2]at e;cases e
  |some ds=>
   rw[e2]at e;cases e
   show⟨a,vs,e1,q,RVs.reps r e2⟩
 |.ref _,_,_,_,e=>by cases e
 |.ty _,_,_,_,e=>by cases e
 |.fl _,_,_,_,e=>by cases e
theorem RVs.reps:∀{xs:Y4 0}{ds:B_ D}{vs:B_ V},ZR 0->PV.ds xs=a_ ds->dJ C.K H ds vs
 |[],_,[],_,e=>by cases e;trivial
 |x::xs,_,v::vs,⟨h,r⟩,e=>by
  unfold PV.ds at e;cases e1:PV.d x with
  |none=>rw[e1]at e;cases e
  |some d=>
   cases e2:PV.ds xs with
   |none=>rw[e1,e2]at e;cases e
   |some ds=>
    rw[e1,e2]at e;cases e
    show⟨RV.rep h e1,RVs.reps r e2⟩
 |[],_,_::_,h,_=>h.elim
 |_::_,_,[],h,_=>h.elim
end
abbrev iI(x y:PV)(h:PH):C_ Bool:=match x.d,y.d with
 |some d,a_ e=>if d.depth<=40 then a_ (eqD d e) else b_
 | _,_=>match dM x h,dM y h with
   |some xs,a_ ys=>match PV.ds xs,PV.ds ys with
    |some ds,a_ es=>if YX 0<=40 then a_ (iB ds es) else b_
    |_,_=>b_
   |_,_=>b_
abbrev ofB(o:C_ Bool)(h:PH):Rs PV:=match o with
 |some b=>.ok (.bl b) h
 |none=>.bad
abbrev vEq:PV->PV->PH->Rs PV:=λx y h=>ofB (iI x y h) h
set_option tactic.hygienic true in
def oK{q:PV}{x:V}(rh:J_ h)(rx:D_ p x)(ry:D_ q y)(e:iI p q h=a_ b):
  (∃d e,Rep C.K H d x/\Rep C.K H e y/\d.depth<=40/\b=eqD d e)\/(∃ds es,F8 C.K H ds x/\F8 C.K H es y/\YX 0<=40/\b=iB ds es):=by
 unfold iI at e;split at e
 ·rename_i d e' h1 h2;split at e
  ·rename_i hd;cases e
   show .inl ⟨d,e',rx.rep h1,ry.rep h2,hd,rfl⟩
  ·cases e
 ·split at e
  ·rename_i xs ys h1 h2;split at e
   ·rename_i ds es h3 h4;split at e
    ·rename_i hd;cases e
     let⟨a',vs,rfl,sa,ra⟩:=fW rh rx h1;let⟨T1,us,rfl,sb,rb⟩:=fW rh ry h2;show .inr ⟨ds,es,⟨a',vs,rfl,sa,ra.reps h3⟩,⟨T1,us,rfl,sb,rb.reps h4⟩,hd,rfl⟩
    ·cases e
   ·cases e
  ·cases e
def post.ofB{o:C_ Bool}{Q:VK}(q:P2 (ofB o h) Q):∃b,o=a_ b/\P2 (.ok (.bl b) h) Q:=by
 cases o with
 |none=>exact q.elim
 |some b=>exact⟨b,rfl,q⟩
def ME:Y0 (VC .Eq) vEq:=λc=>((Mu c.hu64 C.K c.K).or<|Mv c.hu64 C.K c.K).imp λx y H Q h=>by
 let⟨φ,h,p,q,rh,rx,ry,po⟩:=h;let⟨b,e,po⟩:=po.ofB;rcases oK rh rx ry e with⟨d,e',h1,h2,h3,rfl⟩|⟨d,e',h1,h2,h3,rfl⟩
 ·show .inl ⟨d,e',h1,h2,h3,P_ rfl⟩
 ·show .inr ⟨d,e',h1,h2,h3,P_ rfl⟩
abbrev oM:PV->C_ Key
 |.int i=>a_ (.inl i)
 |.str x=>a_ (.inr x)
 |_=>b_
abbrev aF{κ:Type}[DecidableEq κ]:B_ (κ×PV)->κ->C_ PV
 |[],_=>b_
 |(a,p)::r,b=>if a=b then a_ p else aF r b
abbrev Ao(h:PH)(n:Nat)(x:PV):C_ (C_ PV):=match h[n]? with
 |some (.dK kvs)=>match oM x with
  |some key=>a_ (Y1 key)
  |none=>b_
 |_=>b_
abbrev Bw(x:PV)(ys:Y4 0):C_ Bool:=match x.d,PV.ds ys with
 |some d,a_ ds=>if YX 0<=40 then a_ (ds.any λe=>eqD e d) else b_
 |_,_=>b_
abbrev Hf(x y:PV)(h:PH):C_ Bool:=match y with
 |.tup ys=>Bw x ys
 |.ref n=>match aM h n with
  |some ys=>Bw x ys
  |none=>(Ao h n x).map Option.isSome
 |.fl ys=>Bw x ys
 |_=>b_
abbrev vIn:PV->PV->PH->Rs PV:=λx y h=>ofB (Hf x y h) h
abbrev rG:PV->PV->PH->Rs PV:=λx y h=>ofB ((Hf x y h).map not) h
def Ap{x:PV}{key:Key}(r:D_ x v)(e:oM x=a_ key):v=kV key:=by cases x <;> first|(cases e;show r)|cases e
def rH{κ:Type}[DecidableEq κ]{kvs:B_ (κ×PV)}{ks:B_ (κ×V)}(r:Zh kvs ks)(a:κ):match Y1 a,jR ks a with
  |some p,a_ v=>D_ p v
  |none,b_=>True
  |_,_=>False:=by
 unfold RKv at r
 induction r with
 |nil=>trivial
 | @cons p q ps qs h t ih=>
  let⟨h1,h2⟩:=h;let⟨pk,pv⟩:=p;by_cases e:pk=a
  ·let e':q.1=a:=h1.symm.trans e;rw[pQ e'];unfold aF;rw[Z5 0];show h2
  ·let e':¬ q.1=a:=λz=>e<|h1.trans z;rw[pR e'];unfold aF;rw[Zp 0];show ih
set_option tactic.hygienic true in
def oO{x:PV}{o:C_ PV}(rh:J_ h)(ha:φ[n]?=a_ a)(rv:D_ x v)(e:Ao h n x=a_ o):
  ∃o',pS H a v o'/\o.isSome=o'.isSome/\∀p,o=a_ p->∃w,o'=a_ w/\D_ p w:=by
 unfold Ao at e;split at e
 ·rename_i kvs hk;split at e
  ·rename_i key bg;cases e
   let⟨ks,hH,rk⟩:=YW hk;let q:=rH rk key;rw[Ap rv bg];refine⟨jR ks key,pS.k hH,?_,λp hp=>?_⟩
   ·cases e1:Y1 key <;> cases e2:jR ks key <;> rw[e1,e2]at q <;> first|rfl|exact q.elim
   ·rw[hp]at q;cases e2:jR ks key with
    |none=>rw[e2]at q;show q.elim
    |some w=>rw[e2]at q;show⟨w,rfl,q⟩
  ·cases e
 ·cases e
set_option tactic.hygienic true in
def vK{q:PV}{x:V}(rh:J_ h)(rx:D_ p x)(ry:D_ q y)(e:Hf p q h=a_ b):
  (∃d a ds vs,y=.ref a/\(SqL C.K H a vs\/SqT C.K H a vs)/\Rep C.K H d x/\dJ C.K H ds vs/\YX 0<=40/\b=ds.any λe=>eqD e d)\/∃a o,y=.ref a/\pS H a x o/\b=o.isSome:=by
 let go:∀{a:t_}{vs:B_ V}{ys:Y4 0},(SqL C.K H a vs\/SqT C.K H a vs)->E_ ys vs->Bw p ys=a_ b->∃d a' ds vs,V.ref a=.ref a'/\(SqL C.K H a' vs\/SqT C.K H a' vs)/\Rep C.K H d x/\dJ C.K H ds vs/\YX 0<=40/\b=ds.any λe=>eqD e d:=by
  intro a vs ys hs hr he;unfold Bw at he;split at he
  ·rename_i d ds h1 h2;split at he
   ·rename_i hd;cases he
    show⟨d,a,ds,vs,rfl,hs,rx.rep h1,hr.reps h2,hd,rfl⟩
   ·cases he
  ·cases he
 unfold Hf at e;split at e
 ·let⟨a,vs,rfl,sa,ra⟩:=ry;show .inl<|go (.inr sa) ra e
 ·rename_i n;let⟨a,rfl,ha⟩:=ry;split at e
  ·rename_i ys hl;let⟨a2,vs,aj,sa,ra⟩:=bK rh hl;rw[ha]at aj;cases aj;show .inl<|go (.inl sa) ra e
  ·cases e':Ao h n p with
   |none=>rw[e']at e;cases e
   |some o=>
    rw[e']at e;cases e
    let⟨o',g,i,_⟩:=oO rh ha rx e';show .inr ⟨a,o',rfl,g,i⟩
 ·let⟨a,vs,rfl,sa,ra⟩:=ry;show .inl<|go (.inl sa.sq) ra e
 ·cases e
def R8:Y0 (VC .In) vIn:=λc=>((Mw c.hu64 C.K c.K).or<|Mq c.hu C.K c.K).imp λx y H Q h=>by
 let⟨φ,h,p,q,rh,rx,ry,po⟩:=h;let⟨b,e,po⟩:=po.ofB;rcases vK rh rx ry e with⟨d,a,ds,vs,rfl,h1,h2,h3,h4,rfl⟩|⟨a,o,rfl,g,rfl⟩
 ·show .inl ⟨d,a,ds,vs,rfl,h1,h2,h3,h4,P_ rfl⟩
 ·show .inr (.inr ⟨a,o,rfl,g,P_ rfl⟩)
def JN:Y0 (VC .NotIn) rG:=λc=>((F9 c.hu64 C.K c.K).or<|F5 c.hu C.K c.K).imp λx y H Q h=>by
 let⟨φ,h,p,q,rh,rx,ry,po⟩:=h;let⟨b,e,po⟩:=po.ofB;cases e':Hf p q h with
 |none=>rw[e']at e;cases e
 |some b'=>
  rw[e']at e;cases e
  rcases vK rh rx ry e' with⟨d,a,ds,vs,rfl,h1,h2,h3,h4,rfl⟩|⟨a,o,rfl,g,rfl⟩
  ·show .inl ⟨d,a,ds,vs,rfl,h1,h2,h3,h4,P_ rfl⟩
  ·show .inr (.inr ⟨a,o,rfl,g,P_ rfl⟩)
abbrev rJ:PV->Bool
 |.non=>true
 |_=>false
abbrev vIs:PV->PV->PH->Rs PV:=λx y h=>match y with
 |.non=>.ok (.bl<|rJ x) h
 |.bl b=>match x with
  |.bl a=>.ok (.bl<|a == b) h
  |_=>.bad
 |_=>.bad
abbrev oP:PV->PV->PH->Rs PV:=λx y h=>match y with
 |.non=>.ok (.bl<|!rJ x) h
 |.bl b=>match x with
  |.bl a=>.ok (.bl<|!(a == b)) h
  |_=>.bad
 |_=>.bad
def RV.isNon(r:D_ p v):decide (v=.non)=rJ p:=by
 cases p with
 |non=>cases r;rfl
 |tup xs=>let⟨a,vs,rfl,_⟩:=r;rfl
 |ref n=>let⟨a,rfl,_⟩:=r;rfl
 |fl xs=>let⟨a,vs,rfl,_⟩:=r;rfl
 |_=>cases r;rfl
def JO:Y0 (VC .IsNot) oP:=λc=>(Jg.or (λjn s σ H x y v u Q I rx ry(h:∃a b,x=.bl a/\y=.bl b/\Q (.bl<|!(a == b)) H)=>by let⟨a,b,rfl,rfl,q⟩:=h;cases rx;cases ry;show PyProof.Rows.isnot_bool ⟨.bl _,H,I,rfl,q⟩)).imp λx y H Q h=>by
 let⟨φ,h,p,q,rh,rx,ry,po⟩:=h;unfold oP at po;cases q with
 |non=>
  cases ry
  refine .inl ⟨rfl,?_⟩;rw[rx.isNon];show P_ rfl
 |bl b=>
  cases p with
  |bl a=>cases rx;cases ry;show .inr ⟨a,b,rfl,rfl,P_ rfl⟩
  |_=>exact po.elim
 |_=>exact po.elim
abbrev tru(x:PV)(h:PH):ZI 0:=match x with
 |.non=>.ok false h
 |.bl b=>.ok b h
 |.int i=>.ok (i != 0) h
 |.str y=>if y.length<=U9 then .ok ((y.length:Int) != 0) h else .bad
 |.tup xs=>.ok (!xs.isEmpty) h
 |.ref n=>match aM h n with
  |some xs=>.ok (!xs.isEmpty) h
  |none=>match h[n]? with
   |some (.dK kvs)=>.ok (!kvs.isEmpty) h
   |_=>.bad
 |.fl xs=>.ok (!xs.isEmpty) h
 |.ty _=>.bad
def RVs.isEmpty(r:ZR 0):(!vs.isEmpty)=!xs.isEmpty:=by cases xs <;> cases vs <;> first|rfl|exact r.elim
def bR.ite{c:Prop}[Decidable c]{r:ZI 0}{Q:Bool->Hp->Prop}(h:bR C φ H (if c then r else .bad) Q):c/\bR C φ H r Q:=by
 by_cases hc:c
 ·rw[if_pos hc]at h;show⟨hc,h⟩
 ·rw[if_neg hc]at h;show h.elim
def bR.val{Q:Bool->Hp->Prop}(q:bR C φ H (.ok b h) Q)(rh:J_ h):Q b H:=q φ H U7 (Kp.refl H) rh
set_option tactic.hygienic true in
def Fu{Q:Bool->Hp->Prop}(rh:J_ h)(rv:D_ p v)(po:bR C φ H (tru p h) Q):∃b,Cq C.K v H b/\Q b H:=by
 unfold tru at po;cases p with
 |non=>cases rv;show⟨_,rfl,po.val rh⟩
 |bl b=>cases rv;show⟨_,rfl,po.val rh⟩
 |int i=>cases rv;show⟨_,rfl,po.val rh⟩
 |str y=>cases rv;show⟨_,⟨po.ite.1,rfl⟩,po.ite.2.val rh⟩
 |tup xs=>let⟨a,vs,rfl,sa,ra⟩:=rv;show⟨_,.inr<|.inl ⟨vs,sa,rfl⟩,by rw[ra.isEmpty];show po.val rh⟩
 |ref n=>
  let⟨a,rfl,ha⟩:=rv;dsimp only at po;cases e:aM h n with
  |some xs=>rw[e]at po;let⟨a2,vs,aj,sa,ra⟩:=bK rh e;rw[ha]at aj;cases aj;show⟨_,.inl ⟨vs,sa,rfl⟩,by rw[ra.isEmpty];show po.val rh⟩
  |none=>
   rw[e]at po;dsimp only at po;split at po
   ·rename_i kvs hk;let⟨ks,hH,rk⟩:=YW hk;refine⟨_,.inr<|.inr ⟨ks,hH,rfl⟩,?_⟩;have:(!ks.isEmpty)=!kvs.isEmpty:=by cases rk <;> rfl
    rw[this];show po.val rh
   ·show po.elim
 |fl xs=>let⟨a,vs,rfl,sa,ra⟩:=rv;show⟨_,.inl ⟨vs,sa.sq,rfl⟩,by rw[ra.isEmpty];show po.val rh⟩
 |ty n=>exact po.elim
variable{C:MC}{k:Nat}{X:Cx}
abbrev aT(m:Me):Ev->PH->ZI 0:=λδ h=>(m δ h).bind tru
variable{m:Me}
def D4{σ:St}{Q:Bool->Hp->Prop}(h:rdB C (aT m) σ H Q):rd C m σ H λv H1=>∃b,Cq C.K v H1 b/\Q b H1:=by let⟨φ,δ,h,rh,re,p⟩:=h;refine⟨φ,δ,h,rh,re,(post.bindB p).imp ?_⟩;rintro v H1 ⟨φ1,x,h1,p1,t1,aa,ab,q1⟩;show Fu aa ab q1
variable{mc:Me}{c':z_}{ko:CmpOp}
section
variable{a b:z_}{g g':PV->PV->PH->Rs PV}{ta tb:Ev->PH->ZI 0}
def OT(h:G_ e m)(he:∀whole,isTrue e X.env whole=(do let v <-whole;standAt e.pos;holding [v] (truthy v)):=by intro _;rfl):ST C k X e (aT m):=λc=>
 (Gm (h c) he).imp λσ H Q q=>by rw[c.K];exact D4 q
def OU(ho:Y0 (VC op) g)(ha:G_ a ma)(hb:G_ b mb)(hm:behindInMarks op b=false:=by first|exact Gh _|rfl):ST C k X (.Compare a [op] [b] pos) (aT<|aB g ma mb):=λc=>by
 intro jn s σ H Q I h;let h:=E3<|D4 h;refine wpAny_isTrue_Compare1 (thn (ha c jn s σ H _ I h) λv s1 ⟨x,H1,I1,r1,q1⟩=>thn (hb c jn s1 σ H1 _ I1 q1) λu s2 ⟨y,H2,I2,r2,q2⟩=>thn (ho c jn s2 σ H2 x y v u _ I2 r1 r2 q2) λw s3 ⟨z,H3,I3,r3,q3⟩=>?_) hm;rw[<-c.K]at q3;show Gk jn s3 σ H3 z w Q I3 r3 q3
abbrev Hg(z:PV)(h:PH):Rs PV:=match z with
 |.bl b=>.ok (.bl b) h
 |_=>.bad
abbrev Fv(g g':PV->PV->PH->Rs PV)(ma mb mc:Me):Me:=λδ h=>(ma δ h).bind λx h1=>(mb δ h1).bind λy h2=>(g x y h2).bind λz h3=>match z with
 |.bl true=>(mc δ h3).bind λw h4=>(g' y w h4).bind Hg
 |.bl false=>.ok (.bl false) h3
 |_=>.bad
def MF{σ:St}{Q:VK}(h:rd C (Fv g g' ma mb mc) σ H Q):Gi (r2 C g) (r2 C g') (rd C ma) (rd C mb) (rd C mc) σ H λv H1=>∃b,v=.bl b/\Q v H1:=by
 let⟨φ,δ,h,rh,re,p⟩:=h;refine⟨φ,δ,h,rh,re,(post.bind p).imp ?_⟩;rintro v H1 ⟨φ1,x,h1,p1,t1,aa,ab,q1⟩;refine⟨φ1,δ,h1,aa,Q_ 0,(post.bind q1).imp ?_⟩;rintro u H2 ⟨φ2,y,h2,p2,t2,ah,c6,q2⟩;refine⟨φ2,h2,x,y,ah,ab.mono p2 t2,c6,(post.bind q2).imp ?_⟩;rintro w H3 ⟨φ3,z,h3,p3,t3,a7,rv3,q3⟩;cases z with
 |bl b=>
  cases rv3
  refine⟨b,rfl,?_⟩;cases b with
  |false=>exact Bg ⟨false,rfl,q3.val a7 rfl⟩
  |true=>
   refine Bh ⟨φ3,δ,h3,a7,re.mono ((p1.trans p2).trans p3)<|(t1.trans t2).trans t3,(post.bind q3).imp ?_⟩;rintro w4 H4 ⟨φ4,z4,h4,p4,t4,rh4,rv4,q4⟩;refine⟨φ4,h4,y,z4,rh4,c6.mono (p3.trans p4)<|t3.trans t4,rv4,(post.bind q4).imp ?_⟩;rintro w5 H5 ⟨φ5,z5,h5,p5,t5,rh5,rv5,q5⟩;cases z5 with
   |bl b=>cases rv5;show⟨b,rfl,q5.val rh5 rfl⟩
   |_=>exact q5.elim
 |_=>exact q3.elim
def OV(ho:Y0 (VC op) g)(de:Y0 (VC ko) g')(ha:G_ a ma)(hb:G_ b mb)(hc:G_ c' mc)(hm:lastMarks [op,ko] [b,c']=false:=by with_unfolding_all rfl):
  ST C k X (.Compare a [op,ko] [b,c'] pos) (aT<|Fv g g' ma mb mc):=λc=>by
 intro jn s σ H Q I h;let h':=MF<|D4 h;refine Wz (Gj (ho c) (de c) (ha c) (hb c) (hc c) hm jn s σ H (λb H1=>∃b',Cq C.K (.bl b) H1 b'/\Q b' H1) I ?_) (λb s1 ⟨H1,I1,b',(e:b'=b),q⟩=>⟨H1,I1,by rw[<-e];show q⟩) λ_ _ z=>z;let⟨φ,δ,hh,rh,re,p⟩:=h';refine⟨φ,δ,hh,rh,re,p.imp ?_⟩;rintro v H1 ⟨φ1,δ1,h1,aa,n5,p1⟩;refine⟨φ1,δ1,h1,aa,n5,p1.imp ?_⟩;rintro u H2 ⟨φ2,h2,x,y,ah,rx,ry,p2⟩;refine⟨φ2,h2,x,y,ah,rx,ry,p2.imp ?_⟩;rintro w H3 ⟨b,e,p3⟩;refine⟨b,e,?_⟩;cases b with
 |false=>
  have:∃b,V.bl false=V.bl b/\∃b_1,Cq C.K (V.bl false) H3 b_1/\Q b_1 H3:=by simpa using p3
  let⟨b,e1,q⟩:=this;show Bg ⟨false,rfl,q⟩
 |true=>
  let p3:rd C mc σ H3 λw' H4=>r2 C g' u w' H4 λv H1=>∃b,v=V.bl b/\∃b_1,Cq C.K v H1 b_1/\Q b_1 H1:=by simpa using p3
  let⟨φ3,δ3,h3,a7,jm,p3⟩:=p3;refine Bh ⟨φ3,δ3,h3,a7,jm,p3.imp ?_⟩;rintro w4 H4 ⟨φ4,h4,x4,y4,rh4,rx4,ry4,p4⟩;refine⟨φ4,h4,x4,y4,rh4,rx4,ry4,p4.imp ?_⟩;rintro w5 H5 ⟨b,rfl,q⟩;show⟨b,rfl,q⟩
abbrev zI(t:Ev->PH->ZI 0):Ev->PH->ZI 0:=λδ h=>(t δ h).bind λb h1=>.ok (!b) h1
abbrev Bx(ta tb:Ev->PH->ZI 0):Ev->PH->ZI 0:=λδ h=>(ta δ h).bind λb h1=>match b with
 |true=>tb δ h1
 |false=>.ok false h1
def bR.imp{r:ZI 0}{Q Q':Bool->Hp->Prop}(h:bR C φ H r Q)(i:∀v H',Q v H'->Q' v H'):bR C φ H r Q':=by
 cases r with
 |ok a h'=>exact λφ' H' p t rh=>i a H' (h φ' H' p t rh)
 |exc a h'=>exact h
 |bad=>exact h
def OW(h:ST C k X e ta):ST C k X (.UnaryOp .Not e pos) (zI ta):=λc=>(LG<|h c).imp λσ H Q q=>by let⟨φ,δ,h,rh,re,p⟩:=q;refine⟨φ,δ,h,rh,re,(bR.bindB p).imp ?_⟩;rintro b H1 ⟨φ1,h1,p1,t1,aa,q1⟩;show q1.val aa
abbrev SW(C:MC)(k:Nat)(X:Cx)(e:z_)(m:Ev->PH->ZI 0):Prop:=Y2 X->PW X e (rdB C m)
def SW.t(h:SW C k X e ta):ST C k X e ta:=λc=>(h c).pt
def PW.imp{t t':TT}(h:PW X e t)(i:∀σ H Q,t' σ H Q->t σ H Q):PW X e t':=λw jn s σ H Q I q=>h w jn s σ H Q I<|i σ H Q q
def MG(ha:ST C k X a ta):SW C k X (.BoolOp .And [a] pos) ta:=λc=>J7<|ha c
def w_and{rest:B_ z_}(ha:ST C k X a ta)(hb:SW C k X (.BoolOp .And (b::rest) pos) tb):SW C k X (.BoolOp .And (a::b::rest) pos) (Bx ta tb):=λc=>PW.imp (LF (ha c)<|hb c) λσ H Q q=>by
 let⟨φ,δ,h,rh,re,p⟩:=q;refine⟨φ,δ,h,rh,re,(bR.bindB p).imp ?_⟩;rintro b H1 ⟨φ1,h1,p1,t1,aa,q1⟩;cases b with
 |true=>exact Bh ⟨φ1,δ,h1,aa,Q_ 0,q1⟩
 |false=>exact Bg<|q1.val aa
abbrev zJ(ma mb:Me):Me:=λδ h=>(ma δ h).bind λx h1=>match x with
 |.bl true=>mb δ h1
 |.bl false=>.ok (.bl false) h1
 |_=>.bad
def OX{op}(h:G_ a ma):G_ (.BoolOp op [a] pos) ma:=λc=>LH<|h c
def OY{rest:B_ z_}(ha:G_ a ma)(hb:G_ (.BoolOp .And (b::rest) pos) mb):G_ (.BoolOp .And (a::b::rest) pos) (zJ ma mb):=λc=>(JE (ha c)<|hb c).imp λσ H Q q=>by
 let⟨φ,δ,h,rh,re,p⟩:=q;refine⟨φ,δ,h,rh,re,(post.bind p).imp ?_⟩;rintro v H1 ⟨φ1,x,h1,p1,t1,aa,rv,q1⟩;cases x with
 |bl b=>
  cases rv
  cases b with
  |true=>exact Bh ⟨φ1,δ,h1,aa,Q_ 0,q1⟩
  |false=>exact Bg<|q1.val aa rfl
 |_=>exact q1.elim
abbrev mIf(t:Ev->PH->ZI 0)(ma mb:Me):Me:=λδ h=>(t δ h).bind λb h1=>match b with
 |true=>ma δ h1
 |false=>mb δ h1
def JP(ht:ST C k X c' ta)(ha:G_ a ma)(hb:G_ b mb):G_ (.IfExp c' a b pos) (mIf ta ma mb):=λc=>(Gb (ht c) (ha c)<|hb c).imp λσ H Q q=>by
 let⟨φ,δ,h,rh,re,p⟩:=q;refine⟨φ,δ,h,rh,re,(bR.bind p).imp ?_⟩;rintro b H1 ⟨φ1,h1,p1,t1,aa,q1⟩;cases b with
 |true=>exact Bh ⟨φ1,δ,h1,aa,Q_ 0,q1⟩
 |false=>exact Bg ⟨φ1,δ,h1,aa,Q_ 0,q1⟩
end
def RVs.atI{i:Int}{x:PV}(r:ZR 0)(e:L2.atI xs i=a_ x):∃v,L2.atI vs i=a_ v/\D_ x v:=by
 unfold L2.atI at e⊢;rw[<-r.length];cases q:ixN xs.length i with
 |none=>rw[q]at e;cases e
 |some j=>rw[q]at e;show r.at e
abbrev ofO(o:C_ PV)(h:PH):Rs PV:=match o with
 |some p=>.ok p h
 |none=>.bad
abbrev vIx:PV->PV->PH->Rs PV:=λx y h=>match x with
 |.str z=>(match y with
  |.int i=>if z.length<=U9 then ofO ((atI z.cps.toList i).map λc=>.str ⟨#[c]⟩) h else .bad
  |_=>.bad)
 |.tup xs=>(match y with
  |.int i=>ofO (atI xs i) h
  |_=>.bad)
 |.fl xs=>(match y with
  |.int i=>ofO (atI xs i) h
  |_=>.bad)
 |.ref n=>(match aM h n with
  |some xs=>(match y with
   |.int i=>ofO (atI xs i) h
   |_=>.bad)
  |none=>(match Ao h n y with
   |some o=>ofO o h
   |none=>.bad))
 |_=>.bad
def post.ofO{o:C_ PV}{Q:VK}(q:P2 (ofO o h) Q):∃p,o=a_ p/\P2 (.ok p h) Q:=by
 cases o with
 |none=>exact q.elim
 |some b=>exact⟨b,rfl,q⟩
def OZ{x:V}{Q:VK}(h:r2 C vIx x y H Q):Oy C.K x y H Q:=by
 let⟨φ,h,p,q,rh,rx,ry,po⟩:=h;unfold vIx at po;cases p with
 |str z=>
  cases rx
  cases q with
  |int i=>
   cases ry
   let⟨hz,po⟩:=po.ite;let⟨p,e,po⟩:=po.ofO;cases e':atI z.cps.toList i with
   |none=>rw[e']at e;cases e
   |some c=>rw[e']at e;cases e;show⟨hz,c,e',P_ rfl⟩
  |_=>exact po.elim
 |tup xs=>
  let⟨a,vs,rfl,sa,ra⟩:=rx;cases q with
  |int i=>
   cases ry
   let⟨p,e,po⟩:=po.ofO;let⟨v,hv,rv⟩:=ra.atI e;show .inl ⟨vs,i,v,rfl,.inr sa,hv,P_ rv⟩
  |_=>exact po.elim
 |fl xs=>
  let⟨a,vs,rfl,sa,ra⟩:=rx;cases q with
  |int i=>
   cases ry
   let⟨p,e,po⟩:=po.ofO;let⟨v,hv,rv⟩:=ra.atI e;show .inl ⟨vs,i,v,rfl,.inl sa.sq,hv,P_ rv⟩
  |_=>exact po.elim
 |ref n=>
  let⟨a,rfl,ha⟩:=rx;dsimp only at po;cases e:aM h n with
  |some xs=>
   rw[e]at po;let⟨a2,vs,aj,sa,ra⟩:=bK rh e;rw[ha]at aj;cases aj;cases q with
   |int i=>
    cases ry
    let⟨p,e,po⟩:=po.ofO;let⟨v,hv,rv⟩:=ra.atI e;show .inl ⟨vs,i,v,rfl,.inl sa,hv,P_ rv⟩
   |_=>exact po.elim
  |none=>
   rw[e]at po;dsimp only at po;cases e':Ao h n q with
   |none=>rw[e']at po;show po.elim
   |some o=>rw[e']at po;let⟨p,eo,po⟩:=po.ofO;let⟨o',g,_,hp⟩:=oO rh ha ry e';let⟨w,rfl,c5⟩:=hp p eo;show .inr ⟨w,g,P_ c5⟩
 |_=>exact po.elim
variable{hi lo:Z2 0}{vl vu:s_}
def nV{t sl:t_}(ht:q0f t items)(hs:s.heap.IsSliceOf sl vl vu .none)(pl:IsPart vl lo)(pu:IsPart vu hi)(hw:HT.sIx items.size 0 lo=0/\HT.sIx items.size items.size hi=items.size)(h:Q (.ref t) s):r_ (getItem (.ref t)<|.ref sl) Q E s:=by
 let⟨os,ju,p8,ou⟩:=id hs;let we:s.TypeIs (.ref sl) "slice" := ⟨os,ju,p8⟩;unfold getItem
 try with_reducible refine VJ ?_
 first|refine SB (SL ?_)|skip
 refine SB (wpAny_sequenceKey ht.typeIs nofun ?_);refine SB (Vy (name:=Vh "__getitem__") ht.typeIs VX
  (Vz VX ht.typeIs entry_tuple_getitem ?_ (args_tuple_getitem _ _)))
 change u_ (Yr (.ref t) >>= _) _ _ s
 refine SB<|tupleItemsOf_ ht ?_;refine SB<|Xr we ?_;rw[if_pos nofun];refine SB<|HT.sliceApplied_gen hs pl pu ?_;let wx:((((HT.sIx items.size 0 lo:Nat):Int) == 0&&(1:Int) == 1&&(HT.sIx items.size items.size hi-HT.sIx items.size 0 lo) == items.size)=true):=by rw[hw.1,hw.2];simp
 change u_ (if(((HT.sIx items.size 0 lo:Nat):Int) == 0&&(1:Int) == 1&&(HT.sIx items.size items.size hi-HT.sIx items.size 0 lo) == items.size)=true then _ else _) _ _ s
 rw[if_pos wx];refine SB ?_;unfold Builtin.Tuple.tupleIsExact;refine SB<|Xr ht.typeIs<|SL ?_;rw[if_pos nofun];refine SB<|XN ?_;show SL ⟨_,rfl,SL h⟩
variable{C:MC}{k:Nat}{X:Cx}
abbrev eL{α:Type}(xs:B_ α)(lo hi:Z2 0):B_ α:=(xs.drop<|YR 0 lo).take<|YR xs.length hi-YR 0 lo
def RVs.cut(r:ZR 0)(lo hi:Z2 0):E_ (eL xs lo hi) (Bf vs lo hi):=by unfold eL Bf;rw[<-r.length];show(r.drop _).take _
abbrev vSl:PV->Z2 0->Z2 0->PH->Rs PV:=λx lo hi h=>match x with
 |.str z=>if z.length<=U9 then .ok (.str<|WC z lo hi) h else .bad
 |.tup xs=>.ok (.tup<|eL xs lo hi) h
 |.ref n=>match aM h n with
  |some xs=>.ok (.ref h.length) (h++[.lst<|eL xs lo hi])
  |none=>.bad
 |.fl xs=>.ok (.ref h.length) (h++[.lst<|eL xs lo hi])
 |_=>.bad
abbrev P0(K:UF):V->Z2 0->Z2 0->Hp->VK->Prop:=λx lo hi H Q=>∃a xs,x=.ref a/\ZE a xs/\(YR 0 lo=0/\YR xs.length hi=xs.length)/\Q (.ref a) H
def Hh:SlR X (P0 X.K):=by
 intro jn s σ H x v vl vu lo hi sl Q I rx hs pl pu h;let⟨a,xs,rfl,hx,hw,q⟩:=h;cases rx
 let⟨its,r,ht,hz⟩:=I.tuple hx;let hlen:its.toArray.size=xs.length:=by rw[U6];show r.length.symm
 refine⟨"tuple",_,VX.lookup,ht.typeIs,?_⟩;show nV ht hs pl pu (by rw[hlen];show hw) ⟨.ref a,H,I,rfl,q⟩
variable{r r':V->Z2 0->Z2 0->Hp->VK->Prop}
def SlR.imp(h:SlR X r)(i:∀x lo hi H Q,r' x lo hi H Q->r x lo hi H Q):SlR X r':=λjn s σ H x v vl vu lo hi sl Q I rx hs pl pu q=>Zg x v vl vu lo hi sl Q I rx hs pl pu<|i x lo hi H Q q
abbrev r3(C:MC)(g:PV->Z2 0->Z2 0->PH->Rs PV):V->Z2 0->Z2 0->Hp->VK->Prop:=λx lo hi H Q=>∃φ h p,J_ h/\D_ p x/\P2 (g p lo hi h) Q
def MH(hK:X.K=C.K):SlR X (r3 C vSl):=by
 let e:SlR X (λx lo hi H Q=>Ov x lo hi H Q\/Oh C.K x lo hi H Q\/Ol C.K x lo hi H Q\/P0 C.K x lo hi H Q):=by rw[<-hK];show Mj.or<|M4.or<|Js.or Hh
 refine e.imp λx lo hi H Q h=>?_;let⟨φ,h,p,rh,rv,po⟩:=h;unfold vSl at po;cases p with
 |str z=>cases rv;show .inl ⟨z,rfl,po.ite.1,po.ite.2.val rh rfl⟩
 |tup xs=>
  let⟨a,vs,rfl,sa,ra⟩:=rv;by_cases hw:HT.sIx vs.length 0 lo=0/\HT.sIx vs.length vs.length hi=vs.length
  ·refine .inr (.inr<|.inr ⟨a,vs,rfl,sa,hw,P_ ⟨a,vs,rfl,sa,?_⟩⟩);let e:eL xs lo hi=xs:=by unfold eL;rw[ra.length,hw.1,hw.2,List.drop_zero,Nat.sub_zero,<-ra.length,Xo]
   rw[e];show ra
  ·show .inr (.inl ⟨a,vs,rfl,sa,hw,λp hp=>po.tnew rh (ra.cut lo hi) hp⟩)
 |ref n=>
  let⟨a,rfl,ha⟩:=rv;dsimp only at po;cases e:aM h n with
  |none=>rw[e]at po;show po.elim
  |some xs=>rw[e]at po;let⟨a2,vs,aj,sa,ra⟩:=bK rh e;rw[ha]at aj;cases aj;show .inr<|.inr<|.inl ⟨a,vs,rfl,sa,λp hp=>po.lnew rh (ra.cut lo hi) hp⟩
 |fl xs=>let⟨a,vs,rfl,sa,ra⟩:=rv;show .inr<|.inr<|.inl ⟨a,vs,rfl,sa.sq,λp hp=>po.lnew rh (ra.cut lo hi) hp⟩
 |_=>exact po.elim
@[reducible]def Mo:=Ev->PH->Rs (Z2 0)
abbrev sV(C:MC)(φ:B_ t_)(H:Hp)(r:Rs (Z2 0))(Q:Z2 0->Hp->Prop):Prop:=match r with
 |.ok b h=>∀φ' H',φ<+:φ'->Zx H'->Zi h->Q b H'
 |.exc x h=>∀φ' H',φ<+:φ'->Zx H'->Zi h->C.ex φ' H' x
 |.bad=>False
abbrev rdO(C:MC)(m:Mo):TO:=λσ H Q=>∃φ δ h,J_ h/\Y5 0/\sV C φ H (m δ h) Q
abbrev SO(C:MC)(k:Nat)(X:Cx)(e:C_ z_)(m:Mo):Prop:=Y2 X->PO X e (rdO C m)
abbrev iJ:Mo:=λ_ h=>.ok b_ h
abbrev mP(m:Me):Mo:=λδ h=>(m δ h).bind λx h1=>match x with
 |.int i=>.ok (a_ i) h1
 |_=>.bad
def MI:SO C k X b_ iJ:=λc jn s σ H Q I h=>by let⟨φ,δ,h,rh,re,p⟩:=h;show Jp jn s σ H Q I<|p φ H U7 (Kp.refl H) rh
def MJ(h:G_ e m):SO C k X (a_ e) (mP m):=λc jn s σ H Q I q=>by
 refine GH (h c) jn s σ H Q I ?_;let⟨φ,δ,h,rh,re,p⟩:=q;refine⟨φ,δ,h,rh,re,?_⟩;unfold mP at p;cases e':m δ h with
 |ok x h1=>
  rw[e']at p;intro φ' v H' p' t' bu az;cases x with
  |int i=>cases az;show p φ' H' p' t' bu
  |_=>exact p.elim
 |exc x h1=>rw[e']at p;show p
 |bad=>rw[e']at p;show p
abbrev mSl(me:Me)(ml mh:Mo):Me:=λδ h=>(me δ h).bind λx h1=>(ml δ h1).bind λl h2=>(mh δ h2).bind λu h3=>vSl x l u h3
def sV.bind{r:Rs (Z2 0)}{f:Z2 0->PH->Rs PV}{Q:VK}(h:P2 (r.bind f) Q):sV C φ H r λb H1=>∃φ1 h1,φ<+:φ1/\Zx H1/\Zj 0/\post C φ1 H1 (f b h1) Q:=by
 cases r with
 |ok a h'=>exact λφ' H' p t rh=>⟨φ',h',p,t,rh,post.weak p t h⟩
 |exc a h'=>exact h
 |bad=>exact h
variable{Q':Z2 0->Hp->Prop}
def sV.imp{r:Rs (Z2 0)}{Q:Z2 0->Hp->Prop}(h:sV C φ H r Q)(i:∀v H',Q v H'->Q' v H'):sV C φ H r Q':=by
 cases r with
 |ok a h'=>exact λφ' H' p t rh=>i a H' (h φ' H' p t rh)
 |exc a h'=>exact h
 |bad=>exact h
variable{me:Me}{mh ml:Mo}{p2:Pos}
def R9{lo hi:C_ z_}(he:G_ e me)(hl:SO C k X lo ml)(hh:SO C k X hi mh):G_ (.Subscript e (.Slice lo hi b_ p2) pos) (mSl me ml mh):=λc=>(Gw (MH c.K) (he c) (hl c)<|hh c).imp λσ H Q h=>by let⟨φ,δ,h,rh,re,p⟩:=h;refine⟨φ,δ,h,rh,re,(post.bind p).imp ?_⟩;rintro v H1 ⟨φ1,x,h1,p1,t1,aa,ab,q1⟩;refine⟨φ1,δ,h1,aa,Q_ 0,(sV.bind q1).imp ?_⟩;rintro l H2 ⟨φ2,h2,p2,t2,ah,q2⟩;refine⟨φ2,δ,h2,ah,re.mono (p1.trans p2)<|t1.trans t2,(sV.bind q2).imp ?_⟩;rintro u H3 ⟨φ3,h3,p3,t3,a7,q3⟩;show⟨φ3,h3,x,a7,ab.mono (p2.trans p3)<|t2.trans t3,q3⟩
@[reducible]def Ma:=Ev->PH->Rs (Y4 0)
abbrev aC:Ma:=λ_ h=>.ok [] h
abbrev aA(m:Me)(ms:Ma):Ma:=λδ h=>(m δ h).bind λx h1=>(ms δ h1).bind λxs h2=>.ok (x::xs) h2
def PA.imp{t t':TA}(h:PA X es t)(i:∀σ H Q,t' σ H Q->t σ H Q):PA X es t':=λpos jn s σ H Q I q=>h pos jn s σ H Q I<|i σ H Q q
def P3:SA C k X [] aC:=λc=>qW.imp λσ H Q h=>by let⟨φ,δ,h,rh,re,p⟩:=h;show p φ [] H U7 (Kp.refl H) rh trivial
def postA.imp{r:Rs (Y4 0)}{Q Q':B_ V->Hp->Prop}(h:postA C φ H r Q)(i:∀v H',Q v H'->Q' v H'):postA C φ H r Q':=by
 cases r with
 |ok a h'=>exact λφ' v H' p t rh rv=>i v H' (h φ' v H' p t rh rv)
 |exc a h'=>exact h
 |bad=>exact h
variable{ms:Ma}
def MK(he:G_ e m)(hs:SA C k X es ms)(hh:Vg (e::es) X.env=(false,U_ 0)::W_ 0:=by rfl):SA C k X (e::es) (aA m ms):=λc=>(nE (he c) (hs c) hh).imp λσ H Q h=>by let⟨φ,δ,h,rh,re,p⟩:=h;refine⟨φ,δ,h,rh,re,(post.bindA p).imp ?_⟩;rintro v H1 ⟨φ1,x,h1,p1,t1,aa,ab,q1⟩;refine⟨φ1,δ,h1,aa,Q_ 0,(postA.bindA q1).imp ?_⟩;rintro vs H2 ⟨φ2,xs,h2,p2,t2,ah,c6,q2⟩;show q2 φ2 (v::vs) H2 U7 (Kp.refl H2) ah ⟨ab.mono p2 t2,c6⟩
abbrev aU(ms:Ma):Me:=λδ h=>(ms δ h).bind λxs h1=>if xs.length<=U9 then .ok (.tup xs) h1 else .bad
abbrev jG(ms:Ma):Me:=λδ h=>(ms δ h).bind λxs h1=>if xs.length<=U9 then .ok (.ref h1.length) (h1++[.lst xs]) else .bad
def P4{x1}(hs:SA C k X es ms):G_ (.Tuple es x1 pos) (aU ms):=λc=>(M0<|hs c).imp λσ H Q h=>by let⟨φ,δ,h,rh,re,p⟩:=h;refine⟨φ,δ,h,rh,re,(postA.bind p).imp ?_⟩;rintro vs H1 ⟨φ1,xs,h1,p1,t1,aa,ab,q1⟩;show⟨by rw[<-ab.length];show q1.ite.1,λp hp=>q1.ite.2.tnew aa ab hp⟩
def P5(hs:SA C k X es ms):G_ (.List es pos) (jG ms):=λc=>(M1<|hs c).imp λσ H Q h=>by let⟨φ,δ,h,rh,re,p⟩:=h;refine⟨φ,δ,h,rh,re,(postA.bind p).imp ?_⟩;rintro vs H1 ⟨φ1,xs,h1,p1,t1,aa,ab,q1⟩;show⟨by rw[<-ab.length];show q1.ite.1,λp hp=>q1.ite.2.lnew aa ab hp⟩
abbrev jH:Me:=λ_ h=>.ok (.ref h.length)<|h++[.dK []]
def JQ:G_ (.Dict [] [] pos) jH:=λc=>GC.imp λσ H Q h=>by let⟨φ,δ,h,rh,re,p⟩:=h;intro a ha;show p (φ++[a]) (.ref a) _ (Vv _ _) (Kp.new ha) (rh.new ha ⟨[],aL,.nil⟩) ⟨a,rfl,by rw[<-rh.len];simp⟩
abbrev mCB(g:Y4 0->PH->Rs PV)(ms:Ma):Me:=λδ h=>(ms δ h).bind g
def Li{g:Y4 0->PH->Rs PV}{σ:St}{Q:VK}(h:rd C (mCB g ms) σ H Q):tCB (rL C g) (rdA C ms) σ H Q:=by let⟨φ,δ,h,rh,re,p⟩:=h;refine⟨φ,δ,h,rh,re,(postA.bind p).imp ?_⟩;rintro vs H1 ⟨φ1,xs,h1,p1,t1,aa,ab,q1⟩;show⟨φ1,h1,xs,aa,ab,q1⟩
def nK{p:Pos}{id:String}{g:Y4 0->PH->Rs PV}(hc:mD C k X (.builtin id) g)(hv:Xp x=a_ (.builtin id))(ha:SA C k X (e::es) ms)(hb:x∈C.bs:=by decide)(hg:Gl X x:=by rfl)(hn:x≠"__name__" := by decide)(cm:(x == ("__debug__" : Str))=false:=by decide)(he:Vg (e::es) X.env=(false,U_ 0)::W_ 0:=by rfl)(bf:(YZ<|W_ 0).any (·.1)=false:=by rfl):G_ (.Call (.Name x p) (e::es) [] pos) (mCB g ms):=λc=>(Be (hc c) hg (c.bn x hb) hv (ha c) hn cm he bf).imp λσ H Q h=>Li h
variable{T:String}
def vL{p:Pos}{g:Y4 0->PH->Rs PV}(hc:mD C k X (.type T) g)(hv:Xp x=a_ (.type T))(ha:SA C k X (e::es) ms)(hb:x∈C.bs:=by decide)(hg:Gl X x:=by rfl)(hn:x≠"__name__" := by decide)(cm:(x == ("__debug__" : Str))=false:=by decide)(he:Vg (e::es) X.env=(false,U_ 0)::W_ 0:=by rfl)(bf:(YZ<|W_ 0).any (·.1)=false:=by rfl):G_ (.Call (.Name x p) (e::es) [] pos) (mCB g ms):=λc=>(yP (hc c) hg (c.bn x hb) hv (ha c) hn cm he bf).imp λσ H Q h=>Li h
abbrev spM(C:MC)(n:Nat)(f:Fn):Sp:=λvs H Q _=>∃φ h ps,J_ h/\E_ ps vs/\ps.length=n/\P2 (f ps h) Q
abbrev bO(n:Nat)(f:Fn)(ms:Ma):Me:=λδ h=>(ms δ h).bind λps h1=>if ps.length=n then f ps h1 else .bad
def s_call{p:Pos}{f:Fn}(D:Def C.K X.mg x st a fd ps)(G:M_ a fd ps (spM C n f))(ha:SA C k X (e::es) ms)(hj:j<=k:=by decide)(hg:Gl X x:=by rfl)(cm:(x == ("__debug__" : Str))=false:=by decide)(he:Vg (e::es) X.env=(false,U_ 0)::W_ 0:=by rfl)(bf:(YZ<|W_ 0).any (·.1)=false:=by rfl):
  G_ (.Call (.Name x p) (e::es) [] pos) (bO n f ms):=λc=>by
 let e1:=c.K;let D':Def X.K X.mg x st a fd ps:=by rw[e1];show D
 let G':L_ CX0 j a fd ps (spM C n f):=by rw[e1];show G
 refine(OE D' G' (c.room.mono hj) (ha c) hg cm he bf).imp λσ H Q h=>?_;let⟨φ,δ,h,rh,re,p⟩:=h;refine⟨φ,δ,h,rh,re,(postA.bind p).imp ?_⟩;rintro vs H1 ⟨φ1,xs,h1,p1,t1,aa,ab,q1⟩;refine⟨φ1,h1,xs,aa,by rw[WZ];show ab,q1.ite.1,q1.ite.2⟩
abbrev mE:Y4 0->PH->Rs PV:=λxs h=>match xs with
 |[.str y]=>if y.length<=U9 then .ok (.int y.length) h else .bad
 |[.tup ys]=>.ok (.int ys.length) h
 |[.fl ys]=>.ok (.int ys.length) h
 |[.ref n]=>match aM h n with
  |some ys=>.ok (.int ys.length) h
  |none=>match h[n]? with
   |some (.dK kvs)=>.ok (.int kvs.length) h
   |_=>.bad
 |_=>.bad
def RVs.one{x:PV}(r:E_ [x] vs):∃v,vs=[v]/\D_ x v:=by
 match vs,r with
 |[v],⟨h,_⟩=>exact⟨v,rfl,h⟩
 |[],h=>exact h.elim
 |_::_::_,⟨_,h⟩=>exact h.elim
def RVs.two{x y:PV}(r:E_ [x,y] vs):∃v w,vs=[v,w]/\D_ x v/\D_ y w:=by
 match vs,r with
 |[v,w],⟨h,h',_⟩=>exact⟨v,w,rfl,h,h'⟩
 |[],h=>exact h.elim
 |[_],⟨_,h⟩=>exact h.elim
 |_::_::_::_,⟨_,_,h⟩=>exact h.elim
set_option tactic.hygienic true in
def P6:mD C k X (.builtin "len") mE:=λc=>(F6 C.K c.K).imp λvs H Q h=>by
 let⟨φ,h,ps,rh,rv,po⟩:=h;unfold mE at po;split at po
 ·let⟨v,rfl,rx⟩:=rv.one;cases rx
  show⟨po.ite.1,po.ite.2.val rh rfl⟩
 ·let⟨v,rfl,rx⟩:=rv.one;let⟨a,vs,rfl,sa,ra⟩:=rx;show .inl ⟨vs,.inr sa,by rw[<-ra.length];show P_ rfl⟩
 ·let⟨v,rfl,rx⟩:=rv.one;let⟨a,vs,rfl,sa,ra⟩:=rx;show .inl ⟨vs,.inl sa.sq,by rw[<-ra.length];show P_ rfl⟩
 ·rename_i n;let⟨v,rfl,rx⟩:=rv.one;let⟨a,rfl,ha⟩:=rx;split at po
  ·rename_i ys e;let⟨a2,vs,aj,sa,ra⟩:=bK rh e;rw[ha]at aj;cases aj;show .inl ⟨vs,.inl sa,by rw[<-ra.length];show P_ rfl⟩
  ·split at po
   ·rename_i kvs hk;let⟨ks,hH,rk⟩:=YW hk;refine .inr ⟨ks,hH,?_⟩;have:ks.length=kvs.length:=(VU rk).symm;rw[this];show P_ rfl
   ·show po.elim
 ·show po.elim
abbrev oQ:Y4 0->PH->Rs PV:=λxs h=>match xs with
 |[.tup ys]=>.ok (.tup ys) h
 |[.fl ys]=>.ok (.tup ys) h
 |[.ref n]=>match aM h n with
  |some ys=>.ok (.tup ys) h
  |none=>.bad
 |_=>.bad
set_option tactic.hygienic true in
def JR:mD C k X (.type "tuple") oQ:=λc=>(Bk C.K c.K).imp λvs H Q h=>by
 let⟨φ,h,ps,rh,rv,po⟩:=h;unfold oQ at po;split at po
 ·let⟨v,rfl,rx⟩:=rv.one;let⟨a,vs,rfl,sa,ra⟩:=rx;show⟨a,vs,rfl,.inr ⟨sa,P_ ⟨a,vs,rfl,sa,ra⟩⟩⟩
 ·let⟨v,rfl,rx⟩:=rv.one;let⟨a,vs,rfl,sa,ra⟩:=rx;show⟨a,vs,rfl,.inl ⟨sa.sq,λp hp=>po.tnew rh ra hp⟩⟩
 ·rename_i n;let⟨v,rfl,rx⟩:=rv.one;let⟨a,rfl,ha⟩:=rx;split at po
  ·rename_i ys e;let⟨a2,vs,aj,sa,ra⟩:=bK rh e;rw[ha]at aj;cases aj;show⟨a,vs,rfl,.inl ⟨sa,λp hp=>po.tnew rh ra hp⟩⟩
  ·show po.elim
 ·show po.elim
abbrev iK:Y4 0->PH->Rs PV:=λxs h=>match xs with
 |[.tup ys]=>.ok (.ref h.length) (h++[.lst ys])
 |[.fl ys]=>.ok (.ref h.length) (h++[.lst ys])
 |[.ref n]=>match aM h n with
  |some ys=>.ok (.ref h.length) (h++[.lst ys])
  |none=>.bad
 |_=>.bad
set_option tactic.hygienic true in
def ML:mD C k X (.type "list") iK:=λc=>(CI C.K c.K).imp λvs H Q h=>by
 let⟨φ,h,ps,rh,rv,po⟩:=h;unfold iK at po;split at po
 ·let⟨v,rfl,rx⟩:=rv.one;let⟨a,vs,rfl,sa,ra⟩:=rx;show⟨a,vs,rfl,.inr sa,λp hp=>po.lnew rh ra hp⟩
 ·let⟨v,rfl,rx⟩:=rv.one;let⟨a,vs,rfl,sa,ra⟩:=rx;show⟨a,vs,rfl,.inl sa.sq,λp hp=>po.lnew rh ra hp⟩
 ·rename_i n;let⟨v,rfl,rx⟩:=rv.one;let⟨a,rfl,ha⟩:=rx;split at po
  ·rename_i ys e;let⟨a2,vs,aj,sa,ra⟩:=bK rh e;rw[ha]at aj;cases aj;show⟨a,vs,rfl,.inl sa,λp hp=>po.lnew rh ra hp⟩
  ·show po.elim
 ·show po.elim
abbrev By:Y4 0->PH->Rs PV:=λxs h=>match xs with
 |[.int i,.int j]=>.ok (.int<|if j>i then j else i) h
 |_=>.bad
def P7:mD C k X (.builtin "max") By:=λc=>(F7 c.calm).imp λvs H Q h=>by
 let⟨φ,h,ps,rh,rv,po⟩:=h;unfold By at po;split at po
 ·let⟨v,w,rfl,rx,ry⟩:=rv.two;cases rx;cases ry;show P_ rfl
 ·show po.elim
variable{C:MC}{k:Nat}{X:Cx}
abbrev Rs.fl{α:Type}(r:Rs α)(f:α->PH->Fl):Fl:=match r with
 |.ok a h=>f a h
 |.exc x h=>.exc x h
 |.bad=>.bad
@[simp]theorem Rs.fl_ok{α:Type}(a:α)(h:PH)(f:α->PH->Fl):(Rs.ok a h).fl f=f a h:=(rfl)
def post.fl{r:Rs PV}{f:PV->PH->Fl}{D:Ends}(h:bN C φ H (r.fl f) D):P2 r λv H1=>∃φ1 p h1,φ<+:φ1/\Zx H1/\Zj 0/\RV C φ1 H1 p v/\bN C φ1 H1 (f p h1) D:=by
 cases r with
 |ok a h'=>exact λφ' v H' p t rh rv=>⟨φ',a,h',p,t,rh,rv,bN.weak p t h⟩
 |exc a h'=>exact h
 |bad=>exact h
def bR.fl{r:ZI 0}{f:Bool->PH->Fl}{D:Ends}(h:bN C φ H (r.fl f) D):bR C φ H r λb H1=>∃φ1 h1,φ<+:φ1/\Zx H1/\Zj 0/\bN C φ1 H1 (f b h1) D:=by
 cases r with
 |ok a h'=>exact λφ' H' p t rh=>⟨φ',h',p,t,rh,bN.weak p t h⟩
 |exc a h'=>exact h
 |bad=>exact h
def bN.nx{D:Ends}{σ:St}(q:bN C φ H (.nx δ h) D)(rh:J_ h)(re:Y5 0):D.nx σ H:=q φ σ H U7 (Kp.refl H) rh re
def bN.rt{D:Ends}(q:bN C φ H (.rt p h) D)(rh:J_ h)(rv:D_ p v):D.rt v H:=q φ v H U7 (Kp.refl H) rh rv
@[reducible]def Mg:=PV->Ev->C_ Ev
@[reducible]def Mgs:=Y4 0->Ev->C_ Ev
abbrev rdG(C:MC)(t:Mg):TG:=λv σ H Q=>∃φ δ h p δ',J_ h/\Y5 0/\D_ p v/\t p δ=a_ δ'/\∀σ',RE C φ H δ' σ'->Q σ' H
abbrev R'(C:MC)(t:Mgs):TGs:=λvs σ H Q=>∃φ δ h ps δ',J_ h/\Y5 0/\E_ ps vs/\t ps δ=a_ δ'/\∀σ',RE C φ H δ' σ'->Q σ' H
abbrev SG(C:MC)(k:Nat)(X:Cx)(e:z_)(t:Mg):Prop:=Y2 X->PG X e (rdG C t)
abbrev SGs(C:MC)(k:Nat)(X:Cx)(es:B_ z_)(t:Mgs):Prop:=Y2 X->PGs X es (R' C t)
abbrev gN(i:Nat):Mg:=λp δ=>a_<|δ.set i<|a_ p
abbrev gNl:Mgs:=λps δ=>match ps with
 |[]=>a_ δ
 |_::_=>b_
abbrev gCn(t:Mg)(u:Mgs):Mgs:=λps δ=>match ps with
 |p::r=>(t p δ).bind (u r)
 |[]=>b_
abbrev gTp(n:Nat)(u:Mgs):Mg:=λp δ=>match p with
 |.tup ps=>if ps.length=n then u ps δ else b_
 |_=>b_
def PG.imp{t t':TG}(h:PG X e t)(i:∀v σ H Q,t' v σ H Q->t v σ H Q):PG X e t':=λjn s σ H v u Q I r q=>Zg v u Q I r<|i v σ H Q q
def PGs.imp{t t':TGs}(h:PGs X es t)(i:∀v σ H Q,t' v σ H Q->t v σ H Q):PGs X es t':=λjn s σ H v u Q I r q=>Zg v u Q I r<|i v σ H Q q
def MM(hN:X.N.Nodup)(hi:X.N[i]?=a_ x:=by rfl)(hx:Loc X.env.scope x:=by first|exact Or.inl rfl|exact Or.inr rfl)(hf:X.fn x=true\/V_ 0=a_ .local:=by first|exact .inl rfl|exact .inr rfl):SG C k X (.Name x pos) (gN i):=λc=>
 (Ja hN hi hx hf).imp λv σ H Q h=>by
  let⟨φ,δ,h,p,δ',rh,re,rv,e,q⟩:=h;cases e
  show q _<|re.set rv i
def P8:SGs C k X [] gNl:=λc=>Jb.imp λv σ H Q h=>by
 let⟨φ,δ,h,ps,δ',rh,re,rv,e,q⟩:=h;cases ps with
 |nil=>
  cases e
  cases v with
  |nil=>exact⟨rfl,q σ re⟩
  |cons=>exact rv.elim
 |cons=>cases e
def MN{t:Mg}{u:Mgs}(h1:SG C k X e t)(h2:SGs C k X es u)(hs:(Xn (e::es) X.env).map (·.2)=assign e X.env::(Xn es X.env).map (·.2):=by rfl):SGs C k X (e::es) (gCn t u):=λc=>
 (Ge (h1 c) (h2 c) hs).imp λvs σ H Q h=>by
  let⟨φ,δ,h,ps,δ',rh,re,rv,e,q⟩:=h;cases ps with
  |nil=>cases e
  |cons p r=>
   cases vs with
   |nil=>exact rv.elim
   |cons v vs=>
    let⟨δ1,e1,e2⟩:=Option.bind_eq_some_iff.mp (show(t p δ).bind (u r)=a_ δ' from e)
    show⟨v,vs,rfl,φ,δ,h,p,δ1,rh,re,rv.1,e1,λσ' uq=>⟨φ,δ1,h,r,δ',rh,uq,rv.2,e2,q⟩⟩
def P9{u:Mgs}(h:SGs C k X es u)(hn:(Xn es X.env).length=n:=by rfl)(cg:(Xn es X.env).findIdx? (·.1)=b_:=by rfl):SG C k X (.Tuple es j pos) (gTp n u):=λc=>
 (gT C.K c.K c.calm (h c) hn cg).imp λv σ H Q h=>by
  let⟨φ,δ,h,p,δ',rh,re,rv,e,q⟩:=h;cases p with
  |tup ps=>
   let⟨a,vs,rfl,sa,ra⟩:=rv;by_cases hl:ps.length=n
   ·let e':u ps δ=a_ δ':=by have:(if ps.length=n then u ps δ else b_)=a_ δ':=e;rw[if_pos hl]at this;show this
    show⟨a,vs,rfl,sa,by rw[<-ra.length];show hl,φ,δ,h,ps,δ',rh,re,ra,e',q⟩
   ·have:(if ps.length=n then u ps δ else b_)=a_ δ':=e;rw[if_neg hl]at this;cases this
  |_=>cases e
def PS.imp{t t':TS}(h:PS X st t)(i:∀D σ H,t' D σ H->t D σ H):PS X st t':=λjn s σ H D I q=>Zg D I<|i D σ H q
def PSs.imp{st:B_ A_}{t t':TS}(h:PSs X st t)(i:∀D σ H,t' D σ H->t D σ H):PSs X st t':=λjn s σ H D I q=>Zg D I<|i D σ H q
abbrev aG(a b:Ms):Ms:=λδ h=>match a δ h with
 |.nx δ1 h1=>b δ1 h1
 |r=>r
abbrev cJ:Ms:=λδ h=>.nx δ h
abbrev JS:Ms:=λδ h=>.ct δ h
abbrev aP(i:Nat)(m:Me):Ms:=λδ h=>(m δ h).fl λp h1=>.nx (δ.set i<|a_ p) h1
abbrev rK(m:Me)(t:Mg):Ms:=λδ h=>(m δ h).fl λp h1=>match t p δ with
 |some δ'=>.nx δ' h1
 |none=>.bad
abbrev lQ(m:Me):Ms:=λδ h=>(m δ h).fl λ_ h1=>.nx δ h1
abbrev aX(m:Me):Ms:=λδ h=>(m δ h).fl λp h1=>.rt p h1
abbrev cB(t:Ev->PH->ZI 0)(a b:Ms):Ms:=λδ h=>(t δ h).fl λc h1=>match c with
 |true=>a δ h1
 |false=>b δ h1
def MP:SSs C k X [] cJ:=λc=>J8.imp λD σ H h=>by let⟨φ,δ,h,rh,re,p⟩:=h;show p.nx rh re
def MQ{r:Fl}{b:Ms}{D:Ends}(h:bN C φ H (match r with|.nx δ1 h1=>b δ1 h1|r=>r) D):bN C φ H r { D with nx:=rdS C b D}:=by
 cases r with
 |nx δ h'=>exact λφ' σ H' p t rh re=>⟨φ',δ,h',rh,re,bN.weak p t h⟩
 |rt p h'=>exact h
 |bk δ h'=>exact h
 |ct δ h'=>exact h
 |exc x h'=>exact h
 |bad=>exact h
def JT{rest:B_ A_}{a:Ms}{b:Ms}(h1:Zz st a)(h2:SSs C k X rest b):SSs C k X (st::rest) (aG a b):=λc=>(Gc (h1 c)<|h2 c).imp λD σ H h=>by let⟨φ,δ,h,rh,re,p⟩:=h;show⟨φ,δ,h,rh,re,MQ p⟩
def MR{a:Ms}(h1:Zz st a):SSs C k X [st] a:=λc=>J9<|h1 c
def P':Zz (.Continue pos) JS:=λc=>B6.imp λD σ H h=>by let⟨φ,δ,h,rh,re,p⟩:=h;show p φ σ H U7 (Kp.refl H) rh re
def Pa(hN:X.N.Nodup)(he:G_ e m)(hi:X.N[i]?=a_ x:=by rfl)(hx:Loc X.env.scope x:=by first|exact Or.inl rfl|exact Or.inr rfl)(hs:YE e (a_<|.Name x pos') pos.line X.env=pure false:=by rfl)(hf:X.fn x=true\/V_ 0=a_ .local:=by first|exact .inl rfl|exact .inr rfl):Zz (.Assign [.Name x pos'] e pos) (aP i m):=λc=>(LM hN hi hx (he c) hs hf).imp λD σ H h=>by let⟨φ,δ,h,rh,re,p⟩:=h;refine⟨φ,δ,h,rh,re,(post.fl p).imp ?_⟩;rintro v H1 ⟨φ1,x,h1,p1,t1,aa,ab,q1⟩;show q1.nx aa<|(Q_ 0).set ab i
def Pb{t:Mg}(he:G_ e m)(hg:SG C k X tg t)(hs:swapsWithSole [tg] e pos.line X.env=pure false:=by rfl)(hw:swappedStores [tg] e X.env=pure b_:=by rfl)(h1:(Xn [tg] X.env).map (·.2)=[assign tg X.env]:=by rfl):Zz (.Assign [tg] e pos) (rK m t):=λc=>(LL (he c) (hg c) hs hw h1).imp λD σ H h=>by
 let⟨φ,δ,h,rh,re,p⟩:=h;refine⟨φ,δ,h,rh,re,(post.fl p).imp ?_⟩;rintro v H1 ⟨φ1,x,h1,p1,t1,aa,ab,q1⟩;cases et:t x δ with
 |none=>rw[et]at q1;show q1.elim
 |some δ'=>rw[et]at q1;show⟨φ1,δ,h1,x,δ',aa,Q_ 0,ab,et,λσ' uq=>q1.nx aa uq⟩
def Pc(he:G_ e m)(hs:YE e b_ pos.line X.env=pure false:=by rfl):Zz (.Expr e pos) (lQ m):=λc=>(J' (he c) hs).imp λD σ H h=>by let⟨φ,δ,h,rh,re,p⟩:=h;refine⟨φ,δ,h,rh,re,(post.fl p).imp ?_⟩;rintro v H1 ⟨φ1,x,h1,p1,t1,aa,ab,q1⟩;show q1.nx aa<|Q_ 0
def Pd(he:G_ e m):Zz (.Return (a_ e) pos) (aX m):=λc=>(LI<|he c).imp λD σ H h=>by let⟨φ,δ,h,rh,re,p⟩:=h;refine⟨φ,δ,h,rh,re,(post.fl p).imp ?_⟩;rintro v H1 ⟨φ1,x,h1,p1,t1,aa,ab,q1⟩;show q1.rt aa ab
variable{as:B_ A_}{tu:z_}
def Ra{a:Ms}{b:Ms}{bs:B_ A_}{t:Ev->PH->ZI 0}(hc:ST C k X tu t)(ha:SSs C k X as a)(hb:SSs C k X bs b):Zz (.If tu as bs pos) (cB t a b):=λc=>(O5 (hc c) (ha c)<|hb c).imp λD σ H h=>by
 let⟨φ,δ,h,rh,re,p⟩:=h;refine⟨φ,δ,h,rh,re,(bR.fl p).imp ?_⟩;rintro d H1 ⟨φ1,h1,p1,t1,aa,q1⟩;cases d with
 |true=>exact Bh ⟨φ1,δ,h1,aa,Q_ 0,q1⟩
 |false=>exact Bg ⟨φ1,δ,h1,aa,Q_ 0,q1⟩
structure Wk where
 xs:B_ PV
 g:PH->Bool
abbrev Fw(C:MC)(J:It)(w:Wk)(φ0:B_ t_)(H0:Hp):Prop:=∀φ H h,φ0<+:φ->Kp H0 H->J_ h->w.g h=true->∀i:Nat,
 (i<w.xs.length->J.go i H/\∀x H',J.yld i H x H'->(∃p,w.xs[i]?=a_ p/\RV C φ H' p x)/\Zx H'/\RH C φ H' h)/\(w.xs.length<=i->J.stop i H)
@[reducible]def Mi:=Ev->PH->Rs Wk
abbrev eM(C:MC)(φ:B_ t_)(H:Hp)(r:Rs Wk)(R:It->Hp->Prop):Prop:=match r with
 |.ok w h=>∀φ' H' J,φ<+:φ'->Zx H'->Zi h->Fw C J w φ' H'->R J H'
 |.exc x h=>∀φ' H',φ<+:φ'->Zx H'->Zi h->C.ex φ' H' x
 |.bad=>False
abbrev rdI(C:MC)(m:Mi):TI:=λσ H R=>∃φ δ h,J_ h/\Y5 0/\eM C φ H (m δ h) R
abbrev SI(C:MC)(k:Nat)(X:Cx)(tg iter:z_)(m:Mi):Prop:=Y2 X->PI X tg iter (rdI C m)
abbrev tS(n:Nat)(xs:Y4 0)(h':PH):Bool:=match aM h' n with
 |some ys=>PV.beqs ys xs
 |none=>false
abbrev ofSeq(x:PV)(h:PH):Rs Wk:=match x with
 |.tup xs=>.ok ⟨xs,λ_=>true⟩ h
 |.ref n=>match aM h n with
  |some xs=>.ok ⟨xs,tS n xs⟩ h
  |none=>.bad
 |.fl xs=>.ok ⟨xs,λ_=>true⟩ h
 |_=>.bad
abbrev aY(m:Me):Mi:=λδ h=>(m δ h).bind ofSeq
def Pe(h:G_ iter m):SI C k X tg iter (aY m):=λc=>by
 intro jn s σ H R I q;let⟨φ,δ,hh,rh,re,p⟩:=q;let key:rd C m σ H λv H1=>∃φ1 x h1,φ<+:φ1/\Zx H1/\Zj 0/\RV C φ1 H1 x v/\eM C φ1 H1 (ofSeq x h1) R:=by
  refine⟨φ,δ,hh,rh,re,?_⟩;unfold aY at p;cases e:m δ hh with
  |ok x h1=>
   rw[e]at p;intro φ' v H' p' t' bu az;refine⟨φ',x,h1,p',t',bu,az,?_⟩
   change eM C φ' H' (ofSeq x h1) R
   let p0:eM C φ H (ofSeq x h1) R:=p;cases e2:ofSeq x h1 with
   |ok w h2=>rw[e2]at p0;show λφ2 H2 J p2 t2=>p0 φ2 H2 J (p'.trans p2) (t'.trans t2)
   |exc z h2=>rw[e2]at p0;show λφ2 H2 p2 t2=>p0 φ2 H2 (p'.trans p2) (t'.trans t2)
   |bad=>rw[e2]at p0;show p0
  |exc x h1=>rw[e]at p;show p
  |bad=>rw[e]at p;show p
 refine thn (h c jn s σ H _ I key) λv s1 z9=>?_;let⟨x,H1,I1,r1,φ1,x',h1,p1,t1,aa,ab,q1⟩:=z9;unfold ofSeq at q1;cases x' with
 |tup xs=>
  let⟨a,vs,rfl,sa,ra⟩:=ab;cases r1
  rw[<-c.K]at sa;let⟨its,rv,p,hz⟩:=I1.tuple sa;refine wpAny_pyIter_tuple (show s1.heap.IsTuple a its.toArray from p) ?_
  refine⟨(e_ s1),[(e_ s1)],_,_,H1,rfl,I1.kept (t':=s1.toks) λb o e=>Zn e,Co a _,⟨_,Za 0,rfl,rfl⟩,λb hb=>?_,?_⟩
  ·let e:b=(e_ s1):=by simpa using hb
   subst e;show I1.fpOk (U1 _)<|I1.hok.fresh<|U1 _
  ·refine q1 φ1 H1 (Itt X.K a) U7 (Kp.refl H1) aa λφ2 H2 h2 p2 t2 ah _ i=>⟨λhi=>?_,λhi=>⟨vs,t2.sq sa,by rw[<-ra.length];show hi⟩⟩;let ak:i<vs.length:=by rw[<-ra.length];show hi
   refine⟨⟨vs,vs[i],t2.sq sa,by simp[ak]⟩,λx H' y=>?_⟩;let⟨e,y⟩:=y;subst e;let⟨x2,e2,r2⟩:=ra.get<|y vs<|t2.sq sa;show⟨⟨x2,e2,r2.mono p2 t2⟩,Kp.refl _,ah⟩
 |ref n=>
  let⟨a,rfl,ha⟩:=ab;cases r1
  dsimp only at q1;cases e:aM h1 n with
  |none=>rw[e]at q1;show q1.elim
  |some xs=>
   rw[e]at q1;let⟨a2,vs,aj,sa,ra⟩:=bK aa e;rw[ha]at aj;cases aj;let gv:SqL X.K H1 a vs:=by rw[c.K];show sa
   let⟨its,rv,p,hz⟩:=I1.list gv;refine wpAny_pyIter_list p.isList ?_;refine⟨(e_ s1),[(e_ s1)],_,_,H1,rfl,I1.kept (t':=s1.toks) λb o e=>Zn e,yK a _,⟨_,Za 0,rfl,rfl⟩,λb hb=>?_,?_⟩
   ·let e:b=(e_ s1):=by simpa using hb
    subst e;show I1.fpOk (U1 _)<|I1.hok.fresh<|U1 _
   ·refine q1 φ1 H1 (Itl X.K a) U7 (Kp.refl H1) aa λφ2 H2 h2 p2 t2 ah hg i=>?_;let hg:(match aM h2 n with|some ys=>PV.beqs ys xs|none=>false)=true:=hg
    cases e2:aM h2 n with
    |none=>rw[e2]at hg;cases hg
    |some ys=>
     rw[e2]at hg;let pb:=PV.beqs_eq hg;subst pb;let⟨a3,us,qo,su,ru⟩:=bK ah e2;rw[dU p2 ha]at qo;cases qo;rw[<-c.K]at su;refine⟨λhi=>?_,λhi=>⟨us,su,by rw[<-ru.length];show hi⟩⟩;let ak:i<us.length:=by rw[<-ru.length];show hi
     refine⟨⟨us,us[i],su,by simp[ak]⟩,λx H' y=>?_⟩;let⟨e,y⟩:=y;subst e;let⟨x2,e2,r2⟩:=ru.get<|y us su;show⟨⟨x2,e2,r2⟩,Kp.refl _,ah⟩
 |fl xs=>
  let⟨a,vs,rfl,sa,ra⟩:=ab;cases r1
  rw[<-c.K]at sa;let⟨its,rv,p,hz⟩:=I1.list sa.sq;refine wpAny_pyIter_list p.isList ?_;refine⟨(e_ s1),[(e_ s1)],_,_,H1,rfl,I1.kept (t':=s1.toks) λb o e=>Zn e,yK a _,⟨_,Za 0,rfl,rfl⟩,λb hb=>?_,?_⟩
  ·let e:b=(e_ s1):=by simpa using hb
   subst e;show I1.fpOk (U1 _)<|I1.hok.fresh<|U1 _
  ·refine q1 φ1 H1 (Itl X.K a) U7 (Kp.refl H1) aa λφ2 H2 h2 p2 t2 ah _ i=>⟨λhi=>?_,λhi=>⟨vs,(t2.sf sa).sq,by rw[<-ra.length];show hi⟩⟩;let ak:i<vs.length:=by rw[<-ra.length];show hi
   refine⟨⟨vs,vs[i],(t2.sf sa).sq,by simp[ak]⟩,λx H' y=>?_⟩;let⟨e,y⟩:=y;subst e;let⟨x2,e2,r2⟩:=ra.get<|y vs (t2.sf sa).sq;show⟨⟨x2,e2,r2.mono p2 t2⟩,Kp.refl _,ah⟩
 |_=>exact q1.elim
abbrev upTo(lo:Int):Nat->Y4 0
 |0=>[]
 |n+1=>.int lo::upTo (lo+1) n
def cU:∀(n:Nat)(lo:Int),(upTo lo n).length=n
 |0,_=>rfl
 |n+1,lo=>by simp[upTo,cU n]
def qE:∀(n:Nat)(lo:Int)(i:Nat),i<n->(upTo lo n)[i]?=d_ (lo+i)
 |0,_,_,h=>by omega
 |n+1,lo,0,_=>by simp[upTo]
 |n+1,lo,i+1,h=>by
  simp only[upTo,Wn];rw[qE n (lo+1) i ⋯];congr 2;omega
open Classical in
abbrev E6:Y4 0->PH->Rs Wk:=λxs h=>match xs with
 |[.int j]=>if -(2 ^ 62)<=j/\j<2 ^ 62 then .ok ⟨upTo 0 j.toNat,λ_=>true⟩ h else .bad
 |_=>.bad
open Classical in
abbrev Hi:Y4 0->PH->Rs Wk:=λxs h=>match xs with
 |[.int i,.int j]=>if -(2 ^ 62)<=i/\i<2 ^ 62/\-(2 ^ 62)<=j/\j<2 ^ 62 then .ok ⟨upTo i (j-i).toNat,λ_=>true⟩ h else .bad
 |_=>.bad
abbrev mF(ms:Ma):Mi:=λδ h=>(ms δ h).bind E6
abbrev vM(ms:Ma):Mi:=λδ h=>(ms δ h).bind Hi
def Hj(lo:Int)(n:Nat)(φ:B_ t_)(H:Hp):Fw C (Itr lo n) ⟨upTo lo n,λ_=>true⟩ φ H:=λφ2 H2 h2 p2 t2 ah _ i=>by
 refine⟨λhi=>?_,λhi=>?_⟩
 ·let ak:i<n:=by rw[<-cU n lo];show hi
  refine⟨ak,λx H' y=>?_⟩;let⟨e,y⟩:=y;subst e y;show⟨⟨.int<|lo+i,qE n lo i ak,rfl⟩,Kp.refl _,ah⟩
 ·have:(upTo lo n).length<=i:=hi;rw[cU]at this;show this
def postA.bindI{r:Rs (Y4 0)}{f:Y4 0->PH->Rs Wk}{R:It->Hp->Prop}(h:eM C φ H (r.bind f) R):postA C φ H r λvs H1=>∃φ1 ps h1,φ<+:φ1/\Zx H1/\Zj 0/\RVs C φ1 H1 ps vs/\eM C φ1 H1 (f ps h1) R:=by
 cases r with
 |ok a h'=>
  intro φ' v H' p' t' rh rv;refine⟨φ',a,h',p',t',rh,rv,?_⟩;let p0:eM C φ H (f a h') R:=h;cases e2:f a h' with
  |ok w h2=>rw[e2]at p0;show λφ2 H2 J p2 t2=>p0 φ2 H2 J (p'.trans p2) (t'.trans t2)
  |exc z h2=>rw[e2]at p0;show λφ2 H2 p2 t2=>p0 φ2 H2 (p'.trans p2) (t'.trans t2)
  |bad=>rw[e2]at p0;show p0
 |exc a h'=>exact h
 |bad=>exact h
def PI.imp{t t':TI}(h:PI X tg iter t)(i:∀σ H R,t' σ H R->t σ H R):PI X tg iter t':=λjn s σ H R I q=>Zg R I<|i σ H R q
set_option tactic.hygienic true in
def MS{x:z_}{p:Pos}(ha:SA C k X [x] ms)(hb:("range" : Str)∈C.bs:=by decide)(hg:Gl X "range" := by rfl)(hs:Vg [x] X.env=[(false,eval x X.env)]:=by rfl):SI C k X tg (.Call (.Name "range" p) [x] [] pos) (mF ms):=λc=>
 (pr1 hg (c.bn _ hb) (ha c) hs).imp λσ H R h=>by
  let⟨φ,δ,h,rh,re,p⟩:=h;refine⟨φ,δ,h,rh,re,(postA.bindI p).imp ?_⟩;rintro vs H1 ⟨φ1,xs,h1,p1,t1,aa,ab,q1⟩;unfold E6 at q1;split at q1
  ·let⟨v,rfl,rx⟩:=ab.one;cases rx
   rename_i j;by_cases hj:-(2 ^ 62)<=j/\j<2 ^ 62
   ·rw[if_pos hj]at q1;show⟨hj,q1 φ1 H1 _ U7 (Kp.refl _) aa<|Hj 0 j.toNat φ1 H1⟩
   ·rw[if_neg hj]at q1;show q1.elim
  ·show q1.elim
set_option tactic.hygienic true in
def MT{x y:z_}{p:Pos}(ha:SA C k X [x,y] ms)(hb:("range" : Str)∈C.bs:=by decide)(hg:Gl X "range" := by rfl)(hs:Vg [x,y] X.env=[(false,eval x X.env),(false,eval y X.env)]:=by rfl)(fj:Vg [y] X.env=[(false,eval y X.env)]:=by rfl):
  SI C k X tg (.Call (.Name "range" p) [x,y] [] pos) (vM ms):=λc=>
 (pr2 hg (c.bn _ hb) (ha c) hs fj).imp λσ H R h=>by
  let⟨φ,δ,h,rh,re,p⟩:=h;refine⟨φ,δ,h,rh,re,(postA.bindI p).imp ?_⟩;rintro vs H1 ⟨φ1,xs,h1,p1,t1,aa,ab,q1⟩;unfold Hi at q1;split at q1
  ·let⟨v,w,rfl,rx,ry⟩:=ab.two;cases rx;cases ry;rename_i i j;by_cases hj:-(2 ^ 62)<=i/\i<2 ^ 62/\-(2 ^ 62)<=j/\j<2 ^ 62
   ·rw[if_pos hj]at q1;show⟨hj,q1 φ1 H1 _ U7 (Kp.refl _) aa<|Hj i (j-i).toNat φ1 H1⟩
   ·rw[if_neg hj]at q1;show q1.elim
  ·show q1.elim
abbrev iL(g:PH->Bool)(tg:Mg)(body:Ms):Y4 0->Ev->PH->Fl
 |[],δ,h=>if g h=true then .nx δ h else .bad
 |x::xs,δ,h=>if g h=true then(match tg x δ with
  |none=>.bad
  |some δ1=>match body δ1 h with
   |.nx δ2 h2=>iL g tg body xs δ2 h2
   |.ct δ2 h2=>iL g tg body xs δ2 h2
   |.bk δ2 h2=>.nx δ2 h2
   |r=>r) else .bad
abbrev fF(mi:Mi)(tg:Mg)(body:Ms):Ms:=λδ h=>(mi δ h).fl λw h1=>iL w.g tg body w.xs δ h1
def eM.fl{r:Rs Wk}{f:Wk->PH->Fl}{D:Ends}(h:bN C φ H (r.fl f) D):eM C φ H r λJ H1=>∃φ1 w h1,φ<+:φ1/\Zx H1/\Zj 0/\Fw C J w φ1 H1/\bN C φ1 H1 (f w h1) D:=by
 cases r with
 |ok a h'=>exact λφ' H' J p t rh wk=>⟨φ',a,h',p,t,rh,wk,bN.weak p t h⟩
 |exc a h'=>exact h
 |bad=>exact h
def eM.imp{r:Rs Wk}{Q Q':It->Hp->Prop}(h:eM C φ H r Q)(i:∀v H',Q v H'->Q' v H'):eM C φ H r Q':=by
 cases r with
 |ok a h'=>exact λφ' H' J p t rh wk=>i J H' (h φ' H' J p t rh wk)
 |exc a h'=>exact h
 |bad=>exact h
def drop_cons{α:Type}{xs:B_ α}{p:α}(h:xs[i]?=a_ p):xs.drop i=p::xs.drop (i+1):=by let⟨h1,h2⟩:=SC.mp h;rw[List.drop_eq_getElem_cons h1,h2]
variable{H0:Hp}{J:It}{φ0:B_ t_}
def JU{w:Wk}{tg:Mg}{body:Ms}{D:Ends}{σ:St}(wk:Fw C J w φ0 H0)(rh:RH C φ0 H0 h)(re:RE C φ0 H0 δ σ)(p:bN C φ0 H0 (iL w.g tg body w.xs δ h) D):
  ∃W:Nat->Nat->St->Hp->Prop,(∃m,W 0 m σ H0)/\∀i m σ H,W i m σ H->
   (J.stop i H/\D.nx σ H)\/(J.go i H/\∃N:St->Hp->Prop,(∀σ' H',N σ' H'->∃m',m'<m/\W (i+1) m' σ' H')/\∀x H',J.yld i H x H'->rdG C tg x σ H' λσ2 H2=>rdS C body { D with nx:=N,ct:=N,bk:=D.nx} σ2 H2):=by
 refine⟨λi m σ H=>m=w.xs.length-i/\i<=w.xs.length/\∃φ δ h,φ0<+:φ/\Kp H0 H/\J_ h/\Y5 0/\bN C φ H (iL w.g tg body (w.xs.drop i) δ h) D,
  ⟨w.xs.length,by simp,Vr _,φ0,δ,h,U7,Kp.refl _,rh,re,by rw[List.drop_zero];show p⟩,?_⟩
 rintro i m σ H ⟨rfl,hi,φ,δ,h,pp,tt,rh,re,p⟩;by_cases ag:i<w.xs.length
 ·let hd:w.xs.drop i=w.xs[i]::w.xs.drop (i+1):=drop_cons (by simp[ag]);rw[hd]at p;unfold iL at p;by_cases hg:w.g h=true
  ·rw[if_pos hg]at p;let⟨go,step⟩:=(wk φ H h pp tt rh hg i).1 ag;refine .inr ⟨go,λσ' H'=>∃φ δ h,φ0<+:φ/\Kp H0 H'/\RH C φ H' h/\RE C φ H' δ σ'/\bN C φ H' (iL w.g tg body (w.xs.drop<|i+1) δ h) D,λσ' H' ⟨φ',δ',h',q⟩=>⟨w.xs.length-(i+1),⋯,rfl,ag,φ',δ',h',q⟩,λx H' y=>?_⟩;let⟨⟨q,eq,rv⟩,t1,aa⟩:=step x H' y;let xk:w.xs[i]=q:=by
    have:w.xs[i]?=a_ w.xs[i]:=by simp[ag]
    rw[this]at eq;show Vq eq
   rw[xk]at p;cases et:tg q δ with
   |none=>rw[et]at p;show p.elim
   |some δ1=>
    rw[et]at p;dsimp only at p;refine⟨φ,δ,h,q,δ1,aa,re.mono U7 t1,rv,et,λσ2 tw=>⟨φ,δ1,h,aa,tw,?_⟩⟩;let p:=bN.weak U7 t1 p;cases eb:body δ1 h with
    |nx δ2 h2=>rw[eb]at p;show λφ3 σ3 H3 p3 t3 a7 jm=>⟨φ3,δ2,h2,pp.trans p3,(tt.trans t1).trans t3,a7,jm,bN.weak p3 t3 p⟩
    |ct δ2 h2=>rw[eb]at p;show λφ3 σ3 H3 p3 t3 a7 jm=>⟨φ3,δ2,h2,pp.trans p3,(tt.trans t1).trans t3,a7,jm,bN.weak p3 t3 p⟩
    |bk δ2 h2=>rw[eb]at p;show p
    |rt z h2=>rw[eb]at p;show p
    |exc z h2=>rw[eb]at p;show p
    |bad=>rw[eb]at p;show p
  ·rw[if_neg hg]at p;show p.elim
 ·let e:i=w.xs.length:=⋯;subst e;rw[List.drop_length]at p;unfold iL at p;by_cases hg:w.g h=true
  ·rw[if_pos hg]at p;show .inl ⟨(wk φ H h pp tt rh hg _).2<|U1 _,p.nx rh re⟩
  ·rw[if_neg hg]at p;show p.elim
variable{body:B_ A_}{mi:Mi}
def Pf{t:Mg}{mb:Ms}(hi:SI C k X tg iter mi)(hg:SG C k X tg t)(hb:SSs C k X body mb)(hp:PassesOwn (h_ X) X.A X.env X.xe:=by show PassesOwn.never)(hs:∀x,q0c 0=pure x:=by intro _;rfl):Zz (.For tg iter body [] pos) (fF mi t mb):=λc=>(LO hp c.calm (hi c) (hg c) (hb c) hs).imp λD σ H h=>by let⟨φ,δ,h,rh,re,p⟩:=h;refine⟨φ,δ,h,rh,re,(eM.fl p).imp ?_⟩;rintro J H1 ⟨φ1,w,h1,p1,t1,aa,wk,q1⟩;show JU wk aa (Q_ 0) q1
abbrev zK(t:Ev->PH->ZI 0)(body:Ms):Nat->Ev->PH->Fl
 |0,_,_=>.bad
 |n+1,δ,h=>(t δ h).fl λb h1=>match b with
  |false=>.nx δ h1
  |true=>match body δ h1 with
   |.nx δ2 h2=>zK t body n δ2 h2
   |.ct δ2 h2=>zK t body n δ2 h2
   |.bk δ2 h2=>.nx δ2 h2
   |r=>r
abbrev vN(n:Nat)(t:Ev->PH->ZI 0)(body:Ms):Ms:=zK t body n
def JV{t:Ev->PH->ZI 0}{mb:Ms}(hc:ST C k X tu t)(hb:SSs C k X body mb)(hp:PassesOwn (h_ X) X.A X.env X.xe:=by show PassesOwn.never):Zz (.While tu body [] pos) (vN n t mb):=λc=>
 (Gf hp (hc c)<|hb c).imp λD σ H h=>by
  refine⟨λm σ H=>∃φ δ h,J_ h/\Y5 0/\bN C φ H (zK t mb m δ h) D,⟨n,h⟩,?_⟩;rintro m σ H ⟨φ,δ,h,rh,re,p⟩;cases m with
  |zero=>exact p.elim
  |succ m=>
   refine⟨φ,δ,h,rh,re,(bR.fl p).imp ?_⟩;rintro b H1 ⟨φ1,h1,p1,t1,aa,q1⟩;cases b with
   |false=>exact Bg<|q1.nx aa<|Q_ 0
   |true=>
    refine Bh ⟨λσ' H'=>∃φ δ h,RH C φ H' h/\RE C φ H' δ σ'/\bN C φ H' (zK t mb m δ h) D,λσ' H' q=>⟨m,Nat.lt_succ_self m,q⟩,φ1,δ,h1,aa,Q_ 0,?_⟩;dsimp only at q1;cases eb:mb δ h1 with
    |nx δ2 h2=>rw[eb]at q1;show λφ3 σ3 H3 p3 t3 a7 jm=>⟨φ3,δ2,h2,a7,jm,bN.weak p3 t3 q1⟩
    |ct δ2 h2=>rw[eb]at q1;show λφ3 σ3 H3 p3 t3 a7 jm=>⟨φ3,δ2,h2,a7,jm,bN.weak p3 t3 q1⟩
    |bk δ2 h2=>rw[eb]at q1;show q1
    |rt z h2=>rw[eb]at q1;show q1
    |exc z h2=>rw[eb]at q1;show q1
    |bad=>rw[eb]at q1;show q1
variable{C:MC}{k:Nat}{X:Cx}
abbrev cQ(js:B_ (C_ Nat))(δ:Ev):Ev:=js.map λo=>match o with
 |none=>b_
 |some j=>An δ j
def E7:∀{σ:St}{i:Nat}{v:V},σ[i]?=a_ (a_ v)->CG σ i=a_ v
 |[],_,_,h=>by simp at h
 |x::_,0,v,h=>by
  have:x=a_ v:=by simpa using h
  show this
 |_::r,n+1,v,h=>E7 (σ:=r) (i:=n) (l_ h)
def RE.cap{σ:St}(re:Y5 0)(js:B_ (C_ Nat)):RE C φ H (cQ js δ) (kG js σ):=by
 refine⟨by simp[cQ,kG],λi p e=>?_⟩;unfold cQ at e;unfold kG;rw[Vf]at e⊢;cases q:js[i]? with
 |none=>rw[q]at e;cases e
 |some o=>
  rw[q]at e;cases o with
  |none=>cases e
  |some j=>let⟨v,hv,rv⟩:=re.2 j p<|vJ<|Vq e;show⟨v,by change a_ (CG σ j)=_;rw[E7 hv],rv⟩
abbrev lM(g:PH->Bool)(tg:Mg)(tst:Ev->PH->ZI 0)(elt:Me)(δ0:Ev)(n:Nat):Y4 0->PH->Rs PV
 |[],h=>if g h=true then .ok (.ref n) h else .bad
 |x::xs,h=>if g h=true then(match tg x δ0 with
  |none=>.bad
  |some δ1=>(tst δ1 h).bind λb h1=>match b with
   |false=>lM g tg tst elt δ0 n xs h1
   |true=>(elt δ1 h1).bind λp h2=>match bT h2 n with
    |some ys=>if ys.length<U9 then lM g tg tst elt δ0 n xs (h2.set n<|.lst<|ys++[p]) else .bad
    |none=>.bad) else .bad
abbrev aW(js:B_ (C_ Nat))(mi:Mi)(tg:Mg)(tst:Ev->PH->ZI 0)(elt:Me):Me:=λδ h=>(mi δ h).bind λw h1=>lM w.g tg tst elt (cQ js δ) h1.length w.xs<|h1++[.lst []]
abbrev gM:Ev->PH->ZI 0:=λ_ h=>.ok true h
abbrev STs(C:MC)(k:Nat)(X:Cx)(es:B_ z_)(m:Ev->PH->ZI 0):Prop:=Y2 X->PTs X es (rdB C m)
def MU:STs C k X [] gM:=λc jn s σ H Q I h=>by let⟨φ,δ,h,rh,re,p⟩:=h;show Jv jn s σ H Q I<|p.val rh
def MV{m:Ev->PH->ZI 0}(h:ST C k X e m):STs C k X [e] m:=λc=>Jw<|h c
def eM.bind{r:Rs Wk}{f:Wk->PH->Rs PV}{Q:VK}(h:P2 (r.bind f) Q):eM C φ H r λJ H1=>∃φ1 w h1,φ<+:φ1/\Zx H1/\Zj 0/\Fw C J w φ1 H1/\post C φ1 H1 (f w h1) Q:=by
 cases r with
 |ok a h'=>exact λφ' H' J p t rh wk=>⟨φ',a,h',p,t,rh,wk,post.weak p t h⟩
 |exc a h'=>exact h
 |bad=>exact h
variable{elt:Me}{tst:Ev->PH->ZI 0}
def Hk{w:Wk}{tg:Mg}{Q:VK}{σ:St}(wk:Fw C J w φ0 H0)(rh:RH C φ0 H0 h)(re:RE C φ0 H0 δ σ)(p:post C φ0 H0 (lM w.g tg tst elt (cQ js δ) h.length w.xs<|h++[.lst []]) Q)(acc:t_)(aw:H0 acc=b_):
  ∃W:Nat->Nat->Hp->Prop,(∃m,W 0 m<|upd H0 acc<|.lst [])/\∀i m H2,W i m H2->
   (J.stop i H2/\Q (.ref acc) H2)\/(J.go i H2/\∃N:Hp->Prop,(∀H',N H'->∃m',m'<m/\W (i+1) m' H')/\∀x H3,J.yld i H2 x H3->Lf js (rdG C tg) (rdB C tst) (rd C elt) σ acc x H3 N):=by
 let hlen:(φ0++[acc])[h.length]?=a_ acc:=by rw[<-rh.len];simp
 refine⟨λi m H=>m=w.xs.length-i/\i<=w.xs.length/\∃φ h',(φ0++[acc])<+:φ/\Kp H0 H/\J_ h'/\P2 (lM w.g tg tst elt (cQ js δ) h.length (w.xs.drop i) h') Q,
  ⟨w.xs.length,by simp,Vr _,φ0++[acc],h++[.lst []],U7,Kp.new aw,rh.new (o:=.lst []) aw ⟨[],aL,trivial⟩,by rw[List.drop_zero];show post.weak (Vv _ _) (Kp.new aw) p⟩,?_⟩
 rintro i m H ⟨rfl,hi,φ,h',pp,tt,bu,p⟩;let vy:φ0<+:φ:=(Vv _ _).trans pp;by_cases ag:i<w.xs.length
 ·let hd:w.xs.drop i=w.xs[i]::w.xs.drop (i+1):=drop_cons (by simp[ag]);rw[hd]at p;unfold lM at p;by_cases hg:w.g h'=true
  ·rw[if_pos hg]at p;let⟨go,step⟩:=(wk φ H h' vy tt bu hg i).1 ag;refine .inr ⟨go,λH'=>∃φ h',(φ0++[acc])<+:φ/\Kp H0 H'/\RH C φ H' h'/\post C φ H' (lM w.g tg tst elt (cQ js δ) h.length (w.xs.drop<|i+1) h') Q,λH' ⟨φ',h',q⟩=>⟨w.xs.length-(i+1),⋯,rfl,ag,φ',h',q⟩,λx H' y=>?_⟩;let⟨⟨q,eq,rv⟩,t1,aa⟩:=step x H' y;let xk:w.xs[i]=q:=by
    have:w.xs[i]?=a_ w.xs[i]:=by simp[ag]
    rw[this]at eq;show Vq eq
   rw[xk]at p;cases et:tg q (cQ js δ) with
   |none=>rw[et]at p;show p.elim
   |some δ1=>
    rw[et]at p;let n5:RE C φ H' (cQ js δ) (kG js σ):=(re.mono vy<|tt.trans t1).cap js;refine⟨φ,cQ js δ,h',q,δ1,aa,n5,rv,et,λσ2 tw=>⟨φ,δ1,h',aa,tw,(bR.bind<|post.weak U7 t1 p).imp ?_⟩⟩;rintro b H5 ⟨φ5,h5,p5,t5,rh5,q5⟩;cases b with
    |false=>exact Bg ⟨φ5,h5,pp.trans p5,(tt.trans t1).trans t5,rh5,q5⟩
    |true=>
     refine Bh ⟨φ5,δ1,h5,rh5,tw.mono p5 t5,(post.bind q5).imp ?_⟩;rintro v H6 ⟨φ6,z,h6,p6,t6,rh6,rv6,q6⟩;cases e6:bT h6 h.length with
     |none=>rw[e6]at q6;show q6.elim
     |some ys=>
      rw[e6]at q6;let⟨hz,q6⟩:=q6.ite;let hφ:φ6[h.length]?=a_ acc:=dU ((pp.trans p5).trans p6) hlen;let⟨vs,hH,ip⟩:=rh6.at' h.length acc _ hφ (fV e6);refine⟨vs,hH,by rw[<-ip.length];show hz,φ6,h6.set h.length (.lst (ys++[z])),(pp.trans p5).trans p6,(((tt.trans t1).trans t5).trans t6).trans (Kp.lst hH),
       rh6.write hφ (by rw[hH];trivial) ⟨vs++[v],aL,(ip.snoc rv6).mono U7 (Kp.lst hH)⟩,post.weak U7 (Kp.lst hH) q6⟩
  ·rw[if_neg hg]at p;show p.elim
 ·let e:i=w.xs.length:=⋯;subst e;rw[List.drop_length]at p;unfold lM at p;by_cases hg:w.g h'=true
  ·rw[if_pos hg]at p;show .inl ⟨(wk φ H h' vy tt bu hg _).2<|U1 _,p.val bu ⟨acc,rfl,dU pp hlen⟩⟩
  ·rw[if_neg hg]at p;show p.elim
def E8{tg:Mg}{σ:St}{Q:VK}(h:rd C (aW js mi tg tst elt) σ H Q):DX js (rdI C mi) (rdG C tg) (rdB C tst) (rd C elt) σ H Q:=by let⟨φ,δ,h,rh,re,p⟩:=h;refine⟨φ,δ,h,rh,re,(eM.bind p).imp ?_⟩;rintro J H1 ⟨φ1,w,h1,p1,t1,aa,wk,q1⟩;intro acc aw;show Hk wk aa (Q_ 0) q1 acc aw
def MW{elt:z_}{g:Mg}{tt:Ev->PH->ZI 0}(f9:X.env.scope=os)(jw:X.N=oN)(ok:kE os oN sc N js=true)(hi:SI C k X tg iter mi)(hg:∀C' fp s₀ H₀,SG C k (S2 N C' fp s₀ H₀) tg g)(ht:∀C' fp s₀ H₀,STs C k (S2 N C' fp s₀ H₀) ifs tt)(he:∀C' fp s₀ H₀,SE C k (S2 N C' fp s₀ H₀) elt me)(hs:∀x,q0c 0=pure x:=by intro _;rfl):G_ (.ListComp elt [⟨tg,iter,ifs,0⟩] sc pos) (aW js mi g tt me):=λc=>(Jx c.calm f9 jw ok (hi c) (λa b s H=>hg a b s H<|c.comp sc N a b s H) (λa b s H=>ht a b s H<|c.comp sc N a b s H) (λa b s H=>he a b s H<|c.comp sc N a b s H) hs).imp λσ H Q h=>E8 h
def Fx{elt:z_}{g:Mg}{tt:Ev->PH->ZI 0}(hN:X.N.Nodup)(df:X.N[i]?=a_ x)(j0:V_ 0=a_ .local)(f9:X.env.scope=os)(jw:X.N=oN)(ok:kE os oN sc N js=true)(hi:SI C k X tg iter mi)(hg:∀C' fp s₀ H₀,SG C k (S2 N C' fp s₀ H₀) tg g)(ht:∀C' fp s₀ H₀,STs C k (S2 N C' fp s₀ H₀) ifs tt)(he:∀C' fp s₀ H₀,SE C k (S2 N C' fp s₀ H₀) elt me)(ql:YE (.ListComp elt [⟨tg,iter,ifs,0⟩] sc pos) (a_<|.Name x pos') du.line X.env=pure true:=by rfl)(hs:∀x,q0c 0=pure x:=by intro _;rfl):Zz (.Assign [.Name x pos'] (.ListComp elt [⟨tg,iter,ifs,0⟩] sc pos) du) (aP i<|aW js mi g tt me):=λc=>(CH hN df j0 c.calm f9 jw ok (hi c) (λa b s H=>hg a b s H<|c.comp sc N a b s H) (λa b s H=>ht a b s H<|c.comp sc N a b s H) (λa b s H=>he a b s H<|c.comp sc N a b s H) ql hs).imp λD σ H h=>by let⟨φ,δ,h,rh,re,p⟩:=h;refine E8 ⟨φ,δ,h,rh,re,(post.fl p).imp ?_⟩;rintro v H1 ⟨φ1,x,h1,p1,t1,aa,ab,q1⟩;show q1.nx aa<|(Q_ 0).set ab i
abbrev mFn(N:Nat)(body:Ms):Fn:=λargs h=>match body (args.map a_++Xz (N-args.length) b_) h with
 |.nx _ h'=>.ok .non h'
 |.rt p h'=>.ok p h'
 |.exc x h'=>.exc x h'
 |_=>.bad
def RE.start{ps:Y4 0}(r:E_ ps vs)(N:Zf 0):RE C φ H (ps.map a_++Xz (N.length-ps.length) b_) (start N vs):=by
 unfold L2.start;refine⟨by simp[r.length],λi p e=>?_⟩;by_cases hi:i<ps.length
 ·rw[VR<|l_ hi,Vf]at e;rw[VR<|by simpa[<-r.length] using hi,Vf]
  cases q:ps[i]? with
  |none=>rw[q]at e;cases e
  |some x=>
   rw[q]at e;cases e
   let⟨v,hv,rv⟩:=r.at q;show⟨v,by rw[hv];rfl,rv⟩
 ·rw[Wq<|l_ hi]at e;rw[List.getElem?_replicate]at e;split at e
  ·cases e
  ·cases e
def Lj{f:t_}{body:Ms}(hex:∀φ H x,¬ C.ex φ H x)(hbn:∀x∈C.bs,mg x=b_)(F:Fun C.K x qual st f fd)(S:pO N ps (aV st))(hb:∀(cdv:s_)(A:v_)(outer:B_ Env)(s:td)(H:Hp)(E:XK),SSs C k (xQ CX0 P C.w C.K mg base N qual (aV st) f cdv A outer s H E).nox (cE st) body):
  cI P C.w C.K mg base CX0 (k+1) f fd ps (spM C ps.length<|mFn N.length body):=by
 refine F.ok S (λvs H Q E h=>?_)<|λcdv A outer s H vs Q E hr h=>?_
 ·let⟨φ,h,xs,rh,rv,hl,_⟩:=h;rw[<-rv.length];show hl
 ·let⟨φ,h,xs,rh,rv,hl,p⟩:=h;refine⟨_,hb cdv A outer s H E ⟨rfl,rfl,hr,hbn,rfl⟩,φ,xs.map a_++Xz (N.length-xs.length) b_,h,rh,RE.start rv N,?_⟩;unfold mFn at p;cases e:body (xs.map a_++Xz (N.length-xs.length) b_) h with
  |nx δ h'=>rw[e]at p;show λφ' σ' H' pp tt bu uq=>p φ' .non H' pp tt bu rfl
  |rt z h'=>rw[e]at p;show p
  |exc z h'=>rw[e]at p;show λφ' H' pp tt bu=>(hex _ _ _<|p φ' H' pp tt bu).elim
  |bk δ h'=>rw[e]at p;show p.elim
  |ct δ h'=>rw[e]at p;show p.elim
  |bad=>rw[e]at p;show p.elim
def MX{f:Fn}{Q:VK}{E:XK}(hO:GA H)(ho:SqL C.K H a (ZO 0))(hf:∃h,f [.fl<|Zv 0] []=.ok (.bl true) h)(hQ:∀H',Q (.bl true) H'):spM C 1 f [.ref a] H Q E:=by
 let r0:∀ns:Z8 0,RVs C [] H (Zv 0) (ZO 0):=by
  intro ns
  induction ns with
  |nil=>trivial
  |cons n ns ih=>exact⟨rfl,ih⟩
 let hs:SqF C.K H a (ZO 0):=by
  rcases ho with(h|⟨o,h⟩)|h
  ·rcases hO a with z|⟨o,xs,z⟩
   ·rw[z]at h;cases h
   ·rw[z]at h;cases h
  ·show .inl ⟨o,h⟩
  ·show .inr h
 refine⟨[],[],[.fl<|Zv 0],⟨rfl,by simp,λn b ob h1 h2=>by simp at h1⟩,⟨⟨a,_,rfl,hs,r0 ns⟩,trivial⟩,rfl,?_⟩;let⟨h,e⟩:=hf;rw[e];intro φ' v H' _ _ _ rv;cases rv
 show hQ H'
variable{C:MC}{k:Nat}{X:Cx}
abbrev tyN(x:PV)(h:PH):C_ String:=match x with
 |.non=>a_ "NoneType"
 |.bl _=>a_ "bool"
 |.int _=>a_ "int"
 |.str _=>a_ "str"
 |.tup _=>a_ "tuple"
 |.fl _=>a_ "list"
 |.ref n=>match h[n]? with
  |some (.lst _)=>a_ "list"
  |some (.dK _)=>a_ "dict"
  |_=>b_
 |.ty _=>b_
abbrev Pg(t c:String):Bool:=t == c || (t == "bool" && c == "int")
abbrev known:B_ String:=["int","str","bool","list","tuple","dict"]
abbrev RF:Y4 0->PH->Rs PV:=λxs h=>match xs with
 |[x,.ty c]=>match tyN x h with
  |some t=>if c∈known then .ok (.bl<|Pg t c) h else .bad
  |none=>.bad
 |_=>.bad
abbrev mMt(ty:PV->PH->Bool)(g:PV->Y4 0->PH->Rs PV)(mo:Me)(ms:Ma):Me:=λδ h=>(mo δ h).bind λx h1=>if ty x h1=true then(ms δ h1).bind λps h2=>g x ps h2 else .bad
abbrev nW(ty:PV->PH->Bool)(g:PV->Y4 0->PH->Rs PV)(mo:Me):Me:=λδ h=>(mo δ h).bind λx h1=>if ty x h1=true then g x [] h1 else .bad
abbrev rM(C:MC)(g:PV->Y4 0->PH->Rs PV):V->B_ V->Hp->VK->Prop:=λx xs H Q=>∃φ h p ps,J_ h/\D_ p x/\E_ ps xs/\P2 (g p ps h) Q
abbrev MtS(C:MC)(k:Nat)(X:Cx)(T:String)(ty:PV->PH->Bool)(id:String)(g:PV->Y4 0->PH->Rs PV):Prop:=Y2 X->MtR X id (rM C g)/\∀φ H h p x,J_ h->D_ p x->ty p h=true->tyV C.K T x H
variable{ae apos:Pos}{mo:Me}{name:Str}{ty:PV->PH->Bool}
def Ph{o:z_}{id:String}{g:PV->Y4 0->PH->Rs PV}(pa:PlainAttrs T)(slot:Slot T name id)(ir:typeOf (.builtin id)=pure (.type "method_descriptor"))(hm:MtS C k X T ty id g)(ho:G_ o mo)(ha:SA C k X (e::es) ms)(au:Xb o name X.env (ZP 0)=ZP 0:=by rfl)(fc:((backTo ae (Vg (e::es) X.env)).all (λx=>!x.1)&&(backToKw ae (keywordEach [] X.env)).all (λx=>x.1.isSome)
   && decide ((e::es).length+([]:B_ Keyword).length+(if([]:B_ Keyword).isEmpty then 0 else 1)<30))=true:=by rfl)(ar:(apos.endLine == ae.line)=true:=by rfl)(hs:Vg (e::es) X.env=(false,U_ 0)::W_ 0:=by rfl)(cw:(backTo ae (W_ 0)).any (·.1)=false:=by rfl):
  G_ (.Call (.Attribute o name apos) (e::es) [] ae) (mMt ty g mo ms):=λc=>(Om pa slot ir (hm c).1 (ho c) (ha c) au fc ar hs cw).imp λσ H Q h=>by
 let⟨φ,δ,h,rh,re,p⟩:=h;refine⟨φ,δ,h,rh,re,(post.bind p).imp ?_⟩;rintro v H1 ⟨φ1,x,h1,p1,t1,aa,ab,q1⟩;let⟨ht,q1⟩:=q1.ite;refine⟨by rw[c.K];show(hm c).2 φ1 H1 h1 x v aa ab ht,φ1,δ,h1,aa,Q_ 0,(postA.bind q1).imp ?_⟩;rintro vs H2 ⟨φ2,xs,h2,p2,t2,ah,c6,q2⟩;show⟨φ2,h2,x,xs,ah,ab.mono p2 t2,c6,q2⟩
def Pi{o:z_}{id:String}{g:PV->Y4 0->PH->Rs PV}(pa:PlainAttrs T)(slot:Slot T name id)(ir:typeOf (.builtin id)=pure (.type "method_descriptor"))(hm:MtS C k X T ty id g)(ho:G_ o mo)(au:Xb o name X.env (ZP 0)=ZP 0:=by rfl)(ar:(apos.endLine == ae.line)=true:=by rfl):G_ (.Call (.Attribute o name apos) [] [] ae) (nW ty g mo):=λc=>(M8 pa slot ir (hm c).1 (ho c) au ar).imp λσ H Q h=>by let⟨φ,δ,h,rh,re,p⟩:=h;refine⟨φ,δ,h,rh,re,(post.bind p).imp ?_⟩;rintro v H1 ⟨φ1,x,h1,p1,t1,aa,ab,q1⟩;let⟨ht,q1⟩:=q1.ite;show⟨by rw[c.K];show(hm c).2 φ1 H1 h1 x v aa ab ht,φ1,h1,x,[],aa,ab,trivial,q1⟩
def MtR.imp{id:String}{r r':V->B_ V->Hp->VK->Prop}(h:MtR X id r)(i:∀x xs H Q,r' x xs H Q->r x xs H Q):MtR X id r':=λjn s σ H x xs v us Q I rx rs q=>Zg x xs v us Q I rx rs<|i x xs H Q q
abbrev isL(x:PV)(h:PH):Bool:=match x with
 |.ref n=>(bT h n).isSome
 |_=>false
def D5{x:V}(rh:J_ h)(rv:D_ p x)(e:isL p h=true):tyV C.K "list" x H:=by
 cases p with
 |ref n=>
  let⟨a,rfl,ha⟩:=rv;let⟨xs,hx⟩:=Option.isSome_iff_exists.mp (show(bT h n).isSome=true from e)
  let⟨vs,hH,ra⟩:=YW<|fV hx;show .inl ⟨rfl,vs,SqL.of hH⟩
 |_=>cases e
abbrev onL(f:Y4 0->Y4 0->C_ (PV×Y4 0)):PV->Y4 0->PH->Rs PV:=λx ps h=>match x with
 |.ref n=>match bT h n with
  |some xs=>match f xs ps with
   |some (r,ys)=>.ok r (ZL<|.lst ys)
   |none=>.bad
  |none=>.bad
 |_=>.bad
def Hl{f:Y4 0->Y4 0->C_ (PV×Y4 0)}{x:V}{xs:B_ V}{Q:VK}(h:rM C (onL f) x xs H Q):∃φ l ps ys vs r zs,x=.ref l/\H l=a_ (.lst vs)/\E_ ys vs/\E_ ps xs/\f ys ps=a_ (r,zs)/\
  ∀(v:V)(ws:B_ V),D_ r v->E_ zs ws->Q v (S1 l<|.lst ws):=by
 let⟨φ,h,p,ps,rh,rx,rs,po⟩:=h;unfold onL at po;cases p with
 |ref n=>
  let⟨a,rfl,ha⟩:=rx;dsimp only at po;cases e:bT h n with
  |none=>rw[e]at po;show po.elim
  |some ys=>
   rw[e]at po;dsimp only at po;let⟨vs,hH,ra⟩:=YW<|fV e;cases ef:f ys ps with
   |none=>rw[ef]at po;show po.elim
   |some rz=>rw[ef]at po;let⟨r,zs⟩:=rz;show⟨φ,a,ps,ys,vs,r,zs,rfl,hH,ra,rs,ef,λv ws rv c5=>po.lset rh ha hH c5 rv⟩
 |_=>exact po.elim
abbrev cF:Y4 0->Y4 0->C_ (PV×Y4 0):=λxs ps=>match ps with
 |[p]=>if xs.length<U9 then a_ (.non,xs++[p]) else b_
 |_=>b_
abbrev D8:Y4 0->Y4 0->C_ (PV×Y4 0):=λxs ps=>match ps with
 |[]=>match xs[xs.length-1]? with
  |some p=>a_ (p,xs.dropLast)
  |none=>b_
 |_=>b_
def RVs.dropLast(r:ZR 0):E_ xs.dropLast vs.dropLast:=by rw[List.dropLast_eq_take,List.dropLast_eq_take,r.length];show r.take _
set_option tactic.hygienic true in
def Fy:MtR X "list.append" (rM C<|onL cF):=MtR.imp (show MtR X "list.append" DU from yQ) λx xs H Q h=>by
 let⟨φ,l,ps,ys,vs,r,zs,rfl,hH,ra,rs,ef,q⟩:=Hl h;unfold cF at ef;split at ef
 ·split at ef
  ·rename_i hz;cases ef
   let⟨v,rfl,rx⟩:=rs.one;show⟨l,vs,v,rfl,rfl,hH,by rw[<-ra.length];show hz,q .non _ rfl<|ra.snoc rx⟩
  ·cases ef
 ·cases ef
def Hm:MtS C k X "list" isL "list.append" (onL cF):=λc=>⟨Fy,λφ H h p x rh rv e=>D5 rh rv e⟩
set_option tactic.hygienic true in
def MY:MtR X "list.pop" (rM C<|onL D8):=MtR.imp (show MtR X "list.pop" On from M9) λx xs H Q h=>by
 let⟨φ,l,ps,ys,vs,r,zs,rfl,hH,ra,rs,ef,q⟩:=Hl h;unfold D8 at ef;split at ef
 ·split at ef
  ·rename_i p hp;cases ef
   have:xs=[]:=by cases xs <;> first|rfl|exact rs.elim
   subst this;rw[ra.length]at hp;let⟨v,hv,rv⟩:=ra.at hp;show⟨l,vs,v,rfl,rfl,hH,hv,q v _ rv ra.dropLast⟩
  ·cases ef
 ·cases ef
def Pj:MtS C k X "list" isL "list.pop" (onL D8):=λc=>⟨MY,λφ H h p x rh rv e=>D5 rh rv e⟩
abbrev Pk(K:UF):R2:=λx y H Q=>∃a b ys,x=.ref a/\y=.ref b/\ZE a []/\ZE b ys/\Q (.ref b) H
def JW:Y3 (Wx .Add) (Pk X.K):=by
 intro jn s σ H x y v u Q I rx ry h;let⟨a,b,ys,rfl,rfl,ha,hb,q⟩:=h;cases rx
 cases ry
 let⟨its,r1,p1,_⟩:=I.tuple ha;let⟨c7,r2,p2,_⟩:=I.tuple hb;cases r1
 let⟨⟨cls,dd,data,sl⟩,ho,hc,n,hd⟩:=id p1;let⟨⟨v8,t9,data2,u1⟩,mn,gi,n2,hd2⟩:=id p2;simp only at hc hd gi hd2;subst hc hd gi hd2;show concat_meets ⟨_,ho,rfl⟩ ⟨_,mn,rfl⟩ noFill_tuple_add seq_tuple_add PySem.F.slot_tuple_add PySem.F.entry_tuple_add (PySem.F.args_tuple_add_2 _ _)
   (tuple_addW0 a b ([]:ZM 0).toArray c7.toArray n n2 dd t9 sl u1<|by simp) ⟨ho,mn,⟨.ref b,H,I,rfl,q⟩⟩
abbrev aR:PV->PV->PH->Rs PV:=λx y h=>match x,y with
 |.tup [],.tup ys=>.ok (.tup ys) h
 |x,y=>Hd x y h
def MZ:Y0 (Wx .Add) aR:=λc=>((ON c).or (by have:=JW (X:=X);rw[c.K]at this;show this)).imp λx y H Q h=>by
 let⟨φ,h,p,q,rh,rx,ry,po⟩:=h;unfold aR at po;split at po
 ·let⟨a,vs,rfl,sa,ra⟩:=rx;let⟨b,us,rfl,sb,rb⟩:=ry;have:vs=[]:=by cases vs <;> first|rfl|exact ra.elim
  subst this;show .inr ⟨a,b,us,rfl,rfl,sa,sb,P_ ⟨b,us,rfl,sb,rb⟩⟩
 ·show .inl ⟨φ,h,p,q,rh,rx,ry,po⟩
variable{C:MC}{k:Nat}{X:Cx}
abbrev Bz:PV->PV->PH->Rs PV:=λx y h=>match x,y with
 |.str a,.str b=>.ok (.bl<|!decide (V.str a=V.str b)) h
 |.int a,.int b=>.ok (.bl<|!decide (V.int a=V.int b)) h
 |_,_=>.bad
def Pl:Y0 (VC .NotEq) Bz:=λc jn s σ H x y v u Q I rx ry h=>by
 let⟨φ,h,p,q,rh,rp,rq,po⟩:=h;unfold Bz at po;split at po
 ·cases rp;cases rq;let⟨t,rfl⟩:=rx;let⟨t',rfl⟩:=ry;show ne_str<|oG I (P_ rfl)<|congrArg not Jf
 ·cases rp;cases rq;let⟨t,rfl⟩:=rx;let⟨t',rfl⟩:=ry;show ne_int<|oG I (P_ rfl)<|congrArg not Je
 ·show po.elim
abbrev D9:Y4 0->PH->Rs PV:=λxs h=>match xs with
 |[.str _,.ty n]=>if n="str" then .ok (.bl true) h else .bad
 |_=>.bad
def Pm:mD C k X (.builtin "isinstance") D9:=λc jn s σ H xs us Q I r h=>by
 let⟨φ,h,ps,rh,rv,po⟩:=h;unfold D9 at po;split at po
 ·let⟨hn,po⟩:=po.ite;subst hn;let⟨v,w,rfl,rx,ry⟩:=rv.two;cases ry;cases rx;let⟨u,v,rfl,ru,rw⟩:=vals2 r;cases rw
  let⟨t,rfl⟩:=ru;show PySem.W.kia_one PySem.W.kitx_str I.kIn WR (b:=true) (show PySem.W.kitOne X.K (.type "str") (.type "str")=a_ true from rfl) (λz=>nomatch z) λtk=>⟨.bl true,H,I.tok tk,rfl,P_ rfl⟩
 ·show po.elim
open PySem
@[irreducible]def Rs.W{α:Type}(r:Rs α)(Q:α->PH->Prop):Prop:=match r with
 |.ok a h=>Q a h
 |_=>False
structure FE where
 nx:Ev->PH->Prop
 rt:PV->PH->Prop
 bk:Ev->PH->Prop:=λ_ _=>False
 ct:Ev->PH->Prop:=λ_ _=>False
@[irreducible]def Fl.W(r:Fl)(E:FE):Prop:=match r with
 |.nx δ h=>E.nx δ h
 |.rt p h=>E.rt p h
 |.bk δ h=>E.bk δ h
 |.ct δ h=>E.ct δ h
 |_=>False
@[irreducible]def Lt(b:Ms)(E:FE)(δ:Ev)(h:PH):Prop:=(b δ h).W E
variable{ys:Y4 0}{h1:PH}{args:Y4 0}
section
unseal Rs.W Fl.W Lt
variable{α β:Type}{Q:α->PH->Prop}{E:FE}
@[simp]theorem vO{a:α}:(Rs.ok a h).W Q=Q a h:=(rfl)
@[simp]theorem Rb:(Fl.nx δ h).W E=E.nx δ h:=(rfl)
@[simp]theorem RG:(Fl.rt p h).W E=E.rt p h:=(rfl)
@[simp]theorem Da{Q:β->PH->Prop}{r:Rs α}{f:α->PH->Rs β}:(r.bind f).W Q=r.W λa h=>(f a h).W Q:=by cases r <;> rfl
@[simp]theorem Dc{r:Rs α}{f:α->PH->Fl}:(r.fl f).W E=r.W λa h=>(f a h).W E:=by cases r <;> rfl
def De{Q':α->PH->Prop}{r:Rs α}(h:r.W Q)(i:∀a h,Q a h->Q' a h):r.W Q':=by cases r <;> first|exact i _ _ h|exact h
@[simp]theorem Ry{c:Prop}[Decidable c]{x y:Rs α}:(if c then x else y).W Q=if c then x.W Q else y.W Q:=by split <;> rfl
@[simp]theorem Rz:(Rs.bad:Rs α).W Q=False:=(rfl)
@[simp]theorem Rc:Fl.bad.W E=False:=(rfl)
def fX{r:Rs α}(w:r.W Q):∃a h,r=.ok a h/\Q a h:=by
 cases r with
 |ok a h=>exact⟨a,h,rfl,w⟩
 |exc=>exact w.elim
 |bad=>exact w.elim
variable{a b:Ms}{t ta tb:Ev->PH->ZI 0}{g g':PV->PV->PH->Rs PV}
def aD:(aG a b δ h).W E=(a δ h).W { E with nx:=Lt b E}:=by
 change(match a δ h with|.nx δ1 h1=>b δ1 h1|r=>r).W E=_
 cases a δ h <;> rfl
def now{b:Ms}(w:(b δ h).W E):Lt b E δ h:=w
@[simp]theorem RA:(cJ δ h).W E=E.nx δ h:=(rfl)
@[simp]theorem RB:(JS δ h).W E=E.ct δ h:=(rfl)
@[simp]theorem Pn:(aP i m δ h).W E=(m δ h).W λp h=>E.nx (δ.set i<|a_ p) h:=by simp[aP]
@[simp]theorem RC{t:Mg}:(rK m t δ h).W E=(m δ h).W λp h=>∃δ',t p δ=a_ δ'/\E.nx δ' h:=by
 unfold rK;cases m δ h with
 |ok p h1=>
  change(match t p δ with|some δ'=>Fl.nx δ' h1|none=>.bad).W E=∃δ',t p δ=a_ δ'/\E.nx δ' h1
  cases t p δ <;> simp[Fl.W]
 |exc=>rfl
 |bad=>rfl
@[simp]theorem Lk:(lQ m δ h).W E=(m δ h).W λ_ h=>E.nx δ h:=by simp[lQ]
@[simp]theorem Hn:(aX m δ h).W E=(m δ h).W E.rt:=by simp[aX]
@[simp]theorem bV:(cB t a b δ h).W E=(t δ h).W λc h=>if c=true then(a δ h).W E else(b δ h).W E:=by
 unfold cB;rw[Dc];congr;funext c h;cases c <;> simp
@[simp]theorem Po:mV i δ h=match An δ i with|some p=>.ok p h|none=>.bad:=(rfl)
@[simp]theorem Ll:mC p δ h=.ok p h:=(rfl)
@[simp]theorem E9:aB g ma mb δ h=(ma δ h).bind λx h1=>(mb δ h1).bind λy h2=>g x y h2:=(rfl)
@[simp]theorem Re{g:PV->PH->Rs PV}:mUn g ma δ h=(ma δ h).bind g:=(rfl)
@[simp]theorem JX:aT m δ h=(m δ h).bind tru:=(rfl)
@[simp]theorem Pp:zI t δ h=(t δ h).bind λb h1=>.ok (!b) h1:=(rfl)
@[simp]theorem Pq:Bx ta tb δ h=(ta δ h).bind λb h1=>if b=true then tb δ h1 else .ok false h1:=by unfold Bx;congr 1;funext b h1;cases b <;> simp
@[simp]theorem Rf:mIf t ma mb δ h=(t δ h).bind λb h1=>if b=true then ma δ h1 else mb δ h1:=by unfold mIf;congr 1;funext b h1;cases b <;> simp
abbrev bl2(x:PV)(f g:Rs PV):Rs PV:=match x with
 |.bl true=>f
 |.bl false=>g
 |_=>.bad
@[simp]theorem Rg{b:Bool}{f g:Rs PV}:bl2 (.bl b) f g=if b=true then f else g:=by cases b <;> simp[bl2]
set_option tactic.hygienic true in
@[simp]theorem Pr:zJ ma mb δ h=(ma δ h).bind λx h1=>bl2 x (mb δ h1) (.ok (.bl false) h1):=by unfold zJ;first|rfl|(congr 1;funext x h1;cases x <;> first|rfl|(rename_i b;cases b <;> rfl))
set_option tactic.hygienic true in
@[simp]theorem Qi:Fv g g' ma mb mc δ h=(ma δ h).bind λx h1=>(mb δ h1).bind λy h2=>(g x y h2).bind λz h3=>bl2 z ((mc δ h3).bind λw h4=>(g' y w h4).bind Hg) (.ok (.bl false) h3):=by unfold Fv;first|rfl|(congr 1;funext x h1;congr 1;funext y h2;congr 1;funext z h3;cases z <;> first|rfl|(rename_i b;cases b <;> rfl))
@[simp]theorem Pt{b:Bool}:Hg (.bl b) h=.ok (.bl b) h:=(rfl)
@[simp]theorem Qj:aU ms δ h=(ms δ h).bind λxs h1=>if xs.length<=U9 then .ok (.tup xs) h1 else .bad:=(rfl)
@[simp]theorem Qk:jG ms δ h=(ms δ h).bind λxs h1=>if xs.length<=U9 then .ok (.ref h1.length) (h1++[.lst xs]) else .bad:=(rfl)
@[simp]theorem NU:jH δ h=.ok (.ref h.length) (h++[.dK []]):=(rfl)
@[simp]theorem JY:aC δ h=.ok [] h:=(rfl)
@[simp]theorem Ho:aA m ms δ h=(m δ h).bind λx h1=>(ms δ h1).bind λxs h2=>.ok (x::xs) h2:=(rfl)
@[simp]theorem N1{g:Y4 0->PH->Rs PV}:mCB g ms δ h=(ms δ h).bind g:=(rfl)
@[simp]theorem Pu{f:Fn}:bO n f ms δ h=(ms δ h).bind λps h1=>if ps.length=n then f ps h1 else .bad:=(rfl)
@[simp]theorem JZ:iJ δ h=.ok b_ h:=(rfl)
abbrev Hq(x:PV)(h:PH):Rs (Z2 0):=match x with
 |.int i=>.ok (a_ i) h
 |_=>.bad
@[simp]theorem Df{i:Int}:Hq (.int i) h=.ok (a_ i) h:=(rfl)
@[simp]theorem Pv:mP m δ h=(m δ h).bind Hq:=(rfl)
@[simp]theorem N2:mSl m ml mh δ h=(m δ h).bind λx h1=>(ml δ h1).bind λl h2=>(mh δ h2).bind λu h3=>vSl x l u h3:=(rfl)
@[simp]theorem Rh{g:PV->Y4 0->PH->Rs PV}:mMt ty g m ms δ h=(m δ h).bind λx h1=>if ty x h1=true then(ms δ h1).bind λps h2=>g x ps h2 else .bad:=(rfl)
@[simp]theorem Ql{g:PV->Y4 0->PH->Rs PV}:nW ty g m δ h=(m δ h).bind λx h1=>if ty x h1=true then g x [] h1 else .bad:=(rfl)
@[simp]theorem iD:U9=16777216:=by rw[VN]
def K0{i j:Int}(c:(-18446744073709551616<i/\i<18446744073709551616)\/(-18446744073709551616<j/\j<18446744073709551616)):Bv (.int i) (.int j) h=.ok (.int<|i*j) h:=by
 change(if Ba i j then _ else _)=_
 show if_pos c
@[simp]theorem Pw{i j:Int}(c:(-18446744073709551616<i/\i<18446744073709551616)\/(-18446744073709551616<j/\j<18446744073709551616)):vInt Ba (λi j=>i*j) (.int i) (.int j) h=.ok (.int<|i*j) h:=K0 c
@[simp]theorem Qm{i j:Int}(c:0<j/\j<1073741824):vInt Gg (λi j=>i/j) (.int i) (.int j) h=.ok (.int<|i/j) h:=if_pos c
@[simp]theorem Qn{i j:Int}(c:0<j):vInt (λ_ j=>0<j) (λi j=>i%j) (.int i) (.int j) h=.ok (.int<|i%j) h:=if_pos c
@[simp]theorem Qo{i j:Int}(c:0<=j/\j<=1000000/\-18446744073709551616<i/\i<18446744073709551616):vInt EO (λi j=>i ^ j.toNat) (.int i) (.int j) h=.ok (.int<|i ^ j.toNat) h:=by
 change(if EO i j then _ else _)=_
 refine if_pos ⟨c.1,c.2.1,?_⟩;let⟨_,_,h1,h2⟩:=c;omega
@[simp]theorem Qp{i j:Int}:rF (.int i) (.int j) h=.ok (.int<|i-j) h:=(rfl)
@[simp]theorem Fz{i j:Int}:aR (.int i) (.int j) h=.ok (.int<|i+j) h:=(rfl)
@[simp]theorem NV{y:Str}(c:x.length+y.length<=16777216):aR (.str x) (.str y) h=.ok (.str<|x++y) h:=if_pos c
@[simp]theorem zL(c:xs.length+ys.length<=16777216):aR (.tup xs) (.tup ys) h=.ok (.tup<|xs++ys) h:=by
 cases xs with
 |nil=>rfl
 |cons x xs=>exact if_pos ⟨rfl,c⟩
@[simp]theorem Px{f:Int->Int->Bool}{g:B_ Nat->B_ Nat->Bool}{i j:Int}:D3 f g (.int i) (.int j) h=.ok (.bl<|f i j) h:=(rfl)
@[simp]theorem Ri{b:Bool}:tru (.bl b) h=.ok b h:=(rfl)
@[simp]theorem Py:ofO (a_ p) h=.ok p h:=(rfl)
@[simp]theorem Qq{i:Int}:vIx (.tup xs) (.int i) h=ofO (atI xs i) h:=(rfl)
@[simp]theorem Rj{i:Int}:vIx (.fl xs) (.int i) h=ofO (atI xs i) h:=(rfl)
def cO{i:Int}(e:h[n]?=a_ (.lst xs)):vIx (.ref n) (.int i) h=ofO (atI xs i) h:=by simp[vIx,aM,e]
@[simp]theorem K1{z:Str}{i:Int}(c:z.length<=16777216):vIx (.str z) (.int i) h=ofO ((atI z.cps.toList i).map λc=>.str ⟨#[c]⟩) h:=if_pos c
@[simp]theorem Qr:mE [.fl xs] h=.ok (.int xs.length) h:=(rfl)
@[simp]theorem Pz(c:x.length<=16777216):mE [.str x] h=.ok (.int x.length) h:=if_pos c
def vP(e:h[n]?=a_ (.lst xs)):mE [.ref n] h=.ok (.int xs.length) h:=by simp[mE,aM,e]
@[simp]theorem Qs{i j:Int}:By [.int i,.int j] h=.ok (.int<|if j>i then j else i) h:=(rfl)
def iE(e:h[n]?=a_ (.lst xs)):isL (.ref n) h=true:=by simp[isL,bT,e]
def dX(e:h[n]?=a_ (.lst xs))(c:xs.length<16777216):onL cF (.ref n) [p] h=.ok .non (ZL<|.lst<|xs++[p]):=by simp[onL,bT,e,cF,c]
def K2{α:Type}{xs:B_ α}{i:Int}(h0:0<=i)(h1:i<xs.length):atI xs i=xs[i.toNat]?:=by unfold atI ixN;rw[if_pos h0,if_pos h1];rfl
def rN{g:PH->Bool}{tg:Mg}{body:Ms}{E:FE}(I:Nat->Ev->PH->Prop):∀(xs:Y4 0)(k:Nat)(δ:Ev)(h:PH),I k δ h->
  (∀i x δ h,k<=i->xs[i-k]?=a_ x->I i δ h->g h=true/\∃δ1,tg x δ=a_ δ1/\(body δ1 h).W { nx:=I<|i+1,ct:=I<|i+1,rt:=E.rt,bk:=E.nx})->
  (∀δ h,I (k+xs.length) δ h->g h=true/\E.nx δ h)->(iL g tg body xs δ h).W E
 |[],k,δ,h,i0,_,fin=>by let⟨h1,h2⟩:=fin δ h i0;simp[iL,h1,h2]
 |x::xs,k,δ,h,i0,step,fin=>by
  let⟨h1,δ1,h2,h3⟩:=step k x δ h (U1 _) (by simp) i0;let go:∀δ2 h2,I (k+1) δ2 h2->(iL g tg body xs δ2 h2).W E:=λδ2 h2 i2=>
   rN I xs (k+1) δ2 h2 i2 (λi y δ h hk hy=>step i y δ h ⋯ (by
    have:i-k=(i-(k+1))+1:=⋯;rw[this,Wn];show hy)) (λδ h hi=>fin δ h (by
    let e:k+(x::xs).length=k+1+xs.length:=by simp;omega
    rw[e];show hi))
  unfold iL;rw[if_pos h1,h2]
  change Fl.W (match body δ1 h with|.nx δ2 h2=>iL g tg body xs δ2 h2|.ct δ2 h2=>iL g tg body xs δ2 h2|.bk δ2 h2=>.nx δ2 h2|r=>r) E
  cases e:body δ1 h with
  |nx δ2 h2=>rw[e]at h3;show go δ2 h2 h3
  |ct δ2 h2=>rw[e]at h3;show go δ2 h2 h3
  |bk δ2 h2=>rw[e]at h3;show h3
  |rt p h2=>rw[e]at h3;show h3
  |exc=>rw[e]at h3;show h3
  |bad=>rw[e]at h3;show h3
def Hr{body:Ms}{j:Int}(I:Nat->Ev->PH->Prop)(e:ms δ h=.ok [.int j] h)(hj:-4611686018427387904<=j/\j<4611686018427387904)(h0:I 0 δ h)(step:∀(q:Nat) δ h,(q:Int)<j->I q δ h->(body (δ.set i<|d_ q) h).W { nx:=I<|q+1,ct:=I<|q+1,rt:=E.rt,bk:=E.nx})(fin:∀δ h,I j.toNat δ h->E.nx δ h):(fF (mF ms) (gN i) body δ h).W E:=by
 unfold fF mF;rw[e];let jk:-(2 ^ 62)<=j/\j<2 ^ 62:=hj;simp only[Rs.bind_ok,E6,if_pos jk,Rs.fl_ok];refine rN I _ 0 δ h h0 (λq x δ h _ hx hi=>?_) (λδ h hi=>⟨rfl,fin δ h (by rw[cU,Nat.zero_add]at hi;show hi)⟩);let hq:q<j.toNat:=by have:=(SC.mp hx).1;rw[cU]at this;omega
 rw[Nat.sub_zero,qE _ _ _ hq]at hx;cases hx
 refine⟨rfl,_,rfl,?_⟩;rw[Int.zero_add];show step q δ h ⋯ hi
def N3{body:Ms}{lo j:Int}(I:Nat->Ev->PH->Prop)(e:ms δ h=.ok [.int lo,.int j] h)(hj:-4611686018427387904<=lo/\lo<4611686018427387904/\-4611686018427387904<=j/\j<4611686018427387904)(h0:I 0 δ h)(step:∀(q:Nat) δ h,lo+(q:Int)<j->I q δ h->(body (δ.set i<|d_<|lo+q) h).W { nx:=I<|q+1,ct:=I<|q+1,rt:=E.rt,bk:=E.nx})(fin:∀δ h,I (j-lo).toNat δ h->E.nx δ h):(fF (vM ms) (gN i) body δ h).W E:=by
 unfold fF vM;rw[e];let jk:-(2 ^ 62)<=lo/\lo<2 ^ 62/\-(2 ^ 62)<=j/\j<2 ^ 62:=hj;simp only[Rs.bind_ok,Hi,if_pos jk,Rs.fl_ok];refine rN I _ 0 δ h h0 (λq x δ h _ hx hi=>?_) (λδ h hi=>⟨rfl,fin δ h (by rw[cU,Nat.zero_add]at hi;show hi)⟩);let hq:q<(j-lo).toNat:=by have:=(SC.mp hx).1;rw[cU]at this;omega
 rw[Nat.sub_zero,qE _ _ _ hq]at hx;cases hx
 show⟨rfl,_,rfl,step q δ h ⋯ hi⟩
def N4{tg:Mg}{body:Ms}(I:Nat->Ev->PH->Prop)(e:m δ h=.ok (.tup xs) h\/m δ h=.ok (.fl xs) h)(h0:I 0 δ h)(step:∀(q:Nat) x δ h,xs[q]?=a_ x->I q δ h->∃δ1,tg x δ=a_ δ1/\(body δ1 h).W { nx:=I<|q+1,ct:=I<|q+1,rt:=E.rt,bk:=E.nx})(fin:∀δ h,I xs.length δ h->E.nx δ h):(fF (aY m) tg body δ h).W E:=by
 let go:(iL (λ_=>true) tg body xs δ h).W E:=rN I _ 0 δ h h0 (λq x δ h _ hx hi=>⟨rfl,step q x δ h (l_ hx) hi⟩)<|λδ h hi=>⟨rfl,fin δ h<|l_ hi⟩;unfold fF aY;rcases e with e|e <;> rw[e] <;> exact go
def oR{tg:Mg}{body:Ms}(I:Nat->Ev->PH->Prop)(e:m δ h=.ok (.ref n) h1)(hn:h1[n]?=a_ (.lst xs))(h0:I 0 δ h1)(keep:∀q δ h,q<=xs.length->I q δ h->h[n]?=a_ (.lst xs))(step:∀(q:Nat) x δ h,xs[q]?=a_ x->I q δ h->∃δ1,tg x δ=a_ δ1/\(body δ1 h).W { nx:=I<|q+1,ct:=I<|q+1,rt:=E.rt,bk:=E.nx})(fin:∀δ h,I xs.length δ h->E.nx δ h):(fF (aY m) tg body δ h).W E:=by
 let hk:∀{h:PH},h[n]?=a_ (.lst xs)->tS n xs h=true:=λ{h} e=>by
  let e3:aM h n=a_ xs:=by unfold aM;rw[e]
  unfold tS;rw[e3];show PV.beqs_self xs
 unfold fF aY;rw[e];let e2:ofSeq (.ref n) h1=.ok ⟨xs,tS n xs⟩ h1:=by
  let e3:aM h1 n=a_ xs:=by unfold aM;rw[hn]
  unfold ofSeq;simp only[e3]
 rw[Rs.bind_ok,e2,Rs.fl_ok];refine rN I _ 0 δ h1 h0 (λq x δ h _ hx hi=>?_)<|λδ h hi=>?_
 ·let df:xs[q]?=a_ x:=by simpa using hx
  have:=(SC.mp df).1;show⟨hk<|keep q δ h ⋯ hi,step q x δ h df hi⟩
 ·let ak:I xs.length δ h:=by simpa using hi
  show⟨hk<|keep _ δ h (U1 _) ak,fin δ h ak⟩
def bG{N:Nat}{body:Ms}{Q:PV->PH->Prop}(w:(body (args.map a_++Xz (N-args.length) b_) h).W { nx:=λ_ h=>Q .non h,rt:=Q}):(mFn N body args h).W Q:=by
 unfold mFn;cases e:body (args.map a_++Xz (N-args.length) b_) h with
 |nx δ h'=>rw[e]at w;show w
 |rt p h'=>rw[e]at w;show w
 |_=>rw[e]at w;show w.elim
@[simp]theorem RD:gN i p δ=a_ (δ.set i<|a_ p):=(rfl)
@[simp]theorem Rk{u:Mgs}{ps:Y4 0}:gTp n u (.tup ps) δ=if ps.length=n then u ps δ else b_:=(rfl)
@[simp]theorem Rl{t:Mg}{u:Mgs}{r:Y4 0}:gCn t u (p::r) δ=(t p δ).bind (u r):=(rfl)
@[simp]theorem Rm:gNl [] δ=a_ δ:=(rfl)
end
abbrev Ext(h h':PH):Prop:=∀(n:Nat)(o:MO),h[n]?=a_ o->h'[n]?=a_ o
def Ext.refl(h:PH):O_ h:=λ_ _ e=>e
variable{h2:PH}
def Ext.trans(a:O_ h1)(b:Ext h1 h2):O_ h2:=λn o e=>b n o<|a n o e
def Ext.app(h g:PH):O_ (h++g):=λn o e=>by rw[VR (SC.mp e).1];show e
def Ext.len{h':PH}(e:O_ h'):h.length<=h'.length:=by
 rcases Nat.lt_or_ge h'.length h.length with z|z
 ·have:h[h'.length]?=a_ h[h'.length]:=by simp[z]
  have:=(SC.mp<|e _ _ this).1;omega
 ·show z
def aE:(h++[o])[h.length]?=a_ o:=by simp
variable{o':MO}
def aS(e:h[n]?=a_ o):(ZL o')[n]?=a_ o':=VW (SC.mp e).1
def aJ{m:Nat}(e:h[m]?=a_ o)(d:n≠m):(ZL o')[m]?=a_ o:=by rw[VD d];show e
abbrev PV.pl:Nat->PV->Bool
 |_,.non=>true
 |_,.int _=>true
 |_,.str _=>true
 |n+1,.tup xs=>xs.all (PV.pl n)
 |_,_=>false
def K3{x:PV}{d:D}{ds:B_ D}(h1:x.d=a_ d)(h2:PV.ds xs=a_ ds):PV.ds (x::xs)=a_ (d::ds):=by simp[PV.ds,h1,h2]
def PB{ds:B_ D}(h:PV.ds xs=a_ ds):(PV.tup xs).d=a_ (.tup ds):=by simp[PV.d,h]
set_option tactic.hygienic true in
def fG{d:D}(h:(PV.tup xs).d=a_ d):∃ds,PV.ds xs=a_ ds/\d=.tup ds:=by
 unfold PV.d at h;split at h
 ·rename_i ds e;cases h;show⟨ds,e,rfl⟩
 ·cases h
set_option tactic.hygienic true in
def mG{x:PV}{ds:B_ D}(h:PV.ds (x::xs)=a_ ds):∃d r,x.d=a_ d/\PV.ds xs=a_ r/\ds=d::r:=by
 unfold PV.ds at h;split at h
 ·rename_i d r e1 e2;cases h;show⟨d,r,e1,e2,rfl⟩
 ·cases h
def Aq:∀(n:Nat)(x:PV),x.pl n=true->∃d,x.d=a_ d/\d.depth<=n:=by
 intro n
 induction n with
 |zero=>intro x h;cases x <;> first|exact⟨_,rfl,U1 _⟩|(simp[PV.pl]at h)
 |succ n ih=>
  intro x h;cases x with
  |tup xs=>
   let h:xs.all (PV.pl n)=true:=h;let many:∀(xs:Y4 0),xs.all (PV.pl n)=true->∃ds,PV.ds xs=a_ ds/\YX 0<=n:=by
    intro xs
    induction xs with
    |nil=>intro _;show⟨[],rfl,Vr _⟩
    |cons x xs ihx=>
     intro h;simp only[Ym,VA]at h;let⟨d,h1,h2⟩:=ih x h.1;let⟨ds,h3,h4⟩:=ihx h.2;refine⟨d::ds,K3 h1 h3,?_⟩
     change max d.depth (YX 0)<=n
     omega
   let⟨ds,h1,h2⟩:=many xs h;refine⟨.tup ds,PB h1,?_⟩
   change YX 0+1<=n+1
   omega
  |_=>first|exact⟨_,rfl,Vr _⟩|(simp[PV.pl]at h)
def Lm:∀(n:Nat)(x y:PV)(d e:D),x.pl n=true->y.pl n=true->x.d=a_ d->y.d=a_ e->eqD d e=decide (x=y):=by
 intro n
 induction n with
 |zero=>
  intro x y d e hx hy h1 h2;cases x <;> first|(simp[PV.pl]at hx;done)|skip
  all_goals cases h1
  all_goals cases y <;> first|(simp[PV.pl]at hy;done)|skip
  all_goals cases h2
  all_goals simp only[eqD]
  all_goals rw[WE]
  all_goals simp
 |succ n ih=>
  intro x y d e hx hy h1 h2;let lists:∀(xs ys:Y4 0)(ds es:B_ D),xs.all (PV.pl n)=true->ys.all (PV.pl n)=true->PV.ds xs=a_ ds->PV.ds ys=a_ es->iB ds es=decide (xs=ys):=by
   intro xs
   induction xs with
   |nil=>
    intro ys ds es _ _ h1 h2;cases h1
    cases ys with
    |nil=>cases h2;rfl
    |cons y ys=>let⟨d,r,_,_,rfl⟩:=mG h2;simp[iB]
   |cons x xs ihx=>
    intro ys ds es hx hy h1 h2;let⟨d,r,g1,g2,rfl⟩:=mG h1;simp only[Ym,VA]at hx;cases ys with
    |nil=>cases h2;simp[iB]
    |cons y ys=>let⟨e,q,g3,g4,rfl⟩:=mG h2;simp only[Ym,VA]at hy;simp only[iB,ih x y d e hx.1 hy.1 g1 g3,ihx ys r q hx.2 hy.2 g2 g4];rw[WE];simp
  cases x with
  |tup xs=>
   let⟨ds,g1,rfl⟩:=fG h1;cases y with
   |tup ys=>let⟨es,g2,rfl⟩:=fG h2;simp only[eqD,lists xs ys ds es hx hy g1 g2];rw[WE];simp
   |non=>cases h2;simp[eqD]
   |int j=>cases h2;simp[eqD]
   |str j=>cases h2;simp[eqD]
   |_=>simp[PV.pl]at hy
  |non=>
   cases h1
   cases y with
   |tup ys=>let⟨es,g2,rfl⟩:=fG h2;simp[eqD]
   |non=>cases h2;simp[eqD]
   |int j=>cases h2;simp[eqD]
   |str j=>cases h2;simp[eqD]
   |_=>simp[PV.pl]at hy
  |int i=>
   cases h1
   cases y with
   |tup ys=>let⟨es,g2,rfl⟩:=fG h2;simp[eqD]
   |non=>cases h2;simp[eqD]
   |int j=>cases h2;simp only[eqD];rw[WE];simp
   |str j=>cases h2;simp[eqD]
   |_=>simp[PV.pl]at hy
  |str i=>
   cases h1
   cases y with
   |tup ys=>let⟨es,g2,rfl⟩:=fG h2;simp[eqD]
   |non=>cases h2;simp[eqD]
   |int j=>cases h2;simp[eqD]
   |str j=>cases h2;simp only[eqD];rw[WE];simp
   |_=>simp[PV.pl]at hy
  |_=>simp[PV.pl]at hx
def Ar{x:PV}{y:PV}(hx:x.pl 40=true)(hy:y.pl 40=true):iI x y h=a_ (decide (x=y)):=by let⟨d,h1,h2⟩:=Aq 40 x hx;let⟨e,h3,h4⟩:=Aq 40 y hy;unfold iI;rw[h1,h3];simp only[h2,if_true,Lm 40 x y d e hx hy h1 h3]
def As{x:PV}{y:PV}(hx:x.pl 40=true)(hy:y.pl 40=true):vEq x y h=.ok (.bl<|decide (x=y)) h:=by unfold vEq;rw[Ar hx hy];rfl
@[simp]theorem Qt{i j:Int}:vEq (.int i) (.int j) h=.ok (.bl<|decide (i=j)) h:=by rw[As rfl rfl];congr 2;simp
@[simp]theorem Qu{i j:Str}:vEq (.str i) (.str j) h=.ok (.bl<|decide (i=j)) h:=by rw[As rfl rfl];congr 2;simp
def vQ{m:Nat}(e1:h[n]?=a_ (.lst xs))(e2:h[m]?=a_ (.lst ys))(hx:xs.all (PV.pl 39)=true)(hy:ys.all (PV.pl 39)=true):iI (.ref n) (.ref m) h=a_ (decide (xs=ys)):=by
 let e3:dM (.ref n) h=a_ xs:=by unfold dM aM;simp only[e1]
 let e4:dM (.ref m) h=a_ ys:=by unfold dM aM;simp only[e2]
 let df:(PV.tup xs).pl 40=true:=hx;let jd:(PV.tup ys).pl 40=true:=hy;let⟨d,h1,h2⟩:=Aq 40 _ df;let⟨e,h3,h4⟩:=Aq 40 _ jd;let⟨ds,g1,rfl⟩:=fG h1;let⟨es,g2,rfl⟩:=fG h3;let h5:=Lm 40 _ _ _ _ df jd h1 h3;let gj:YX 0+1<=40:=h2;let SX:iB ds es=decide (xs=ys):=by have:iB ds es=decide (PV.tup xs=PV.tup ys):=h5;rw[this,WE];simp
 unfold iI;let n1:(PV.ref n).d=b_:=rfl;rw[n1];simp only[e3,e4,g1,g2,show YX 0<=40 by omega,if_true,SX]
def K4{m:Nat}(e1:h[n]?=a_ (.lst xs))(e2:h[m]?=a_ (.lst ys))(hx:xs.all (PV.pl 39)=true)(hy:ys.all (PV.pl 39)=true):vEq (.ref n) (.ref m) h=.ok (.bl<|decide (xs=ys)) h:=by unfold vEq;rw[vQ e1 e2 hx hy];rfl
section
variable{α:Type}{a b c d e f g:α}{r:B_ α}
def Au{xs:B_ α}{v:α}(i:Nat)(h:xs[i]?=a_ v):atI xs (i:Int)=a_ v:=kH h
@[simp]theorem RI:atI (a::r) 0=a_ a:=Au 0 rfl
@[simp]theorem RJ:atI (a::b::r) 1=a_ b:=Au 1 rfl
@[simp]theorem RK:atI (a::b::c::r) 2=a_ c:=Au 2 rfl
def K5{xs:B_ α}{i:Int}(h:xs≠[]):∃v,atI xs (i%(xs.length:Int))=a_ v/\v∈xs:=by let h0:0<xs.length:=List.length_pos_iff.mpr h;let⟨v,h1,h2⟩:=Mr (xs:=xs) (i:=i%(xs.length:Int)) (YI _ ⋯)<|Int.emod_lt_of_pos _ ⋯;show⟨v,h1,VE h2⟩
end
variable{C:MC}{k:Nat}{X:Cx}
def FA:Y2 X->cS X (.builtin "sum") (λxs H Q=>∃(p:t_)(ns:Z8 0),xs=[.ref p]/\SqL C.K H p (ZO 0)/\Q (.int ns.sum) H):=λc=>by
 intro jn s σ H xs us Q I r h;let⟨p,ns,rfl,hq,q⟩:=h;let⟨u,rfl,ru⟩:=vals1 r;cases ru
 rw[<-c.K]at hq;let⟨its,rv,pl,hz⟩:=I.list hq;let hi:IntsAre its ns:=intsAre_of rv;let⟨ys,hy⟩:=hi.allInts.items;let hl:=pl.isList;rw[hy]at hl;refine sum_intListG (I.ok.hd c.calm) hl λh' tk t' hk=>?_;let e:preSum (numAt ys) ys.size=ns.sum:=by let e1:=preSum_eq ys ys.size;rw[Xm<|by simp]at e1;rw[e1,<-nums_intItems,<-hy];have:=hi.numsOf;rw[show its.toArray.toList=its from rfl,this]
 rw[e];show⟨.int ns.sum,H,I.kept hk,⟨_,rfl⟩,q⟩
abbrev vR:Y4 0->C_ (Z8 0)
 |[]=>a_ []
 |.int i::r=>(vR r).map (i::·)
 |_::_=>b_
def Av{φ:B_ t_}{H:Hp}:∀{xs:Y4 0}{vs:B_ V}{ns:Z8 0},ZR 0->vR xs=a_ ns->vs=ZO 0
 |[],[],_,_,e=>by cases e;rfl
 |x::xs,v::vs,ns,⟨h,r⟩,e=>by
  cases x with
  |int i=>
   cases h
   simp only[vR,Vn]at e;let⟨m,e,rfl⟩:=e;rw[Av r e];rfl
  |_=>cases e
 |[],_::_,_,h,_=>h.elim
 |_::_,[],_,h,_=>h.elim
def zM(ns:Z8 0):vR (Zv 0)=a_ ns:=by
 induction ns with
 |nil=>rfl
 |cons n ns ih=>simp[vR,ih]
abbrev BA:Y4 0->PH->Rs PV:=λxs h=>match xs with
 |[x]=>match dM x h with
  |some ys=>match vR ys with
   |some ns=>.ok (.int ns.sum) h
   |none=>.bad
  |none=>.bad
 |_=>.bad
set_option tactic.hygienic true in
def PC:mD C k X (.builtin "sum") BA:=λc=>(FA c).imp λvs H Q h=>by
 let⟨φ,h,ps,rh,rv,po⟩:=h;unfold BA at po;split at po
 ·let⟨v,rfl,rx⟩:=rv.one;split at po
  ·rename_i ys e;split at po
   ·rename_i ns en;let⟨a,vs,rfl,sa,ra⟩:=fW rh rx e;rw[Av ra en]at sa;show⟨a,ns,rfl,sa,P_ rfl⟩
   ·show po.elim
  ·show po.elim
 ·show po.elim
def BB(e:h[n]?=a_ (.lst<|Zv 0)):BA [.ref n] h=.ok (.int ns.sum) h:=by
 let e1:dM (.ref n) h=a_ (Zv 0):=by unfold dM aM;simp only[e]
 unfold BA;simp only[e1,zM]
open PySem
@[simp]theorem Qv{z:Str}(c:z.length<=16777216):vSl (.str z) lo hi h=.ok (.str<|WC z lo hi) h:=if_pos c
@[simp]theorem K6:vSl (.tup xs) lo hi h=.ok (.tup<|eL xs lo hi) h:=(rfl)
@[simp]theorem Rn:vSl (.fl xs) lo hi h=.ok (.ref h.length) (h++[.lst<|eL xs lo hi]):=(rfl)
def uA(e:h[n]?=a_ (.lst xs)):vSl (.ref n) lo hi h=.ok (.ref h.length) (h++[.lst<|eL xs lo hi]):=by
 let e3:aM h n=a_ xs:=by unfold aM;rw[e]
 unfold vSl;simp only[e3]
@[simp]theorem N5{x:PV}:oP x .non h=.ok (.bl<|!rJ x) h:=(rfl)
def Ea{α β:Type}{f:α->β}{xs:B_ α}:eL (xs.map f) lo hi=(eL xs lo hi).map f:=by unfold eL;rw[U2,YJ,List.map_drop]
section
variable{tg:Mg}{g:PH->Bool}
def uB{δ0:Ev}{Q:PV->PH->Prop}(I:Nat->PH->Prop):∀(xs:Y4 0)(k:Nat)(h:PH),I k h->
  (∀i x h,k<=i->xs[i-k]?=a_ x->I i h->g h=true/\∃δ1,tg x δ0=a_ δ1/\(tst δ1 h).W λb h'=>if b=true then(elt δ1 h').W λp ka=>∃ys,ka[n]?=a_ (.lst ys)/\ys.length<16777216/\I (i+1) (ka.set n<|.lst<|ys++[p]) else I (i+1) h')->
  (∀h,I (k+xs.length) h->g h=true/\Q (.ref n) h)->(lM g tg tst elt δ0 n xs h).W Q
 |[],k,h,i0,_,fin=>by let⟨h1,h2⟩:=fin h i0;simp[lM,h1,h2]
 |x::xs,k,h,i0,step,fin=>by
  let⟨h1,δ1,h2,h3⟩:=step k x h (U1 _) (by simp) i0;let go:∀h2,I (k+1) h2->(lM g tg tst elt δ0 n xs h2).W Q:=λh2 i2=>
   uB I xs (k+1) h2 i2 (λi y h hk hy=>step i y h ⋯ (by
    have:i-k=(i-(k+1))+1:=⋯;rw[this,Wn];show hy)) (λh hi=>fin h (by
    let e:k+(x::xs).length=k+1+xs.length:=by simp;omega
    rw[e];show hi))
  unfold lM;rw[if_pos h1,h2]
  change(Rs.bind (tst δ1 h) _).W Q
  rw[Da];refine De h3 λb h' hb=>?_;cases b with
  |false=>exact go h'<|l_ hb
  |true=>
   change(Rs.bind (elt δ1 h') _).W Q
   rw[Da];refine De (show(elt δ1 h').W _ from by simpa using hb) λp ka hp=>?_
   let⟨ys,e,hz,hi⟩:=hp;let e':bT ka n=a_ ys:=by unfold bT;rw[e]
   simp[e',hz];show go _ hi
def jV{α:Type}{ys:B_ α}{emb:α->PV}(f:α->C_ PV)(e:mi δ h=.ok ⟨ys.map emb,g⟩ h1)(hg:∀h,Ext h1 h->g h=true)(hz:ys.length<=16777216)(step:∀y∈ys,∃δ1,tg (emb y) (cQ js δ)=a_ δ1/\∀h,Ext h1 h->match f y with
   |none=>tst δ1 h=.ok false h
   |some p=>tst δ1 h=.ok true h/\elt δ1 h=.ok p h):aW js mi tg tst elt δ h=.ok (.ref h1.length) (h1++[.lst (ys.filterMap f)]):=by
 let w:(aW js mi tg tst elt δ h).W λp h'=>p=.ref h1.length/\h'=h1++[.lst<|ys.filterMap f]:=by
  unfold aW;rw[e,Rs.bind_ok];refine uB (λi h'=>h'=h1++[.lst<|(ys.take i).filterMap f]) (ys.map emb) 0 _ (by simp) (λi x h' _ hx hi=>?_)<|λh' hi=>?_
  ·subst hi;let hx:(ys.map emb)[i]?=a_ x:=by simpa using hx
   rw[Vf]at hx;let⟨y,hy,rfl⟩:=Vn.mp hx;let si:=(SC.mp hy).1;let⟨δ1,ht,hs⟩:=step y<|VE hy;let hs:=hs (h1++[.lst<|(ys.take i).filterMap f])<|F_ _;let my:ys.take (i+1)=ys.take i++[y]:=by rw[WS,hy];rfl
   refine⟨hg _<|F_ _,δ1,ht,?_⟩;cases ef:f y with
   |none=>rw[ef]at hs;rw[hs];simp[my,ef]
   |some p=>rw[ef]at hs;rw[hs.1];simp[hs.2];refine⟨?_,by simp[my,ef]⟩;have:=List.length_filterMap_le f<|ys.take i;rw[VT]at this;omega
  ·subst hi;simp;show hg _<|F_ _
 let⟨p,h',e,rfl,rfl⟩:=fX w;show e
def vS(e:m δ h=.ok (.ref n) h1)(hn:h1[n]?=a_ (.lst xs)):aY m δ h=.ok ⟨xs,tS n xs⟩ h1:=by
 unfold aY;let e3:aM h1 n=a_ xs:=by unfold aM;rw[hn]
 rw[e,Rs.bind_ok];unfold ofSeq;simp only[e3]
def vT(hn:h1[n]?=a_ (.lst xs)):∀h,Ext h1 h->tS n xs h=true:=λh hx=>by
 let e3:aM h n=a_ xs:=by unfold aM;rw[hx _ _ hn]
 unfold tS;rw[e3];show PV.beqs_self xs
def Hs(e:m δ h=.ok (.tup xs) h1):aY m δ h=.ok ⟨xs,λ_=>true⟩ h1:=by unfold aY;rw[e];rfl
def dN{α:Type}{ys:B_ α}{emb:α->PV}(f:α->C_ PV)(e:m δ h=.ok (.ref n) h1)(hn:h1[n]?=a_ (.lst (ys.map emb)))(hz:ys.length<=16777216)(step:∀y∈ys,∃δ1,tg (emb y) (cQ js δ)=a_ δ1/\∀h,Ext h1 h->match f y with
   |none=>tst δ1 h=.ok false h
   |some p=>tst δ1 h=.ok true h/\elt δ1 h=.ok p h):aW js (aY m) tg tst elt δ h=.ok (.ref h1.length) (h1++[.lst (ys.filterMap f)]):=
 jV f (vS e hn) (vT hn) hz step
def FC{α:Type}{ys:B_ α}{emb:α->PV}(f:α->C_ PV)(e:m δ h=.ok (.tup (ys.map emb)) h1)(hz:ys.length<=16777216)(step:∀y∈ys,∃δ1,tg (emb y) (cQ js δ)=a_ δ1/\∀h,Ext h1 h->match f y with
   |none=>tst δ1 h=.ok false h
   |some p=>tst δ1 h=.ok true h/\elt δ1 h=.ok p h):aW js (aY m) tg tst elt δ h=.ok (.ref h1.length) (h1++[.lst (ys.filterMap f)]):=
 jV f (Hs e) (λ_ _=>rfl) hz step
def BC(lo:Int):∀n,upTo lo n=(Vi n).map (λ(i:Nat)=>PV.int<|lo+(i:Int))
 |0=>rfl
 |n+1=>by
  rw[upTo,BC (lo+1) n,Yb,Vd,VF];congr 1
  ·simp
  ·apply Wj;intro a _;simp only[Yq];congr 1;omega
def BD{j:Int}(f:Nat->C_ PV)(e:ms δ h=.ok [.int j] h1)(hj:-4611686018427387904<=j/\j<16777216)(step:∀i:Nat,(i:Int)<j->∃δ1,tg (.int i) (cQ js δ)=a_ δ1/\∀h,Ext h1 h->match f i with
   |none=>tst δ1 h=.ok false h
   |some p=>tst δ1 h=.ok true h/\elt δ1 h=.ok p h):aW js (mF ms) tg tst elt δ h=.ok (.ref h1.length) (h1++[.lst ((Vi j.toNat).filterMap f)]):=by
 refine jV (emb:=λi:Nat=>.int<|(0:Int)+i) (g:=λ_=>true) f ?_ (λ_ _=>rfl) (by simp;omega)<|λi hi=>?_
 ·unfold mF;rw[e];let jk:-(2 ^ 62)<=j/\j<2 ^ 62:=⟨hj.1,⋯⟩;simp only[Rs.bind_ok,E6,if_pos jk];rw[BC]
 ·let ak:=Xd.mp hi;rw[Int.zero_add];show step i ⋯
def filterMap_some{α β:Type}(f:α->β)(xs:B_ α):xs.filterMap (λx=>a_<|f x)=xs.map f:=by
 induction xs with
 |nil=>rfl
 |cons x xs ih=>simp[ih]
end
variable{kvs:B_ (PV×PV)}{ks:B_ (PV×t_×V)}
section
variable{σ:St}
mutual
theorem Ht(I:P1 s)(hK:X.K=C.K):∀(n:Nat){p:PV}{v:V}{u:s_},p.ky n=true->D_ p v->ZG u->HR s.heap p u
 |_,.int i,v,u,_,r,ru=>by cases r;show ru
 |_,.str i,v,u,_,r,ru=>by cases r;show ru
 |n+1,.tup ps,v,u,hk,r,ru=>by
  let⟨a,vs,rfl,q,rs⟩:=r;cases ru
  rw[<-hK]at q;let⟨its,rv,p,_⟩:=I.tuple q;show⟨a,its,rfl,p,Aw I hK n (Vs.mp hk) rs rv⟩
 |0,.tup _,_,_,hk,_,_=>by cases hk
 |n,.non,_,_,hk,_,_=>by cases n <;> cases hk
 |n,.bl _,_,_,hk,_,_=>by cases n <;> cases hk
 |n,.ref _,_,_,hk,_,_=>by cases n <;> cases hk
 |n,.ty _,_,_,hk,_,_=>by cases n <;> cases hk
 |n,.fl _,_,_,hk,_,_=>by cases n <;> cases hk
theorem Aw(I:P1 s)(hK:X.K=C.K):∀(n:Nat){ps:Y4 0}{vs:B_ V}{us:ZM 0},(∀p∈ps,p.ky n=true)->E_ ps vs->aK vs us->HRs s.heap ps us
 |_,[],[],us,_,_,ru=>by cases ru;trivial
 |n,p::ps,v::vs,us,hk,r,ru=>by
  cases ru with
  |cons h t=>exact⟨Ht I hK n (hk p UV) r.1 h,Aw I hK n (λq hq=>hk q (U4 _ hq)) r.2 t⟩
 |_,[],_::_,_,_,r,_=>r.elim
 |_,_::_,[],_,_,r,_=>r.elim
end
@[reducible]def BE:B_ (PV×t_×V)->B_ (PV×t_×s_)->Prop:=Paired λp q=>p.1=q.1/\p.2.1=q.2.1/\RelV p.2.2 q.2.2
abbrev HD(C:MC)(φ:B_ t_)(H:Hp)(X:Cx)(s:td)(a:t_)(kvs:B_ (PV×PV)):Prop:=
 ∃ks xs,q0b 0/\BE ks xs/\xs.length<=U9/\(a == We)=false/\s.heap.DictOfH (E2 X.prog X.w) a xs
abbrev bD(h:PH)(n:Nat):C_ (B_<|PV×PV):=match h[n]? with
 |some (.dD kvs)=>a_ kvs
 |some (.dK [])=>a_ []
 |_=>b_
abbrev PV.isKt:PV->Bool
 |.tup xs=>(PV.tup xs).ky 6
 |_=>false
def Ax(h:p.isKt=true):p.ky 6=true:=by cases p <;> first|exact h|cases h
def uC(h:p.isKt=true)(r:D_ p v):∃b,v=.ref b:=by cases p <;> first|(let⟨b,_,e,_⟩:=r;show⟨b,e⟩)|cases h
set_option tactic.hygienic true in
def zN(I:P1 s)(hK:X.K=C.K)(hw:X.w=C.w)(rh:J_ h)(ha:φ[n]?=a_ a)(e:bD h n=a_ kvs):HD C φ H X s a kvs/\Mut (H a)/\pW (H a):=by
 unfold bD at e;split at e
 ·rename_i kv hk;cases e
  let⟨ks,hH,r⟩:=YW hk;let hO:q0j H s.heap a (dDO C.w a ks):=I.hok a _ hH;let⟨⟨hz,hm,xs,rx,o,es,ep,h1,h2,h3,h4,h5⟩,_⟩:=hO;refine⟨⟨ks,xs,r,rx,by rw[<-VU rx];show hz,hm,o,es,ep,h1,h2,h3,?_,?_,h5⟩,by rw[hH];show WR,by rw[hH];show WR⟩
  ·rw[h4,<-hw];rfl
  ·let all:∀{l:B_ (PV×PV)}{m:B_ (PV×t_×V)}{z:B_ (PV×t_×s_)},RKd C φ H l m->BE m z->∀x∈z,(E2 X.prog X.w).is s.heap x.1 x.2.1:=by
    intro l m z q;unfold RKd at q
    induction q generalizing z with
    |nil=>intro rz x hx;cases rz;cases hx
    |cons hq t ih=>
     intro rz x hx;cases rz with
     |cons ig tz=>
      rcases U5.mp hx with e|hx
      ·subst e;refine⟨?_,?_⟩
       ·rw[<-ig.1,<-hq.1];show hq.2.1
       ·rw[<-ig.1,<-hq.1,<-ig.2.1];show Ht I hK 6 hq.2.1 hq.2.2.1 rfl
      ·show ih tz x hx
   show all r rx
 ·rename_i hk;cases e
  let⟨ks,hH,r⟩:=YW hk;have:ks=[]:=by cases r;rfl
  subst this;let⟨z,hd,vs,rel,o,es,ep,h1,h2,h3,h4,h5,h6⟩:=uR I.hok hH;have:vs=[]:=by cases rel;rfl
  subst this;refine⟨⟨[],[],.nil,.nil,Vr _,hd,o,es,ep,h1,h2,h3,?_,(λx hx=>nomatch hx),List.nodup_nil⟩,by rw[hH];show WR,by rw[hH];show WR⟩;cases he:es.toList with
  |nil=>rfl
  |cons y ys=>rw[he]at h5;cases h5
 ·cases e
def HD.val{a:t_}{xs:B_ (PV×t_×s_)}(r:q0b 0)(rx:BE ks xs)(k:PV):match Y1 k,(atKey xs k).map (·.2) with
  |some p,a_ u=>∃v,ZG u/\D_ p v
  |none,b_=>True
  |_,_=>False:=by
 unfold RKd at r
 induction r generalizing xs with
 |nil=>cases rx;trivial
 | @cons p q ps qs h t ih=>
  cases rx with
  | @cons q' x qs' xs' hx tx=>
   let⟨pk,pv⟩:=p;by_cases e:pk=k
   ·let e':x.1=k:=hx.1.symm.trans<|h.1.symm.trans e;let b:atKey (x::xs') k=a_ x.2:=by simp[atKey,W0,e']
    rw[b];unfold aF;rw[Z5 0];show⟨_,hx.2.2,h.2.2.2⟩
   ·let e':¬ x.1=k:=λz=>e<|h.1.trans<|hx.1.trans z;let b:atKey (x::xs') k=atKey xs' k:=by simp[atKey,W0,e']
    rw[b];unfold aF;rw[Zp 0];show ih tx
abbrev bJ{κ:Type}[DecidableEq κ](kvs:B_ (κ×PV))(k:κ)(p:PV):B_ (κ×PV):=if(Y1 k).isSome then kvs.map (λkv=>if kv.1=k then(kv.1,p) else kv) else kvs++[(k,p)]
def HD.replace{a:t_}{xs:B_ (PV×t_×s_)}(r:q0b 0)(rx:BE ks xs)(k:PV)(rp:D_ p v)(ru:ZG u):
  ∃iq,RKd C φ H (kvs.map λkv=>if kv.1=k then(kv.1,p) else kv) iq/\BE iq (xs.map<|putAt k u):=by
 unfold RKd at r
 induction r generalizing xs with
 |nil=>cases rx;show⟨[],.nil,.nil⟩
 | @cons pp q ps qs h t ih=>
  cases rx with
  | @cons q' x qs' xs' hx tx=>
   let⟨iq,r1,r2⟩:=ih tx;by_cases e:pp.1=k
   ·refine⟨(q.1,q.2.1,v)::iq,.cons ?_ r1,.cons ?_ r2⟩
    ·simp only[Z5 0];show⟨h.1,h.2.1,h.2.2.1,rp⟩
    ·unfold putAt;rw[if_pos<|hx.1.symm.trans<|h.1.symm.trans e];show⟨hx.1,hx.2.1,ru⟩
   ·refine⟨q::iq,.cons ?_ r1,.cons ?_ r2⟩
    ·simp only[Zp 0];show h
    ·unfold putAt;rw[if_neg λz=>e<|h.1.trans<|hx.1.trans z];show hx
def HD.put{a b:t_}{xs:B_ (PV×t_×s_)}(r:q0b 0)(rx:BE ks xs){k:PV}(hk:k.ky 6=true)(rk:D_ k (.ref b))(rp:D_ p v)(ru:ZG u):
  ∃iq,RKd C φ H (bJ kvs k p) iq/\BE iq (storedH xs k b u):=by
 let hv:=HD.val (a:=b) r rx k;unfold bJ storedH;cases e1:Y1 k with
 |some p0=>
  rw[e1]at hv;cases e2:atKey xs k with
  |none=>rw[e2]at hv;show hv.elim
  |some z=>exact HD.replace (a:=b) r rx k rp ru
 |none=>
  rw[e1]at hv;cases e2:atKey xs k with
  |some z=>rw[e2]at hv;show hv.elim
  |none=>exact⟨ks++[(k,b,v)],Paired.snoc r ⟨rfl,hk,rk,rp⟩,Paired.snoc rx ⟨rfl,rfl,ru⟩⟩
def HD.isSome{xs:B_ (PV×t_×s_)}(r:q0b 0)(rx:BE ks xs)(k:PV):(atKey xs k).isSome=(Y1 k).isSome:=by
 let hv:=HD.val (a:=0) r rx k;cases e1:Y1 k with
 |some p0=>
  rw[e1]at hv;cases e2:atKey xs k with
  |none=>rw[e2]at hv;show hv.elim
  |some z=>rfl
 |none=>
  rw[e1]at hv;cases e2:atKey xs k with
  |some z=>rw[e2]at hv;show hv.elim
  |none=>rfl
def Eb(I:P1 s)(hK:X.K=C.K){b:t_}(hk:p.isKt=true)(r:D_ p (.ref b)):(E2 X.prog X.w).is s.heap p b:=⟨Ax hk,Ht I hK 6 (Ax hk) r rfl⟩
end
def Cxt.room6{k:Nat}(c:Y2 X):(E2 X.prog X.w).room X.A.in1:=by
 have:=c.hu64
 change X.A.units+1+6<cLine
 omega
abbrev lV(x y:PV)(h:PH):C_ (C_ PV):=match y with
 |.ref n=>if x.isKt=true then(bD h n).map λkvs=>Y1 x else b_
 |_=>b_
abbrev Ec(C:MC):V->V->Hp->(B_ t_->C_ PV->Prop)->Prop:=λx y H R=>∃φ h p n a kvs,J_ h/\D_ p x/\y=.ref a/\φ[n]?=a_ a/\bD h n=a_ kvs/\p.isKt=true/\R φ (Y1 p)
set_option tactic.hygienic true in
def oS{q:PV}{x:V}{o:C_ PV}{R:B_ t_->C_ PV->Prop}(rh:J_ h)(rx:D_ p x)(ry:D_ q y)(e:lV p q h=a_ o)(r:R φ o):Ec C x y H R:=by
 unfold lV at e;cases q with
 |ref n=>
  let⟨a,rfl,ha⟩:=ry;dsimp only at e;split at e
  ·rename_i hk;cases e1:bD h n with
   |none=>rw[e1]at e;cases e
   |some kvs=>rw[e1]at e;cases e;show⟨φ,h,p,n,a,kvs,rh,rx,rfl,ha,e1,hk,r⟩
  ·cases e
 |_=>cases e
def K7{k:Nat}(c:Y2 X):Y3 (VC .In) (λx y H Q=>Ec C x y H λ_ o=>Q (.bl o.isSome) H):=λjn s σ H x y v u Q I rx ry h=>by
 let⟨φ,h,p,n,a,kvs,rh,rp,rfl,ha,ht,hk,q⟩:=h;cases ry
 let⟨b,rfl⟩:=uC hk rp;cases rx
 let⟨⟨ks,xs,r,ik,hz,hm,dd⟩,_⟩:=zN I c.K c.w rh ha ht;refine wpAny_in_heap c.room6 (Eb I c.K hk rp) hm dd ?_;rw[HD.isSome r ik p];show⟨.bl _,H,ZS 0,rfl,q⟩
def Dg{k:Nat}(c:Y2 X):Y3 (VC .NotIn) (λx y H Q=>Ec C x y H λ_ o=>Q (.bl<|!o.isSome) H):=λjn s σ H x y v u Q I rx ry h=>by
 let⟨φ,h,p,n,a,kvs,rh,rp,rfl,ha,ht,hk,q⟩:=h;cases ry
 let⟨b,rfl⟩:=uC hk rp;cases rx
 let⟨⟨ks,xs,r,ik,hz,hm,dd⟩,_⟩:=zN I c.K c.w rh ha ht;refine wpAny_notIn_heap c.room6 (Eb I c.K hk rp) hm dd ?_;rw[HD.isSome r ik p];show⟨.bl _,H,ZS 0,rfl,q⟩
abbrev fH:PV->PV->PH->Rs PV:=λx y h=>match lV x y h with
 |some o=>.ok (.bl o.isSome) h
 |none=>vIn x y h
abbrev eO:PV->PV->PH->Rs PV:=λx y h=>match lV x y h with
 |some o=>.ok (.bl<|!o.isSome) h
 |none=>rG x y h
def PD{k:Nat}:Y0 (VC .In) fH:=λc=>((R8 c).or<|K7 c).imp λx y H Q h=>by
 let⟨φ,h,p,q,rh,rx,ry,po⟩:=h;unfold fH at po;cases e:lV p q h with
 |none=>rw[e]at po;show .inl ⟨φ,h,p,q,rh,rx,ry,po⟩
 |some o=>rw[e]at po;show .inr<|oS rh rx ry e<|P_ rfl
def Hu{k:Nat}:Y0 (VC .NotIn) eO:=λc=>((JN c).or<|Dg c).imp λx y H Q h=>by
 let⟨φ,h,p,q,rh,rx,ry,po⟩:=h;unfold eO at po;cases e:lV p q h with
 |none=>rw[e]at po;show .inl ⟨φ,h,p,q,rh,rx,ry,po⟩
 |some o=>rw[e]at po;show .inr<|oS rh rx ry e<|P_ rfl
def Ro{k:Nat}(c:Y2 X):IxR X (λx y H Q=>Ec C y x H λφ o=>∃p,o=a_ p/\∀v:V,D_ p v->Q v H):=by
 intro value slice jn s σ H x y v u Q I rx ry h hs;let⟨φ,h,p,n,a,kvs,rh,rp,rfl,ha,ht,hk,p',ep,q⟩:=h;cases rx
 let⟨b,rfl⟩:=uC hk rp;cases ry
 let⟨⟨ks,xs,r,ik,hz,hm,dd⟩,_⟩:=zN I c.K c.w rh ha ht;let hT:=dd.typeIs;let hv:=HD.val (a:=a) r ik p;rw[ep]at hv;cases e2:atKey xs p with
 |none=>rw[e2]at hv;show hv.elim
 |some z=>
  rw[e2]at hv;let⟨v',ab,c6⟩:=hv;unfold subscriptTail;refine SB ?_;rw[getitemInPython_of_ne hT.not_modules];refine SB<|Xj hT PySem.F.slot_dict_getitem.lookup ?_;let fin:wpAny (h_ X) X.A (subscripted slice false (.ref a)<|.ref b) (λr s₃=>wpAny (h_ X) X.A (letTemporaryGo value (.ref a) r >>= λ_=>pure r) (Y6 Q) X.xe s₃) X.xe s:=by rw[hs];show wpAny_operating<|wpAny_getItem_heap c.room6 (Eb I c.K hk rp) dd e2<|SB<|wpAny_letTemporaryGo<|SL ⟨v',H,ZS 0,ab,q v' c6⟩
  first
   |exact SL (SB fin)
   |exact SB (SL<|SB fin)
   |exact SB fin
abbrev vAt:PV->PV->PH->Rs PV:=λx y h=>match lV y x h with
 |some (a_ p)=>.ok p h
 |some b_=>.bad
 |none=>vIx x y h
def Rp{k:Nat}{a b:z_}(ha:G_ a ma)(hb:G_ b mb)(hs:DT b:=by intro _ _;rfl):G_ (.Subscript a b pos) (k_ ma mb):=λc=>
 (Oi ((ixC c.hu C.K c.K).or<|Ro c) (ha c) (hb c) hs).imp λσ H Q h=>by
  let⟨φ,δ,h,rh,re,p⟩:=E3 h;refine⟨φ,δ,h,rh,re,p.imp ?_⟩;rintro v H1 ⟨φ,δ,h,rh,re,p⟩;refine⟨φ,δ,h,rh,re,p.imp ?_⟩;rintro u H2 ⟨φ,h,p,q,rh,rx,ry,po⟩;unfold vAt at po;cases e:lV q p h with
  |none=>rw[e]at po;show .inl<|OZ ⟨φ,h,p,q,rh,rx,ry,po⟩
  |some o=>
   rw[e]at po;cases o with
   |none=>exact po.elim
   |some r=>exact .inr<|oS rh ry rx e ⟨r,rfl,λv' rv=>P_ rv⟩
abbrev rO(x y v:PV)(h:PH):C_ PH:=match x with
 |.ref n=>match oM y,h[n]? with
  |some key,a_ (.dK kvs)=>if kvs.length<U9 then a_ (ZL<|.dK<|bJ kvs key v) else b_
  |some _,_=>b_
  |none,_=>if y.isKt=true then(match bD h n with
   |some kvs=>if kvs.length<U9 then a_ (ZL<|.dD<|bJ kvs y v) else b_
   |none=>b_) else b_
 |_=>b_
def Dh{κ:Type}[DecidableEq κ]{kvs:B_ (κ×PV)}{ks:B_ (κ×V)}(r:Zh kvs ks)(a:κ):(Y1 a).isSome=(jR ks a).isSome:=by
 have:=rH r a;cases e1:Y1 a with
 |none=>
  cases e2:jR ks a with
  |none=>rfl
  |some v=>rw[e1,e2]at this;show this.elim
 |some p=>
  cases e2:jR ks a with
  |none=>rw[e1,e2]at this;show this.elim
  |some v=>rfl
set_option tactic.hygienic true in
def qF{κ:Type}[DecidableEq κ]{kvs:B_ (κ×PV)}{ks:B_ (κ×V)}(r:Zh kvs ks)(a:κ)(rp:D_ p v):Zh (bJ kvs a p) (putK ks a v):=by
 unfold bJ putK;rw[uQ,Dh r a];split
 ·rename_i hx;clear hx;unfold RKv at r⊢
  induction r with
  |nil=>exact .nil
  | @cons p' q' ps qs h t ih=>
   refine .cons ?_ ih;by_cases e:p'.1=a
   ·let e':q'.1=a:=h.1.symm.trans e;simp only[Z5 0,if_pos e'];show⟨h.1,rp⟩
   ·let e':¬ q'.1=a:=λz=>e<|h.1.trans z;simp only[Zp 0,if_neg e'];show h
 ·show Paired.snoc r ⟨rfl,rp⟩
variable{px py:PV}{xu yu:s_}
set_option tactic.hygienic true in
def zO{k:Nat}{h':PH}{pv:PV}{x:V}(c:Y2 X)(rh:J_ h)(rx:D_ px x)(ry:D_ py y)(rv:D_ pv v)(e:rO px py pv h=a_ h'){σ:St}{Q:j_ Unit}(I:P1 s)(l8:ZF xu)(f7:RelV y yu)(i9:ZG vu)(q:∀s' H',i_ H' s'->Zx H'->RH C φ H' h'->Q () s'):wpAny (h_ X) X.A (setItem xu yu vu) Q X.xe s:=by
 unfold rO at e;cases px with
 |ref n=>
  let⟨a,rfl,ha⟩:=rx;cases l8
  dsimp only at e;split at e
  ·rename_i key kvs bg hk;split at e
   ·rename_i hl;cases e
    let⟨ks,hH,rk⟩:=YW hk;let ey:y=kV key:=Ap ry bg;subst ey;let d0:ks.length<U9:=by rw[<-VU rk];show hl
    refine F2 c.hu I (.k hH d0) f7 i9 λs' I'=>q s' _ I' (Kp.dK hH) ?_;refine rh.write ha (by rw[hH];show WR) ⟨_,aL,?_⟩;show(qF rk key rv).mono U7 (Kp.dK hH)
   ·cases e
  ·cases e
  ·split at e
   ·rename_i hk;split at e
    ·rename_i kvs ht;split at e
     ·rename_i hl;cases e
      let⟨b,rfl⟩:=uC hk ry;cases f7
      let⟨⟨ks,xs,r,ik,hz,hm,dd⟩,mu,nt⟩:=zN I c.K c.w rh ha ht;refine wpAny_setItem_heap (hsz:=hz) c.room6 (Eb I c.K hk ry) dd λh' fw hs=>?_;let⟨iq,r1,r2⟩:=HD.put (a:=a) r ik (Ax hk) ry rv i9;let⟨o,es,ep,hq,h2,h3,h4,_,h5⟩:=fw;let cj:iq.length<=U9:=by
       let e1:=VU r1;let e2:(bJ kvs py pv).length<=kvs.length+1:=by
        unfold bJ;split
        ·rw[U2];omega
        ·simp
       omega
      refine q _ (S1 a<|dDO C.w a iq) (pT I mu hs ⟨o,hq⟩ ⟨⟨cj,hm,_,r2,o,es,ep,hq,h2,h3,?_,h5⟩,⟨o,hq⟩,?_⟩) (Kp.upd nt) ?_
      ·rw[h4,<-c.w];rfl
      ·rintro g1 g2 ⟨z1,z2,ws,z3,o',es',ie,z4,z5⟩ keep;show⟨z1,z2,ws,z3,o',es',ie,keep _ z4,z5⟩
      ·show rh.write ha nt ⟨iq,aL,RKd.mono U7 (Kp.upd nt) r1⟩
     ·cases e
    ·cases e
   ·cases e
 |_=>cases e
abbrev MtG(C:MC)(k:Nat)(X:Cx)(T:String)(ty:PV->PH->Bool)(id:String)(g:PV->Y4 0->PH->Rs PV):Prop:=Y2 X->MtR X id (rM C g)/\
 ∀jn s σ H φ h p x v,P1 s->J_ h->D_ p x->ZF v->ty p h=true->s.TypeIs v T/\∀a,v=.ref a->∃ob,Y_ 0=a_ ob/\ob.dict=b_
section
variable{k:Nat}
def N6{o:z_}{id:String}{g:PV->Y4 0->PH->Rs PV}(pa:PlainAttrs T)(slot:Slot T name id)(ir:typeOf (.builtin id)=pure (.type "method_descriptor"))(hm:MtG C k X T ty id g)(ho:G_ o mo)(ha:SA C k X (e::es) ms)(au:Xb o name X.env (ZP 0)=ZP 0:=by rfl)(fc:((backTo ae (Vg (e::es) X.env)).all (λx=>!x.1)&&(backToKw ae (keywordEach [] X.env)).all (λx=>x.1.isSome)
   && decide ((e::es).length+([]:B_ Keyword).length+(if([]:B_ Keyword).isEmpty then 0 else 1)<30))=true:=by rfl)(ar:(apos.endLine == ae.line)=true:=by rfl)(hs:Vg (e::es) X.env=(false,U_ 0)::W_ 0:=by rfl)(cw:(backTo ae (W_ 0)).any (·.1)=false:=by rfl):
  G_ (.Call (.Attribute o name apos) (e::es) [] ae) (mMt ty g mo ms):=λc jn s σ H Q I ⟨φ,δ,h,rh,re,p⟩=>by
 refine wpAny_Call_method_late au fc ar rfl<|thn (ho c jn s σ H _ I ⟨φ,δ,h,rh,re,post.bind p⟩) ?_;rintro v s1 ⟨x,H1,I1,r1,φ1,px,h1,p1,t1,aa,ab,q1⟩;let⟨ht,q1⟩:=q1.ite;let⟨g1,g2⟩:=(hm c).2 jn s1 σ H1 φ1 h1 px x v I1 aa ab r1 ht;refine⟨T,id,pa,slot,ir,g1,g2,?_⟩;let hA:=ha c ae jn s1 σ H1 _ I1 ⟨φ1,δ,h1,aa,Q_ 0,postA.bind q1⟩;rw[hs]at hA⊢;refine Xl (show(false || (backTo ae<|W_ 0).any (·.1))=false by rw[cw];rfl) (Calls.evalArgs_plain<|thn hA ?_);rintro us s2 ⟨vs,H2,I2,r2,φ2,ps,h2,p2,t2,ah,c6,q2⟩;show(hm c).1 jn s2 σ H2 x vs v us Q I2 r1 r2 ⟨φ2,h2,px,ps,ah,ab.mono p2 t2,c6,q2⟩
def Ln{o:z_}{id:String}{g:PV->Y4 0->PH->Rs PV}(pa:PlainAttrs T)(slot:Slot T name id)(ir:typeOf (.builtin id)=pure (.type "method_descriptor"))(hm:MtG C k X T ty id g)(ho:G_ o mo)(au:Xb o name X.env (ZP 0)=ZP 0:=by rfl)(ar:(apos.endLine == ae.line)=true:=by rfl):G_ (.Call (.Attribute o name apos) [] [] ae) (nW ty g mo):=λc jn s σ H Q I ⟨φ,δ,h,rh,re,p⟩=>by refine wpAny_Call_method0_late au ar<|thn (ho c jn s σ H _ I ⟨φ,δ,h,rh,re,post.bind p⟩) ?_;rintro v s1 ⟨x,H1,I1,r1,φ1,px,h1,p1,t1,aa,ab,q1⟩;let⟨ht,q1⟩:=q1.ite;let⟨g1,g2⟩:=(hm c).2 jn s1 σ H1 φ1 h1 px x v I1 aa ab r1 ht;show⟨T,id,pa,slot,ir,g1,g2,Xl rfl<|PySem.evalArgs_none<|(hm c).1 jn s1 σ H1 x [] v [] Q I1 r1 .nil ⟨φ1,h1,px,[],aa,ab,trivial,q1⟩⟩
abbrev bP(x:PV)(h:PH):Bool:=match x with
 |.ref n=>match h[n]? with
  |some (.dK _)=>true
  |some (.dD _)=>true
  |_=>false
 |_=>false
set_option tactic.hygienic true in
def qG(c:Y2 X):∀jn s σ H φ h p x v,P1 s->J_ h->D_ p x->ZF v->bP p h=true->s.TypeIs v "dict" /\ ∀a,v=.ref a->∃ob,Y_ 0=a_ ob/\ob.dict=b_:=by
 intro jn s σ H φ h p x v I rh rv r e;unfold bP at e;cases p with
 |ref n=>
  let⟨a,rfl,ha⟩:=rv;cases r
  dsimp only at e;split at e
  ·rename_i kvs hk;let⟨ks,hH,rk⟩:=YW hk;let⟨z,hd,vs,rel,dd⟩:=uR I.hok hH;refine⟨dd.typeIs,λb eb=>?_⟩;cases eb
   let⟨ob,_,_,h1,h2,_⟩:=dd;show⟨ob,h1,h2.2.1⟩
  ·rename_i kvs hk;let ht:bD h n=a_ kvs:=by unfold bD;rw[hk]
   let⟨⟨ks,xs,r,ik,hz,hm,dd⟩,_⟩:=zN I c.K c.w rh ha ht;refine⟨dd.typeIs,λb eb=>?_⟩;cases eb
   let⟨ob,_,_,h1,h2,_⟩:=dd;show⟨ob,h1,h2.2.1⟩
  ·cases e
 |_=>cases e
abbrev mH:Y4 0->C_ (B_<|Key×PV)
 |[]=>a_ []
 |.tup [y,v]::r=>match oM y,mH r with
  |some key,a_ rs=>a_ ((key,v)::rs)
  |_,_=>b_
 |_::_=>b_
abbrev rP(kvs more:B_ (Key×PV)):B_ (Key×PV):=more.foldl (λacc kv=>bJ acc kv.1 kv.2) kvs
def Di:∀{more:B_ (Key×PV)}{ms:B_ (Key×V)}{kvs:B_ (Key×PV)}{ks:B_ (Key×V)},Zh more ms->Zh kvs ks->Zh (rP kvs more) (qY ks ms):=by
 intro more ms kvs ks r;unfold RKv at r
 induction r generalizing kvs ks with
 |nil=>intro q;show q
 | @cons p q ps qs h t ih=>intro r0;let e:=qF r0 p.1 h.2;rw[show putK ks p.1 q.2=putK ks q.1 q.2 by rw[h.1]]at e;show ih e
def Inv.tupleD{σ:St}{xs:B_ V}(I:P1 s)(h:SqT X.K H a xs):∃its:ZM 0,aK xs its/\tL s.heap a its.toArray/\xs.length<=U9:=by
 rcases h with h|⟨o,its,n,hk,hc,hs,hz,r,hd⟩
 ·let⟨z,its,r,p⟩:=h.ok I.hok;show⟨its,r,p,z⟩
 ·refine⟨its.toList,r,⟨o,I.kIn a o hk,hc,⟨n,l_ hs⟩,hd⟩,?_⟩;let e:=r.length;rw[e];simpa using hz
def zP{jn:g_ 0}{σ:St}{H:Hp}{s:td}{φ:B_ t_}(I:P1 s)(hK:X.K=C.K):∀{ps:Y4 0}{rs:B_ (Key×PV)}{vs:B_ V}{us:ZM 0},mH ps=a_ rs->E_ ps vs->aK vs us->
  ∃qs:B_ (t_×Key×s_×s_),us=qs.map (λq=>Vt q.1)/\(∀q∈qs,(bA X.prog X.w).is q.2.1 q.2.2.1=true)/\(∀q∈qs,q0f q.1 #[q.2.2.1,q.2.2.2])/\∃ws:B_ (Key×V),Zh rs ws/\KV ws (qs.map λq=>(q.2.1,q.2.2.2))
 |[],rs,[],us,e,_,ru=>by
  cases ru
  cases e
  show⟨[],rfl,(λ_ h=>nomatch h),(λ_ h=>nomatch h),[],.nil,.nil⟩
 |p::ps,rs,v::vs,us,e,r,ru=>by
  cases ru with
  | @cons _ u _ us' h t=>
   cases p with
   |tup xs=>
    match xs,e with
    |[y,z],e=>
     unfold mH at e;cases e1:oM y with
     |none=>rw[e1]at e;cases e
     |some key=>
      cases e2:mH ps with
      |none=>rw[e1,e2]at e;cases e
      |some d9=>
       rw[e1,e2]at e;cases e
       let⟨qs,rfl,a1,a2,ws,a3,a4⟩:=zP I hK e2 r.2 t;let⟨b,bs,rfl,sq,rb⟩:=r.1;cases h
       let⟨yv,zv,rfl,ry,rz⟩:=rb.two;rw[<-hK]at sq;let⟨its,ia,pt,_⟩:=I.tuple sq;let⟨yu,zu,rfl,f7,oa⟩:=vals2 ia;let ey:=Ap ry e1;subst ey;refine⟨(b,key,yu,zu)::qs,rfl,?_,?_,(key,zv)::ws,.cons ⟨rfl,rz⟩ a3,.cons ⟨rfl,oa⟩ a4⟩
       ·intro q hq;rcases U5.mp hq with rfl|hq
        ·show nY f7
        ·show a1 q hq
       ·intro q hq;rcases U5.mp hq with rfl|hq
        ·show pt
        ·show a2 q hq
    |[],e=>cases e
    |[_],e=>cases e
    |_::_::_::_,e=>cases e
   |_=>cases e
 |[],_,_::_,_,_,r,_=>r.elim
 |_::_,_,[],_,_,r,_=>r.elim
abbrev qH:Y4 0->PH->Rs PV:=λxs h=>match xs with
 |[.tup ps]=>match mH ps with
  |some rs=>.ok (.ref h.length) (h++[.dK<|rP [] rs])
  |none=>.bad
 |[.ref n]=>match h[n]? with
  |some (.dK kvs)=>.ok (.ref h.length) (h++[.dK kvs])
  |_=>.bad
 |_=>.bad
set_option tactic.hygienic true in
def N7:mD C k X (.type "dict") qH:=λc jn s σ H xs us Q I r h=>by
 let⟨φ,h,ps,rh,rv,po⟩:=h;unfold qH at po;split at po
 ·rename_i ps;split at po
  ·rename_i rs e;let⟨v,rfl,rx⟩:=rv.one;let⟨a,vs,rfl,sa,ra⟩:=rx;let⟨u,rfl,ru⟩:=vals1 r;cases ru
   let hl:=ra.length;let gv:=sa;rw[<-c.K]at gv;let⟨its,ia,⟨o,o1,o2,⟨n,o3⟩,o4⟩,hz⟩:=Inv.tupleD I gv;let⟨qs,rfl,a1,a2,ws,a3,a4⟩:=zP I c.K e ra ia;let hq:qs.length<=U9:=by have:=ia.length;rw[U2]at this;omega
   refine tQ (I.ok.hd c.calm) o1 o2 o3 o4 a1 a2 hq λh' tk dd kk=>?_;let r1:=Di a3 (.nil:Zh [] []);let wz:(qY [] ws).length<=U9:=by let h1:=nZ ws [];let h2:=KV.length a4;rw[U2]at h2;simp at h1;omega
   let fr:H (e_ s)=b_:=I.fresh;refine⟨.ref<|e_ s,_,I.laid (a:=(e_ s)) (o:=.dK<|qY [] ws) (t':=tk) kk (U1 _)<|uS wz (beq_eq_false_iff_ne.mpr<|Wu<|Vc I.big) (a4.merge .nil) dd,rfl,?_⟩;show po (φ++[(e_ s)]) (.ref _) _ (Vv _ _) (Kp.new fr) (rh.new fr ⟨_,aL,r1.mono (Vv _ _)<|Kp.new fr⟩) ⟨_,rfl,by rw[<-rh.len];simp⟩
  ·show po.elim
 ·rename_i n;split at po
  ·rename_i kvs hk;let⟨v,rfl,rx⟩:=rv.one;let⟨a,rfl,ha⟩:=rx;let⟨u,rfl,ru⟩:=vals1 r;cases ru
   let⟨ks,hH,rk⟩:=YW hk;refine GD I (.inl hH) λp s' hp I'=>⟨.ref p,_,I',rfl,?_⟩;show po (φ++[p]) (.ref _) _ (Vv _ _) (Kp.new hp) (rh.new hp ⟨_,aL,rk.mono (Vv _ _)<|Kp.new hp⟩) ⟨_,rfl,by rw[<-rh.len];simp⟩
  ·show po.elim
 ·show po.elim
end
abbrev FD(x:Zq 0):B_ (Zq 0)->B_ (Zq 0)
 |[]=>[x]
 |y::ys=>if bI y x=true then y::FD x ys else x::y::ys
abbrev rQ:B_ (Zq 0)->B_ (Zq 0)
 |[]=>[]
 |x::xs=>FD x (rQ xs)
def rR(x:Zq 0):∀ys,(FD x ys).Perm (x::ys)
 |[]=>.refl _
 |y::ys=>by
  unfold FD;split
  ·show((rR x ys).cons y).trans (.swap x y ys)
  ·show .refl _
def fY:∀xs,(rQ xs).Perm xs
 |[]=>.refl _
 |x::xs=>(rR x _).trans ((fY xs).cons x)
set_option tactic.hygienic true in
def sX{S:B_ Bool}{x:Zq 0}(hx:shape x=S):∀{ys:B_ (Zq 0)},(∀y∈ys,shape y=S)->ys.Pairwise (λa b=>bI b a=false)->(FD x ys).Pairwise (λa b=>bI b a=false)
 |[],_,_=>X6 _ _
 |y::ys,hs,hp=>by
  let hy:=hs y UV;let il:=λz hz=>hs z<|U4 _ hz;rw[Vp]at hp;unfold FD;split
  ·rename_i h;rw[Vp];refine⟨λz hz=>?_,sX hx il hp.2⟩;rcases U5.mp ((rR x ys).mem_iff.mp hz) with rfl|hz
   ·show tZ h
   ·show hp.1 z hz
  ·rename_i h;let h':bI y x=false:=by simpa using h
   rw[Vp];refine⟨λz hz=>?_,Vp.mpr hp⟩;rcases U5.mp hz with rfl|hz
   ·show h'
   ·show qA (hx.trans hy.symm) (hy.trans (il z hz).symm) h' (hp.1 z hz)
def oB{S:B_ Bool}:∀{xs:B_ (Zq 0)},(∀y∈xs,shape y=S)->(rQ xs).Pairwise (λa b=>bI b a=false)
 |[],_=>.nil
 |x::xs,hs=>sX (hs x UV) (λy hy=>hs y (U4 _<|(fY xs).mem_iff.mp hy)) (oB λy hy=>hs y (U4 _ hy))
variable{S:B_ Bool}
def Dj{xs ys:B_ (Zq 0)}(hs:∀y∈xs,shape y=S)(hp:ys.Perm xs)(h:ys.Pairwise (λa b=>bI b a=false)):ys=rQ xs:=by refine XX (le:=λa b=>bI b a=false) (λa b ha hb h1 h2=>?_) h (oB hs)<|hp.trans (fY xs).symm;show pZ ((hs a<|hp.mem_iff.mp ha).trans (hs b<|(fY xs).mem_iff.mp hb).symm) h2 h1
abbrev kP:Key->PV
 |.inl i=>.int i
 |.inr x=>.str x
def K8{x:PV}{a:Key}(h:oM x=a_ a):x=kP a:=by cases x <;> first|(cases h;rfl)|cases h
@[simp]theorem Qw(a:Key):oM (kP a)=a_ a:=by cases a <;> rfl
abbrev sY:Y4 0->C_ (Zq 0)
 |[]=>a_ []
 |x::xs=>match oM x,sY xs with
  |some a,a_ r=>a_ (a::r)
  |_,_=>b_
def BF:∀{xs:Y4 0}{ks:Zq 0},sY xs=a_ ks->xs=ks.map kP
 |[],_,h=>by cases h;rfl
 |x::xs,ks,h=>by
  unfold sY at h;cases e1:oM x with
  |none=>rw[e1]at h;cases h
  |some a=>
   cases e2:sY xs with
   |none=>rw[e1,e2]at h;cases h
   |some r=>
    rw[e1,e2]at h;cases h
    rw[K8 e1,BF e2];rfl
@[simp]theorem Hv:∀ks:Zq 0,sY (ks.map kP)=a_ ks
 |[]=>rfl
 |a::ks=>by simp[sY,Hv ks]
abbrev tP(ks:Zq 0):PV:=.tup<|ks.map kP
abbrev vU:Y4 0->C_ (B_<|Zq 0)
 |[]=>a_ []
 |.tup xs::r=>match sY xs,vU r with
  |some a,a_ b=>a_ (a::b)
  |_,_=>b_
 |_::_=>b_
def BG:∀{xs:Y4 0}{ks:B_ (Zq 0)},vU xs=a_ ks->xs=ks.map tP
 |[],_,h=>by cases h;rfl
 |x::xs,ks,h=>by
  cases x with
  |tup ys=>
   unfold vU at h;cases e1:sY ys with
   |none=>rw[e1]at h;cases h
   |some a=>
    cases e2:vU xs with
    |none=>rw[e1,e2]at h;cases h
    |some r=>
     rw[e1,e2]at h;cases h
     rw[BF e1,BG e2];rfl
  |_=>cases h
@[simp]theorem BH:∀ks:B_ (Zq 0),vU (ks.map tP)=a_ ks
 |[]=>rfl
 |a::ks=>by simp[vU,tP,BH ks]
abbrev tT(af:B_ (Zq 0)):Bool:=match af with
 |[]=>true
 |a::r=>(!a.isEmpty)&&r.all λx=>shape x == shape a
def Dk(h:tT af=true):∃b sh,∀ks∈af,shape ks=b::sh:=by
 cases af with
 |nil=>exact⟨true,[],λ_ h=>nomatch h⟩
 |cons a r=>
  unfold tT at h;rw[VA]at h;cases a with
  |nil=>cases h.1
  |cons z zs=>
   refine⟨fU z,shape zs,λks hk=>?_⟩;rcases U5.mp hk with rfl|hk
   ·rfl
   ·have:=Vs.mp h.2 ks hk;show eq_of_beq this
section
variable{k:Nat}
def PF{a:Key}:D_ (kP a) v↔Rep C.K H (kD a) v:=by cases a <;> exact Iff.rfl
def Ay{φ:B_ t_}{H:Hp}:∀{ks:Zq 0}{vs:B_ V},E_ (ks.map kP) vs↔dJ C.K H (ks.map kD) vs
 |[],[]=>Iff.rfl
 |[],_::_=>Iff.rfl
 |_::_,[]=>Iff.rfl
 |_::_,_::_=>and_congr PF Ay
def PJ{ks:Zq 0}:D_ (tP ks) v↔Rep C.K H (tD ks) v:=by
 constructor
 ·rintro⟨a,vs,e,s,r⟩;show⟨a,vs,e,s,Ay.mp r⟩
 ·rintro⟨a,vs,e,s,r⟩;show⟨a,vs,e,s,Ay.mpr r⟩
def Ed{φ:B_ t_}{H:Hp}:∀{af:B_ (Zq 0)}{vs:B_ V},E_ (af.map tP) vs↔dJ C.K H (af.map tD) vs
 |[],[]=>Iff.rfl
 |[],_::_=>Iff.rfl
 |_::_,[]=>Iff.rfl
 |_::_,_::_=>and_congr PJ Ed
def RH.same(r:J_ h)(s:CF H H1):RH C φ H1 h:=⟨r.len,r.nd,λn b ob h1 h2=>by let q:=r.at' n b ob h1 h2;let⟨u,hu⟩:=q.some;show q.stay U7 (Kp.same s)<|(s _ _ hu).trans hu.symm⟩
set_option tactic.hygienic true in
def K9{a b:Str}:bI [.inr a] [.inr b]=decide (a.cps.toList<b.cps.toList):=by
 unfold bI;split
 ·rename_i e;cases e
  simp[bI,List.lt_irrefl]
 ·rfl
def sZ:∀{r:Zf 0}{p:Str},risingS p r=true->((p::r).map λx=>[(Wa x:Key)]).Pairwise (λa b=>bI b a=false)
 |[],p,_=>X6 _ _
 |x::r,p,h=>by
  let h0:bI [.inr x] [.inr p]=false/\risingS x r=true:=by unfold risingS at h;rw[VA,ltCps_eq]at h;rw[K9];show⟨l_ h.1,h.2⟩
  let ih:=sZ h0.2;rw[Vd,Vp];refine⟨λz hz=>?_,ih⟩;let⟨y,hy,rfl⟩:=Vl.mp hz;rcases U5.mp hy with rfl|hy
  ·show h0.1
  ·rw[Vd,Vp]at ih;show qA (a:=[.inr p]) (b:=[.inr x]) (c:=[.inr y]) rfl rfl h0.1<|ih.1 _<|Vl.mpr ⟨y,hy,rfl⟩
def Az{φ:B_ t_}{H:Hp}:∀{ss:Zf 0}{vs:B_ V},E_ (ss.map PV.str) vs↔vs=ss.map V.str
 |[],[]=>by simp[RVs]
 |[],_::_=>by simp[RVs]
 |_::_,[]=>by simp[RVs]
 |x::ss,v::vs=>by simp only[Vd,RVs,List.cons.injEq];show and_congr Iff.rfl Az
end
open PySem
@[simp]theorem PK{x:PV}:lV x (.tup xs) h=b_:=(rfl)
@[simp]theorem NW{x:PV}{z:Str}:lV x (.str z) h=b_:=(rfl)
@[simp]theorem PL{i:Int}{y:PV}:lV (.int i) y h=b_:=by cases y <;> rfl
@[simp]theorem PM{i:Str}{y:PV}:lV (.str i) y h=b_:=by cases y <;> rfl
@[simp]theorem Qx{z:Str}{y:PV}:vAt (.str z) y h=vIx (.str z) y h:=by unfold vAt;simp
@[simp]theorem Qy{x:PV}{i:Int}:vAt x (.int i) h=vIx x (.int i) h:=by unfold vAt;simp
@[simp]theorem Qz{x:PV}{i:Str}:vAt x (.str i) h=vIx x (.str i) h:=by unfold vAt;simp
@[simp]theorem PN{x:PV}:fH x (.tup ys) h=vIn x (.tup ys) h:=by unfold fH;simp
@[simp]theorem Lo{x:PV}:eO x (.tup ys) h=rG x (.tup ys) h:=by unfold eO;simp
def mI{kvs:B_ (Key×PV)}(e:h[n]?=a_ (.dK kvs)):bP (.ref n) h=true:=by unfold bP;simp[e]
variable{z:PV}
def Ee{kvs:B_ (Key×PV)}(e:h[n]?=a_ (.dK kvs))(c:kvs.length<16777216):rO (.ref n) (.str x) z h=a_ (ZL<|.dK<|bJ kvs (.inr x) z):=by simp[rO,e,oM,c]
variable{rs:B_ (Key×PV)}
def BI{ps:Y4 0}(e:mH ps=a_ rs):qH [.tup ps] h=.ok (.ref h.length) (h++[.dK<|rP [] rs]):=by simp[qH,e]
abbrev kL(h:PH)(d:Nat):C_ (Y4 0):=match h[d]? with
 |some (.dK kvs)=>a_ (kvs.map (·.2))
 |some (.dD kvs)=>a_ (kvs.map (·.2))
 |_=>b_
def vV{K:Type}[DecidableEq K]{knd:KeyKind prog w K}{es:B_ Xs}{kvs:B_ (K×s_)}(h:Pairs knd es kvs):es.map (·.val)=kvs.map (·.2):=by
 apply Wo;intro i;rw[Vf,Vf];let hl:=h.length;by_cases hi:i<es.length
 ·let e1:es[i]?=a_ es[i]:=by simp[hi]
  let ak:i<kvs.length:=⋯;let e2:kvs[i]?=a_ (kvs[i].1,kvs[i].2):=by simp[ak]
  rw[e1,e2];show congrArg a_ (h.get? e1 e2).2
 ·rw[Xy ⋯,Xy ⋯];rfl
set_option tactic.hygienic true in
def BJ{k:Nat}{σ:St}{d:Nat}{b:t_}(c:Y2 X)(I:P1 s)(rh:J_ h)(hb:φ[d]?=a_ b)(e:kL h d=a_ xs):
  s.TypeIs (.ref b) "dict" /\ (b == We)=false/\xs.length<=U9/\∃oc es ep,N_ 0=a_ oc/\oc.data=.dict es ep/\∃ws,E_ xs ws/\aK ws (es.toList.map (·.val)):=by
 unfold kL at e;split at e
 ·rename_i kvs hk;cases e
  let⟨ks,hH,rk⟩:=rh.at' d b _ hb hk;let⟨z,hd,vs,rel,dd⟩:=uR I.hok hH;refine⟨dd.typeIs,hd,by rw[U2,VU rk];show z,?_⟩;let⟨oc,es,ep,g1,g2,g3,g4,g5,g6⟩:=dd;refine⟨oc,es,ep,g1,g3,ks.map (·.2),?_,?_⟩
  ·unfold RKv at rk;clear hk hH rel z
   induction rk with
   |nil=>trivial
   |cons q t ih=>exact⟨q.2,ih⟩
  ·rw[vV g5];clear hk hH g4 g5 g6 z;unfold KV at rel;clear rk
   induction rel with
   |nil=>exact .nil
   |cons q t ih=>exact .cons q.2 ih
 ·rename_i kvs hk;cases e
  let ht:bD h d=a_ kvs:=by unfold bD;rw[hk]
  let⟨⟨ks,ys,r,ik,hz,hm,dd⟩,_⟩:=zN I c.K c.w rh hb ht;let hlen:kvs.length=ys.length:=(VU r).trans<|VU ik;refine⟨dd.typeIs,hm,by rw[U2,hlen];show hz,?_⟩;let⟨oc,es,ep,g1,g2,g3,g4,g5,g6⟩:=dd;refine⟨oc,es,ep,g1,g3,ks.map (·.2.2),?_,?_⟩
  ·unfold RKd at r;clear hk ht ik hlen
   induction r with
   |nil=>trivial
   |cons q t ih=>exact⟨q.2.2.2,ih⟩
  ·rw[g4,VF];clear hk ht r hlen hz g4 g5 g6
   induction ik with
   |nil=>exact .nil
   |cons q t ih=>exact .cons q.2.2 ih
 ·cases e
abbrev zQ:PV->Y4 0->PH->Rs PV:=λx ps h=>match x,ps with
 |.ref n,[]=>match kL h n with
  |some _=>.ok (.ref h.length) (h++[.vw 1 n])
  |none=>.bad
 |_,_=>.bad
set_option tactic.hygienic true in
def m_values{k:Nat}:MtG C k X "dict" bP "dict.values" zQ:=λc=>⟨λjn s σ H x xs v us Q I rx rs h=>by
 let⟨φ,h,p,ps,rh,rp,jq,po⟩:=h;unfold zQ at po;split at po
 ·rename_i n;split at po
  ·rename_i ys ey;let⟨a,rfl,ha⟩:=rp;have:xs=[]:=by cases xs <;> first|rfl|exact jq.elim
   subst this;cases rx
   cases rs
   let⟨hT,hm,_⟩:=BJ c I rh ha ey;refine call_meetsIn PySem.F.slot_dict_values hT PySem.F.entry_dict_values (PySem.F.args_dict_values_1 _) (Aj a hm) ⟨hT,?_⟩;let fr:H (e_ s)=b_:=I.fresh;refine⟨.ref<|e_ s,_,I.laid (t':=s.toks) (o:=Hc 1 (e_ s) a) (λb u e=>Zn e) (U1 _) ?_,rfl,?_⟩
   ·show⟨⟨_,Za 0,rfl,rfl⟩,⟨_,Za 0⟩,λh1 h2 ⟨o,e,p⟩ k=>⟨o,k o e,p⟩⟩
   ·show po (φ++[(e_ s)]) (.ref _) _ (Vv _ _) (Kp.new fr) (rh.new fr ⟨a,dU (Vv _ _) ha,aL⟩) ⟨_,rfl,by rw[<-rh.len];simp⟩
  ·show po.elim
 ·show po.elim,qG c⟩
abbrev vW(h:PH)(n:Nat):C_ (Y4 0):=match h[n]? with
 |some (.vw 1 d)=>kL h d
 |_=>b_
variable{acc:YV 0}
def Hw{es:Array Xs}(h:ItemsOf (λi v=>∃e,es[i]?=a_ e/\v=e.val) acc es.size):acc.toList=es.toList.map (·.val):=by
 apply Wo;intro i;rw[Vf,V0,V0];by_cases hi:i<acc.size
 ·let e1:acc[i]?=a_ acc[i]:=by simp[hi]
  let⟨e,h1,h2⟩:=h.2 i _ e1;rw[e1,h1,h2];rfl
 ·let ak:¬ i<es.size:=by rw[<-h.1];show hi
  rw[VM ⋯,VM ⋯];rfl
def Ef(e:h[n]?=a_ (.dK [])):bD h n=a_ []:=by simp[bD,e]
def nL(e:h[n]?=a_ (.dD kvs)):bD h n=a_ kvs:=by simp[bD,e]
open PySem.SeqAt PySem.W
abbrev Rq(l:B_ Nat):Z8 0:=l.map (λ(c:Nat)=>(c:Int)+2)++[1]
mutual
def enc:PV->Z8 0
 |.int i=>[i]
 |.str x=>Rq x.cps.toList
 |.tup xs=>PP xs
 |_=>[]
def PP:Y4 0->Z8 0
 |[]=>[0]
 |x::xs=>1::(enc x++PP xs)
end
section
abbrev fk:PV->Nat
 |.tup (.int _::_)=>0
 |.tup (.str _::_)=>1
 |.tup (.tup _::_)=>2
 |_=>3
abbrev fkT(m:Nat):s_:=.type (if m=0 then "int" else if m=1 then "str" else "tuple")
def vX{m:Nat}(hm:m<3):∀{ps:Y4 0}{vs:ZM 0},HRs s.heap ps vs->(∀p∈ps,fk p=m)->∃fs:ZM 0,fs.length=vs.length/\KatTups s.heap vs fs/\∀f∈fs,Looks (Z4 0) s.heap (typeOf f) (fkT m)
 |[],[],_,_=>⟨[],rfl,KatTups.nil,λ_ hf=>nomatch hf⟩
 |p::ps,v::vs,r,hs=>by
  let⟨fs,hl,ht,hT⟩:=vX hm r.2 λx hx=>hs x<|U4 _ hx;let h0:=hs p UV;let r1:=r.1;cases p with
  |tup xs=>
   let⟨a,its,rfl,⟨o,ho,hc,n,hd⟩,rx⟩:=r1;cases xs with
   |nil=>simp[fk]at h0;omega
   |cons x xs=>
    cases its with
    |nil=>exact rx.elim
    |cons f its=>
     refine⟨f::fs,by simp[hl],KatTups.cons ho hc hd (by simp) ht,λg hg=>?_⟩;rcases U5.mp hg with rfl|hg
     ·let rf:=rx.1;cases x with
      |int i=>let⟨t,rfl⟩:=rf;have:m=0:=h0.symm;subst this;show Looks.now
      |str i=>let⟨t,rfl⟩:=rf;have:m=1:=h0.symm;subst this;show Looks.now
      |tup i=>let⟨a',its',rfl,⟨o',de,kz,n',d8⟩,_⟩:=rf;have:m=2:=h0.symm;subst this;have:Looks (Z4 0) s.heap (typeOf<|.ref a') o'.cls:=(Looks.ld de).andThen .now;rw[kz]at this;show this
      |_=>exact rf.elim
     ·show hT g hg
  |_=>simp[fk]at h0;omega
 |[],_::_,r,_=>r.elim
 |_::_,[],r,_=>r.elim
def K'{m:Nat}(hm:m<3){ps:Y4 0}{vs:ZM 0}{Q:j_ SortKind}(r:HRs s.heap ps vs)(hs:∀p∈ps,fk p=m)(h0:0<vs.length)(h:Q (tuples'<|decide (m≠2)) s):r_ (keyKind' vs.toArray) Q E s:=by
 let⟨fs,hl,ht,hT⟩:=vX (prog:=prog) (w:=w) hm r hs;refine kat_kind (T:=fkT m) ht ⋯ hT ?_ ?_
 ·match m,hm with
  |0,_=>rfl
  |1,_=>rfl
  |2,_=>rfl
 ·have:((fkT m) != WO "tuple")=decide (m≠2):=by
   match m,hm with
   |0,_=>rfl
   |1,_=>rfl
   |2,_=>rfl
  rw[this];show h
end
def HRs.kept{h:w_}(k:∀b o,h.get? b=a_ o->Ze 0=a_ o){ps:Y4 0}{vs:ZM 0}(r:HRs h ps vs):HRs h' ps vs:=HRs.keep (λa x ⟨o,ho,q⟩=>⟨o,k a o ho,q⟩) r
def HRs.getD{h:w_}{ps:Y4 0}{vs:ZM 0}(r:HRs h ps vs)(hi:i<ps.length):HR h (ps.getD i .non) (Zk 0):=by
 let g:ps[i]?=a_ (ps.getD i .non):=by simp[hi]
 let⟨v,hv,hr⟩:=r.at g;let e:Zk 0=v:=by simp[Wr,hv]
 rw[e];show hr
def RVs.pick'(r:ZR 0):∀{p:B_ Nat},(∀i∈p,i<xs.length)->E_ (p.map λi=>xs.getD i .non) (p.map λi=>vs.getD i .non)
 |[],_=>trivial
 |i::p,h=>by
  let hi:=h i UV;let g:xs[i]?=a_ (xs.getD i .non):=by simp[hi]
  let⟨v,hv,hr⟩:=r.at g;let e:vs.getD i .non=v:=by simp[Wr,hv]
  refine⟨?_,RVs.pick' r λj hj=>h j<|U4 _ hj⟩
  change D_ (xs.getD i .non) (vs.getD i .non)
  rw[e];show hr
abbrev zR:Y4 0->C_ (Zf 0)
 |[]=>a_ []
 |.str x::r=>(zR r).map (x::·)
 |_=>b_
def BK:∀ss:Zf 0,zR (ss.map PV.str)=a_ ss
 |[]=>rfl
 |x::r=>by
  change(zR<|r.map PV.str).map (x::·)=_
  rw[BK r];rfl
def BL:∀{xs:Y4 0}{ss:Zf 0},zR xs=a_ ss->xs=ss.map PV.str
 |[],ss,h=>by cases h;rfl
 |x::r,ss,h=>by
  cases x with
  |str z=>have h':(zR r).map (z::·)=a_ ss:=h;let⟨t,ht,rfl⟩:=Vn.mp h';rw[BL ht];rfl
  |_=>cases h
abbrev unZ:Zq 0->Str
 |[.inr x]=>x
 |_=>""
abbrev BM(ss:Zf 0):Zf 0:=(rQ<|ss.map λx=>[(Wa x:Key)]).map unZ
def Eg(ss:Zf 0):(ss.map λx=>[(Wa x:Key)]).map unZ=ss:=by rw[VF];show(Wj λ_ _=>rfl).trans (List.map_id ss)
def Dl(ss:Zf 0):(BM ss).Perm ss:=by have:=(fY<|ss.map λx=>[(Wa x:Key)]).map unZ;rw[Eg]at this;show this
abbrev mJ:Y4 0->PH->Rs PV:=λxs h=>match xs with
 |[.ref n]=>match aM h n with
  |some ys=>match zR ys with
   |some ss=>if ss.length<64 then .ok (.ref h.length) (h++[.lst<|(BM ss).map PV.str]) else .bad
   |none=>.bad
  |none=>.bad
 |_=>.bad
set_option tactic.hygienic true in
def Ka{k:Nat}:mD C k X (.builtin "sorted") mJ:=λc=>cS.imp (by have:=rA (X:=X);rw[c.K]at this;show this) λvs H Q h=>by
 let⟨φ,h,ps,rh,rv,po⟩:=h;unfold mJ at po;split at po
 ·rename_i n;split at po
  ·rename_i ys e;split at po
   ·rename_i ss es;let⟨hc,po⟩:=po.ite;let⟨v,rfl,rx⟩:=rv.one;let⟨a,rfl,ha⟩:=rx;let⟨a2,vs,aj,sa,ra⟩:=bK rh e;rw[ha]at aj;cases aj;let ey:=BL es;subst ey;let ev:=Az.mp ra;subst ev;refine⟨a,ss,rfl,sa,hc,λl jg hl hp hs=>?_⟩;let e1:(jg.map λx=>[(Wa x:Key)])=rQ (ss.map λx=>[(Wa x:Key)]):=by
     refine Dj (S:=[false]) (λy hy=>?_) (hp.map _) ?_
     ·let⟨z,_,rfl⟩:=Vl.mp hy;rfl
     ·cases jg with
      |nil=>exact .nil
      |cons x r=>exact sZ hs
    let e2:BM ss=jg:=by unfold BM;rw[<-e1,Eg]
    rw[e2]at po;show po.lnew rh (Az.mpr rfl) hl
   ·show po.elim
  ·show po.elim
 ·show po.elim
variable{ss:Zf 0}
def BN(e:h[n]?=a_ (.lst<|ss.map PV.str))(hl:ss.length<64):∃zs:Zf 0,zs.Perm ss/\mJ [.ref n] h=.ok (.ref h.length) (h++[.lst<|Z0 0]):=by
 refine⟨BM ss,Dl ss,?_⟩;let e1:aM h n=a_ (ss.map PV.str):=by simp[aM,e]
 simp only[mJ,e1,BK];rw[if_pos hl]
open PySem.SeqAt PySem.W
abbrev twF:PV->Str
 |.tup (.str x::_)=>x
 |_=>⟨#[]⟩
abbrev ltF(x y:PV):Bool:=decide ((twF x).cps.toList<(twF y).cps.toList)
def N8{a b c:PV}(h1:ltF b a=false)(h2:ltF c b=false):ltF c a=false:=decide_eq_false<|X3.mpr<|List.le_trans (X3.mp<|of_decide_eq_false h1)<|X3.mp<|of_decide_eq_false h2
def N9{a b:PV}(h:ltF a b=true):ltF b a=false:=decide_eq_false<|List.lt_asymm<|of_decide_eq_true h
def Kc(a:PV):ltF a a=false:=decide_eq_false<|List.lt_irrefl _
def N'{a b:PV}(h1:ltF a b=false)(h2:ltF b a=false):twF a=twF b:=by
 let e:=List.le_antisymm (X3.mp<|of_decide_eq_false h2)<|X3.mp<|of_decide_eq_false h1;generalize twF a=x at e;generalize twF b=y at e;let⟨⟨x⟩⟩:=x;let⟨⟨y⟩⟩:=y;cases e
 rfl
section
def Eh{b:Bool}{n:Nat}{Q:j_ Bool}(hu:A.units+n<cLine):∀(ps:Y4 0)(us ws:ZM 0)(i:Nat),(∀p∈ps,p.ky n=true)->HRs s.heap ps us->HRs s.heap ps ws->Q false s->KatLex prog w A b false Q (us.zip ws) i s
 |[],[],[],i,_,_,_,h=>h
 |p::ps,u::us,v::ws,i,kp,rs,d9,h=>by rw[List.zip_cons_cons];let k1:=kp p UV;refine kat_cons<|D1 k1 k1 hu rs.1 d9.1 prog w _ _ ?_;rw[decide_eq_true rfl];show kat_yes<|Eh hu ps us ws (i+1) (λz hz=>kp z (U4 _ hz)) rs.2 d9.2 h
 |[],_::_,_,_,_,r,_,_=>r.elim
 |[],_,_::_,_,_,_,r,_=>r.elim
 |_::_,[],_,_,_,r,_,_=>r.elim
 |_::_,_,[],_,_,_,r,_=>r.elim
def Dm{v:s_}{Q:j_ Bool}(hu:A.units+n<cLine)(kp:p.ky (n+1)=true)(tp:∃ps,p=.tup ps)(r:HR s.heap p v)(r':HR s.heap p u)(h:Q false s):
  r_ (keyLt' (tuples' b) v u) Q E s:=by
 let⟨ps,rfl⟩:=tp;let⟨a,its,rfl,⟨ox,rj,_,m,dx⟩,rs⟩:=r;let⟨a',its',rfl,⟨oy,r6,_,m',dy⟩,d9⟩:=r';refine kat_lt rj dx r6 dy ?_;let l1:=rs.length;let l2:=d9.length;let e1:decide (its.toArray.size<its'.toArray.size)=false:=by simp[<-l1,<-l2]
 rw[e1];show Eh hu ps its its' 0 (Vs.mp kp) rs d9 h
def FF{q:PV}{v:s_}{Q:j_ Bool}(hu:A.units+n<cLine)(kp:p.ky (n+1)=true)(kq:q.ky (n+1)=true)(fp:fk p=1)(fq:fk q=1)(ne:twF p≠twF q)(r:HR s.heap p v)(r':HR s.heap q u)(h:Q (ltF p q) s):
  r_ (keyLt' (tuples' true) v u) Q E s:=by
 match p,q,fp,fq with
 |.tup (.str x::ps),.tup (.str y::qs),_,_=>
  let⟨a,its,rfl,⟨ox,rj,_,m,dx⟩,rs⟩:=r;let⟨a',its',rfl,⟨oy,r6,_,m',dy⟩,d9⟩:=r';refine kat_lt rj dx r6 dy ?_
  match its,its',rs,d9 with
  |i1::its,j1::its',rs,d9=>
   change KatLex prog w A true _ Q ((i1::its).zip (j1::its')) 0 s
   rw[List.zip_cons_cons];refine kat_cons<|D1 (n:=n) (Vs.mp kp _ UV) (Vs.mp kq _ UV) hu rs.1 d9.1 prog w _ _ ?_;rw[decide_eq_false<|show ¬ PV.str x=PV.str y from λz=>ne<|PV.str.inj z]
   refine kat_no ?_;let⟨t,rfl⟩:=rs.1;let⟨t',rfl⟩:=d9.1;show oneLt_str h
end
abbrev twS:Y4 0->C_ (Y4 0)
 |[]=>a_ []
 |[x]=>if fk x<3/\x.ky 20=true then a_ [x] else b_
 |[x,y]=>if((fk x=1/\fk y=1)/\x.ky 20=true/\y.ky 20=true)/\twF x≠twF y then a_ (if ltF y x=true then[y,x] else[x,y]) else b_
 |_=>b_
structure OkF(m:Nat)(ys:B_ PV):Prop where
 m3:m<3
 ky:∀x∈ys,x.ky 20=true
 fk:∀x∈ys,fk x=m
 un:∀i j,i<ys.length->j<ys.length->i≠j->m=1/\twF (ys.getD i .non)≠twF (ys.getD j .non)
def twP{α:Type}{x y:α}{zs:B_ α}(h:zs.Perm [x,y]):zs=[x,y]\/zs=[y,x]:=by
 match zs,h.length_eq with
 |[a,b],_=>
  let ha:a∈[x,y]:=h.mem_iff.mp UV;rcases U5.mp ha with rfl|ha
  ·rw[List.perm_singleton.mp<|(List.perm_cons a).mp h];show .inl rfl
  ·obtain rfl:=Va.mp ha;let h2:=h.trans<|List.Perm.swap a x [];rw[List.perm_singleton.mp<|(List.perm_cons a).mp h2];show .inr rfl
variable{zs:Y4 0}
def Na(h:twS ys=a_ zs):ys.length<64/\(∃m,OkF m ys)/\∀ps:Y4 0,ps.Perm ys->ps.Pairwise (λa b=>ltF b a=false)->ps=zs:=by
 match ys,h with
 |[],h=>
  cases h
  show⟨by simp,⟨1,⋯,λ_ h=>(List.not_mem_nil h).elim,λ_ h=>(List.not_mem_nil h).elim,λi j h=>(Nat.not_lt_zero _ h).elim⟩,λps hp _=>hp.eq_nil⟩
 |[x],h=>
  let h:(if fk x<3/\x.ky 20=true then a_ [x] else b_)=a_ zs:=h;by_cases c:fk x<3/\x.ky 20=true
  ·rw[if_pos c]at h;cases h
   refine⟨by simp,⟨fk x,c.1,λy hy=>?_,λy hy=>?_,λi j hi hj ne=>?_⟩,λps hp _=>List.perm_singleton.mp hp⟩
   ·rw[Va.mp hy];show c.2
   ·rw[Va.mp hy]
   ·show(ne<|(Nat.lt_one_iff.mp hi).trans (Nat.lt_one_iff.mp hj).symm).elim
  ·rw[if_neg c]at h;cases h
 |[x,y],h=>
  let h:(if((fk x=1/\fk y=1)/\x.ky 20=true/\y.ky 20=true)/\twF x≠twF y then a_ (if ltF y x=true then[y,x] else[x,y]) else b_)=a_ zs:=h;by_cases c:((fk x=1/\fk y=1)/\x.ky 20=true/\y.ky 20=true)/\twF x≠twF y
  ·rw[if_pos c]at h;let⟨⟨⟨f1,f2⟩,k1,k2⟩,ne⟩:=c;cases h
   refine⟨by simp,⟨1,⋯,λz hz=>?_,λz hz=>?_,λi j hi hj n=>⟨rfl,?_⟩⟩,λps hp hs=>?_⟩
   ·rcases U5.mp hz with rfl|hz
    ·show k1
    ·rw[Va.mp hz];show k2
   ·rcases U5.mp hz with rfl|hz
    ·show f1
    ·rw[Va.mp hz];show f2
   ·match i,j,hi,hj with
    |0,0,_,_=>exact(n rfl).elim
    |0,1,_,_=>exact ne
    |1,0,_,_=>exact λz=>ne z.symm
    |1,1,_,_=>exact(n rfl).elim
   ·rcases twP hp with rfl|rfl
    ·let h1:ltF y x=false:=(Vp.mp hs).1 y UV;rw[h1];rfl
    ·let h1:ltF x y=false:=(Vp.mp hs).1 x UV;cases e:ltF y x with
     |true=>rfl
     |false=>exact(ne<|N' h1 e).elim
  ·rw[if_neg c]at h;cases h
 |_::_::_::_,h=>cases h
def Ke{m:Nat}(hm:m<3)(h:fk p=m):∃ps,p=.tup ps:=by
 cases p with
 |tup xs=>exact⟨xs,rfl⟩
 |_=>simp[fk]at h;omega
abbrev Nb(C:MC):B_ V->Hp->VK->Prop:=λxs H Q=>∃φ p ys vs m,xs=[.ref p]/\SqL C.K H p vs/\E_ ys vs/\OkF m ys/\ys.length<64/\∀l zs jf,zs.Perm ys->zs.Pairwise (λa b=>ltF b a=false)->H l=b_->E_ zs jf->Q (.ref l) (S1 l<|.lst jf)
def Dn{k:Nat}(c:Y2 X):cS X (.builtin "sorted") (Nb C):=by
 intro jn s σ H xs us Q I r h;let⟨φ,p,ys,vs,m,rfl,sa,ra,ok,dj,fin⟩:=h;let⟨u,rfl,ru⟩:=vals1 r;cases ru
 let hu:X.A.in1.in1.units+19<cLine:=by
  have:=c.hu64
  change X.A.units+1+1+19<cLine
  omega
 let memD:∀i,i<ys.length->ys.getD i .non∈ys:=λi hi=>by
  have:ys.getD i .non=ys[i]:=by simp[hi]
  rw[this];show V5 hi
 refine zG (κ:=tuples'<|decide (m≠2)) (λits s1=>P1 s1/\aK vs its) ?col ?fin
 case fin=>
  rintro its s1 ⟨I1,rv⟩;let l1:=rv.length;let l2:=ra.length;let hlen:its.length=ys.length:=⋯;let hr:HRs s1.heap ys its:=Aw I1 c.K 20 ok.ky ra rv;refine⟨⋯,λi j=>ltF (ys.getD i .non)<|ys.getD j .non,λi j k _ _ _ h1 h2=>N8 h1 h2,λi j _ _ h=>N9 h,λA' s' kp h0 Q' E' hq=>?_,λs' kp i j hi hj Q' hq=>?_,λq h' e a1 a2 kp he=>?_⟩
  ·show K' ok.m3 (hr.kept kp) ok.fk h0 hq
  ·rw[hlen]at hi hj;let mi:=memD i hi;let mj:=memD j hj;let hq:Q' (ltF (ys.getD i .non)<|ys.getD j .non) s':=hq;by_cases ij:i=j
   ·subst ij;rw[Kc]at hq;show Dm (n:=19) hu (ok.ky _ mi) (Ke ok.m3<|ok.fk _ mi) ((hr.kept kp).getD hi) ((hr.kept kp).getD hi) hq
   ·let⟨rfl,un⟩:=ok.un i j hi hj ij;show FF (n:=19) hu (ok.ky _ mi) (ok.ky _ mj) (ok.fk _ mi) (ok.fk _ mj) un ((hr.kept kp).getD hi) ((hr.kept kp).getD hj) hq
  ·let cy:∀i∈q,i<ys.length:=λi hi=>by have:=a1.mem_iff.mp hi;rw[Xd]at this;omega
   rw[hlen]at a1;refine⟨.ref<|e_ s1,_,I1.laid (t':=s1.toks) (o:=.lst<|q.map λi=>vs.getD i .non) kp (U1 _) ?_,rfl,fin _ (q.map λi=>ys.getD i .non) _ (zH a1) ?_ I1.fresh<|ra.pick' cy⟩
   ·refine⟨?_,q.map<|λi=>its.getD i Vj,e,rD rv (λi hi=>by have:=cy i hi;omega),he⟩;rw[U2,a1.length_eq,XR,VN];omega
   ·rw[VZ];show a2
 case col=>
  let gv:SqL X.K H p vs:=by rw[c.K];show sa
  let⟨its,rv,pl,hz⟩:=I.list gv;refine collect_list pl.isList ?_ (by have:=rv.length;have:=ra.length;rw[VN];omega);show⟨I.kept (t':=s.toks) λb o e=>by
   let ag:b<(e_ s):=U8 e
   first
    |(rw[Heap.get?_update_ne _ _ _ _<|Vc ag,XO _ _ _<|Vc ag];show e)
    |exact Zn e,rv⟩
abbrev oT:Y4 0->PH->Rs PV:=λxs h=>match xs with
 |[.ref n]=>match aM h n with
  |some ys=>match twS ys with
   |some zs=>.ok (.ref h.length) (h++[.lst zs])
   |none=>.bad
  |none=>.bad
 |_=>.bad
set_option tactic.hygienic true in
def Kf{k:Nat}:mD C k X (.builtin "sorted") oT:=λc=>cS.imp (Dn c) λvs H Q h=>by
 let⟨φ,h,ps,rh,rv,po⟩:=h;unfold oT at po;split at po
 ·rename_i n;split at po
  ·rename_i ys e;split at po
   ·rename_i zs ez;let⟨v,rfl,rx⟩:=rv.one;let⟨a,rfl,ha⟩:=rx;let⟨a2,vs,aj,sa,ra⟩:=bK rh e;rw[ha]at aj;cases aj;let⟨Tz,⟨m,ok⟩,one⟩:=Na ez;refine⟨φ,a,ys,vs,m,rfl,sa,ra,ok,Tz,λl ps jf hp hs hl hr=>?_⟩;obtain rfl:=one ps hp hs;show po.lnew rh hr hl
   ·show po.elim
  ·show po.elim
 ·show po.elim
def FG(e:h[n]?=a_ (.lst ys))(hs:twS ys=a_ zs):oT [.ref n] h=.ok (.ref h.length) (h++[.lst zs]):=by
 let e1:aM h n=a_ ys:=by simp[aM,e]
 simp only[oT,e1,hs]
@[reducible]def KP:=Zq 0×PV
abbrev tB(x:KP):B_ KP->B_ KP
 |[]=>[x]
 |y::ys=>if bI y.1 x.1=true then y::tB x ys else x::y::ys
abbrev iM:B_ KP->B_ KP
 |[]=>[]
 |x::xs=>tB x (iM xs)
def oU(x:KP):∀ys,(tB x ys).Perm (x::ys)
 |[]=>.refl _
 |y::ys=>by
  unfold tB;split
  ·show((oU x ys).cons y).trans (.swap x y ys)
  ·show .refl _
def iX:∀xs,(iM xs).Perm xs
 |[]=>.refl _
 |x::xs=>(oU x _).trans ((iX xs).cons x)
set_option tactic.hygienic true in
def qI{S:B_ Bool}{x:KP}(hx:shape x.1=S):∀{ys:B_ KP},(∀y∈ys,shape y.1=S)->ys.Pairwise (λa b=>bI b.1 a.1=false)->(tB x ys).Pairwise (λa b=>bI b.1 a.1=false)
 |[],_,_=>X6 _ _
 |y::ys,hs,hp=>by
  let hy:=hs y UV;let il:=λz hz=>hs z<|U4 _ hz;rw[Vp]at hp;unfold tB;split
  ·rename_i h;rw[Vp];refine⟨λz hz=>?_,qI hx il hp.2⟩;rcases U5.mp ((oU x ys).mem_iff.mp hz) with rfl|hz
   ·show tZ h
   ·show hp.1 z hz
  ·rename_i h;let h':bI y.1 x.1=false:=by simpa using h
   rw[Vp];refine⟨λz hz=>?_,Vp.mpr hp⟩;rcases U5.mp hz with rfl|hz
   ·show h'
   ·show qA (hx.trans hy.symm) (hy.trans (il z hz).symm) h' (hp.1 z hz)
def jI{S:B_ Bool}:∀{xs:B_ KP},(∀y∈xs,shape y.1=S)->(iM xs).Pairwise (λa b=>bI b.1 a.1=false)
 |[],_=>.nil
 |x::xs,hs=>qI (hs x UV) (λy hy=>hs y (U4 _<|(iX xs).mem_iff.mp hy)) (jI λy hy=>hs y (U4 _ hy))
def zS{α β:Type}:∀{l:B_ (α×β)},(l.map (·.1)).Nodup->∀{a b:α×β},a∈l->b∈l->a.1=b.1->a=b
 |[],_,_,_,h,_,_=>nomatch h
 |x::l,nd,a,b,ha,hb,e=>by
  rw[Vd,Wh]at nd;rcases U5.mp ha with rfl|ha'
  ·rcases U5.mp hb with rfl|hb'
   ·rfl
   ·show(nd.1<|Vl.mpr ⟨b,hb',e.symm⟩).elim
  ·rcases U5.mp hb with rfl|hb'
   ·show(nd.1<|Vl.mpr ⟨a,ha',e⟩).elim
   ·show zS nd.2 ha' hb' e
def vY{xs ys:B_ KP}(hs:∀y∈xs,shape y.1=S)(nd:(xs.map (·.1)).Nodup)(hp:ys.Perm xs)(h:ys.Pairwise (λa b=>bI b.1 a.1=false)):ys=iM xs:=by refine XX (le:=λa b=>bI b.1 a.1=false) (λa b ha hb h1 h2=>?_) h (jI hs)<|hp.trans (iX xs).symm;let ha':=hp.mem_iff.mp ha;let hb':=(iX xs).mem_iff.mp hb;show zS nd ha' hb'<|pZ ((hs a ha').trans (hs b hb').symm) h2 h1
open Classical in
abbrev sortBy(b:Bool)(ks ys:Y4 0):C_ (Y4 0):=match vU ks with
 |some af=>if af.length<64/\af.length=ys.length/\tT af=true/\af.Nodup then a_ ((PySem.W.katRev b<|iM<|af.zip ys).map (·.2)) else b_
 |none=>b_
def FH(h1:af.length<64)(h2:af.length=ys.length)(h3:tT af=true)(h4:af.Nodup):sortBy b (af.map tP) ys=a_ ((PySem.W.katRev b<|iM<|af.zip ys).map (·.2)):=by unfold sortBy;rw[BH];show if_pos ⟨h1,h2,h3,h4⟩
abbrev iY(f:Fn)(b:Bool)(ys:Y4 0):Y4 0->Y4 0->PH->Rs PV
 |[],ks,h=>match sortBy b ks ys with
  |some zs=>.ok (.ref h.length) (h++[.lst zs])
  |none=>.bad
 |x::xs,ks,h=>(f [x] h).bind λk h1=>iY f b ys xs (ks++[k]) h1
abbrev jJ(x:PV)(h:PH):C_ (Y4 0):=match x with
 |.ref n=>match aM h n with
  |some ys=>a_ ys
  |none=>vW h n
 |.fl ys=>a_ ys
 |_=>b_
abbrev jK(f:Fn)(b:Bool)(x:PV)(h:PH):Rs PV:=match jJ x h with
 |some ys=>if ys.length<64 then iY f b ys ys [] h else .bad
 |none=>.bad
abbrev kM(f:Fn)(b:Bool)(me:Me):Me:=λδ h=>(me δ h).bind λx h1=>jK f b x h1
def RVs.pick(r:ZR 0):∀{p:B_ Nat},(∀i∈p,i<xs.length)->E_ (p.map λi=>xs.getD i .non) (p.map λi=>vs.getD i .non)
 |[],_=>trivial
 |i::p,h=>by
  let hi:=h i UV;let g:xs[i]?=a_ (xs.getD i .non):=by simp[hi]
  let⟨v,hv,hr⟩:=r.at g;let e:vs.getD i .non=v:=by simp[Wr,hv]
  refine⟨?_,RVs.pick r λj hj=>h j<|U4 _ hj⟩
  change D_ (xs.getD i .non) (vs.getD i .non)
  rw[e];show hr
def Hx{σ:St}(I:P1 s)(ha:(e_ s)<=a):X.s₀.heap.objs.size<=a/\a≠X.env.locals/\(∀x c,T_ 0=a_ c->c≠a)/\(∀p∈X.pn++jn,p.1≠a)/\a∉X.fs:=by
 refine⟨VO I.sz ha,WL<|Vo I.lt ha,λx c e z=>?_,λp hp z=>?_,I.nofs ha⟩
 ·let⟨v,o,ho,_⟩:=I.cell x c e;rw[z]at ho;show absurd (Vo (U8 ho) ha)<|WT _
 ·let ho:=(I.pin p hp).1;rw[z]at ho;show absurd (Vo (U8 ho) ha)<|WT _
def mK{its:YV 0}{e:Nat}:∀v,(seqObj "list" its e).data≠.cell v:=λv z=>nomatch z
def Inv.adopt{σ:St}{d:t_}{o:HO}(I:P1 s)(ha:H a=b_)(hd:H d=b_)(fa:X.s₀.heap.objs.size<=a/\a≠X.env.locals/\(∀x c,T_ 0=a_ c->c≠a)/\(∀p∈X.pn++jn,p.1≠a)/\a∉X.fs)(fd:X.s₀.heap.objs.size<=d/\d≠X.env.locals/\(∀x c,T_ 0=a_ c->c≠d)/\(∀p∈X.pn++jn,p.1≠d)/\d∉X.fs)(kp:∀x u,x≠a->x≠d->s.heap.get? x=a_ u->h'.get? x=a_ u)(new:q0j (S1 a o) h' a o):i_ (S1 a o) {s with heap:=h'}:=by
 let na:∀x u,H x=a_ u->x≠a:=λx u e z=>by rw[z,ha]at e;cases e
 let nd:∀x u,H x=a_ u->x≠d:=λx u e z=>by rw[z,hd]at e;cases e
 refine I.call' (s':={s with heap:=h'}) (ch:=[a,d]) rfl ⟨λb u q n _ hx=>?_,λb u q n _ hx=>⟨u.slots,?_⟩,λb u q n hx=>?_,λb u q hx=>⟨u,?_⟩,λb xs q=>?_,λb u xs q=>?_,λb ps q=>⟨#[],?_⟩⟩ (λb u e=>?_) I.bare λb hb=>?_
 ·show kp b u (λz=>hx<|by simp[z]) (λz=>hx<|by simp[z]) q
 ·show kp b u (λz=>hx<|by simp[z]) (λz=>hx<|by simp[z]) q
 ·rw[aH<|λz=>hx<|by simp[z]];show n
 ·show kp b u (λz=>hx<|by simp[z]) (λz=>hx<|by simp[z]) q
 ·rw[aH<|na _ _ q];show q
 ·rw[aH<|na _ _ q];show q
 ·rw[aH<|na _ _ q,q];simp
 ·by_cases hb:b=a
  ·subst hb;rw[aL]at e;cases e;show new
  ·rw[aH hb]at e;refine(I.hok b u e).stay (λc v hc q=>kp c v ?_ ?_ q) (λc q=>by rw[aH<|na _ _ q];show q) λc xs q=>by rw[aH<|na _ _ q];show q
   ·rcases hc with z|z
    ·rw[z];show hb
    ·show na _ _ z
   ·rcases hc with z|z
    ·rw[z];show nd _ _ e
    ·show nd _ _ z
 ·rcases U5.mp hb with rfl|hb
  ·show⟨.inr fa.1,fa.2.1,fa.2.2.1,fa.2.2.2.1⟩
  ·rw[Va.mp hb];show⟨.inr fd.1,fd.2.1,fd.2.2.1,fd.2.2.2.1⟩
abbrev Nc(C:MC)(X:Cx)(jn:g_ 0)(σ:St)(φ:B_ t_)(H:Hp)(f:Fn)(b:Bool)(ys:Y4 0)(Q:VK)(a z:t_)(kS:t_)(e1:Nat)(ks:ZM 0)(e:Nat)(s':td):Prop:=z<kS/\∃H' φ' h' zs ps,Inv X (jn++[(kS,seqObj "list" ks.toArray e),(a,seqObj "list" #[] e1)]) σ H' s'/\φ<+:φ'/\Zx H'/\Zi h'/\aK zs ks/\RVs C φ' H' ps zs/\post C φ' H' (iY f b ys (ys.drop ks.length) ps h') Q
variable{A':v_}{pn:Zf 0}
def Hy{k:Nat}{q:t_}{f:Fn}{σ:St}{us:B_ V}{Q:VK}(c:Y2 X)(D:Def C.K X.mg x st q fd pn)(G:M_ q fd pn (spM C 1 f))(hj:j+2<=k)(ry:E_ ys us)(rv:aK us its)(eA:A'=X.A.in1.in1)(fr:∀kS,a<=kS->X.s₀.heap.objs.size<=kS/\kS≠X.env.locals/\(∀x c,T_ 0=a_ c->c≠kS)/\(∀p∈X.pn++jn,p.1≠kS)/\kS∉X.fs)(kS:t_)(e1:Nat)(ks:ZM 0)(e:Nat)(s':td)(y:s_)(hy:its[ks.length]?=a_ y)(hJ:Nc C X jn σ φ H f b ys Q a a kS e1 ks e s'):
  wpAny (h_ X) A' (call (.ref q) [y]) (λv dk=>dk.heap.get? kS=a_ (seqObj "list" ks.toArray e)/\∀(h':w_) e',Wy kS dk.heap h'->h'.get? kS=a_ (seqObj "list" (ks++[v]).toArray e')->Nc C X jn σ φ H f b ys Q a a kS e1 (ks++[v]) e' { dk with heap:=h'}) (λ_ _=>False) s':=by
 subst eA;let⟨hz,H',φ',h',zs,ps,I,pp,tt,rh,rz,rp,po⟩:=hJ;let ag:ks.length<its.length:=(SC.mp hy).1;let zk:us.length=its.length:=rv.length;let Sz:ys.length=us.length:=ry.length;let gy:ys[ks.length]?=a_ (ys[ks.length]'⋯):=by simp
 let⟨u,hu,ru⟩:=ry.at gy;let⟨y',jd,Uw⟩:=rv.get hu;rw[hy]at jd;cases jd
 let hd:ys.drop ks.length=ys[ks.length]'⋯::ys.drop (ks.length+1):=drop_cons gy;rw[hd]at po;let uo:=c.K;let G':L_ CX0 j q fd pn (spM C 1 f):=by rw[uo];show G
 let D':Def X.K X.mg x st q fd pn:=by rw[uo];show D
 let zh:spM C 1 f [u] H' (λv H2=>∃φ2 p h2,φ'<+:φ2/\Kp H' H2/\RH C φ2 H2 h2/\RV C φ2 H2 p v/\post C φ2 H2 (iY f b ys (ys.drop (ks.length+1)) (ps++[p]) h2) Q) E0:=⟨φ',h',[ys[ks.length]'⋯],rh,⟨ru.mono pp tt,trivial⟩,rfl,post.bind po⟩;let hl:([y]:ZM 0).length=pn.length:=G'.len _ _ _ _ zh;refine wpAny_call (codeAny_mono (G'.run X.A.in1.in1 X.stack s' H' ⟨[y],[]⟩ [y] [u] _ E0 ((c.room.mono hj).in1.in1) I.env0.in1.in1 (by
  have:=D'.bd s' [y] I.kIn<|l_ hl
  simpa using this) (.cons Uw .nil) zh) λr s2 hq=>?_)
 cases r with
 |error e=>exact hq.elim
 |ok fl=>
  cases fl with
  |next=>exact WQ hq
  |brk=>exact WQ hq
  |cont=>exact WQ hq
  |ret v=>
   let⟨x2,H2,I2,Ur,φ2,p2,h2,y9,Sw,ah,wu,Tc⟩:=I.after hq;let gk:=I2.pin (kS,seqObj "list" ks.toArray e)<|Vb _<|Vb _ UV;let ga:=I2.pin (a,seqObj "list" #[] e1)<|Vb _<|Vb _<|U4 _ UV;refine⟨gk.1,λg e' sb jo=>?_⟩;let fk:=fr kS<|Xq hz;let Tr:a≠kS:=Vc hz;let I3:Inv X (jn++[(a,seqObj "list" #[] e1)]) σ H2 s2:=I2.pins_of λp hp=>(Vx.mp hp).elim (λz=>I2.pin p<|Vb _<|Ws _ z) λz=>by rw[Va.mp z];show ga
   let I4:=I3.turned (t':=s2.toks) (it:=kS) (h':=g) (λb' o' hb hq=>(sb.2 b' hb).trans hq) gk.2.1 fk.2.1 (.inr fk.1) fk.2.2.1 (λp hp=>by
    rcases Vx.mp hp with hp|hp
    ·show fk.2.2.2.1 p (Ws _ hp)
    ·rcases Vx.mp hp with hp|hp
     ·show fk.2.2.2.1 p (Vb _ hp)
     ·rw[Va.mp hp];show Tr)
   refine⟨hz,H2,φ2,h2,zs++[x2],ps++[p2],I4.pins_of λp hp=>?_,pp.trans y9,tt.trans Sw,ah,rz.append<|.cons Ur .nil,(rp.mono y9 Sw).snoc wu,?_⟩
   ·rcases Vx.mp hp with hp|hp
    ·show I4.pin p (Vb _<|Ws _ hp)
    ·rcases U5.mp hp with rfl|hp
     ·show⟨jo,gk.2.1,fk.2.1,fk.2.2.2.2,mK⟩
     ·rw[Va.mp hp];show I4.pin _<|Vb _<|Vb _ UV
   ·rw[WG];show Tc
def BO(hl:af.length=ys.length)(hs:∀y∈af,shape y=S)(nd:af.Nodup){p:B_ Nat}(hp:p.Perm (Vi ys.length))(ho:p.Pairwise (λi j=>(if b then bI (af.getD i []) (af.getD j []) else bI (af.getD j []) (af.getD i []))=false)):p.map (λi=>ys.getD i .non)=(PySem.W.katRev b<|iM<|af.zip ys).map (·.2):=by
 letI zs:=af.zip ys;let Uh:zs.length=ys.length:=by change(af.zip ys).length=_;simp[hl]
 let cy:∀i∈p,i<ys.length:=λi hi=>by simpa using hp.mem_iff.mp hi
 let eg:∀i,i<ys.length->zs.getD i ([],.non)=(af.getD i [],ys.getD i .non):=λi hi=>by
  let h1:i<af.length:=⋯;let h2:i<zs.length:=⋯;let h3:(af.zip ys)[i]?=a_ (af[i],ys[i]):=by rw[List.getElem?_zip_eq_some];show⟨by simp[h1],by simp[hi]⟩
  change(af.zip ys).getD i _=_
  simp[h1,hi,h3]
 let Sh:(p.map λi=>zs.getD i ([],.non)).Perm zs:=zH (by rw[Uh];show hp);let hm:zs.map (·.1)=af:=by
  change(af.zip ys).map Prod.fst=af
  show List.map_fst_zip ⋯
 let hsz:∀y∈zs,shape y.1=S:=λy hy=>hs _ (by rw[<-hm];show Vl.mpr ⟨y,hy,rfl⟩);let e2:p.map (λi=>ys.getD i .non)=(p.map λi=>zs.getD i ([],.non)).map (·.2):=by rw[VF];show Wj λi hi=>by change _=(zs.getD i _).2;rw[eg i<|cy i hi]
 rw[e2];let key:∀(R:Nat->Nat->Bool),p.Pairwise (λi j=>R i j=false)->(∀i j,i<ys.length->j<ys.length->R i j=bI (zs.getD j ([],.non)).1 (zs.getD i ([],.non)).1)->(p.map λi=>zs.getD i ([],.non)).Pairwise (λx y=>bI y.1 x.1=false):=λR h1 h2=>by rw[VZ];show h1.imp_of_mem λ{i j} hi hj h=>by rw[<-h2 i j (cy i hi) (cy j hj)];show h
 cases b with
 |false=>
  congr 1;refine vY hsz (by rw[hm];show nd) Sh (key (λi j=>bI (af.getD j [])<|af.getD i []) ho λi j hi hj=>by rw[eg i hi,eg j hj])
 |true=>
  congr 1;let hr:(p.map λi=>zs.getD i ([],.non)).reverse=iM zs:=by refine vY hsz (by rw[hm];show nd) ((List.reverse_perm _).trans Sh) ?_;rw[List.pairwise_reverse,VZ];show ho.imp_of_mem λ{i j} hi hj h=>by rw[eg i<|cy i hi,eg j<|cy j hj];show h
  change _=(iM zs).reverse
  rw[<-hr,List.reverse_reverse]
variable{kw:B_ (Str×s_)}
set_option tactic.hygienic true in
def vZ{k:Nat}{q:t_}{f:Fn}(c:Y2 X)(D:Def C.K X.mg x st q fd pn)(G:M_ q fd pn (spM C 1 f))(hj:j+2<=k)(og:∀v,argsOk "sorted" ⟨[v],kw⟩)(aj:∀v,argsOk "list.sort" ⟨[.ref v],kw⟩)(ht:∀v,Builtin.«list.sort» ⟨[.ref v],kw⟩=ksk_tree v (.ref q) b){σ:St}{Q:VK}(I:P1 s)(ru:ZG u)(h:r1 C (jK f b) v H Q):
  wpAny (h_ X) X.A (call (.builtin "sorted") [u] kw) (Y6 Q) X.xe s:=by
 let⟨φ,h,p,rh,rp,po⟩:=h;unfold jK at po;cases ei:jJ p h with
 |none=>rw[ei]at po;show po.elim
 |some ys=>
 rw[ei]at po;let⟨dj,po⟩:=po.ite;refine call_function_entry_kw kind_sorted plain_sorted entry_sorted (og u) ?_;unfold Builtin.«sorted»;refine SB (m:=checkCount "sorted" 1 1 _)<|SL ?_;let col:wpAny (h_ X) X.A.in1 (collect u) (λits s1=>∃us,P1 s1/\aK us its/\E_ ys us) X.xe s:=by
  let j7:∀{a:t_}{vs:B_ V},v=.ref a->SqL C.K H a vs->E_ ys vs->wpAny (h_ X) X.A.in1 (collect u) (λits s1=>∃us,P1 s1/\aK us its/\E_ ys us) X.xe s:=λ{a vs} ev sa ra=>by
   subst ev;cases ru
   let gv:SqL X.K H a vs:=by rw[c.K];show sa
   let⟨its,rv,pl,hz⟩:=I.list gv;refine collect_list pl.isList ?_ (by have:=rv.length;have:=ra.length;rw[VN];omega);show⟨vs,I.kept (t':=s.toks) λb o e=>by
    let ag:b<(e_ s):=U8 e
    first
     |(rw[Heap.get?_update_ne _ _ _ _<|Vc ag,XO _ _ _<|Vc ag];show e)
     |exact Zn e,rv,ra⟩
  unfold jJ at ei;split at ei
  ·rename_i n;split at ei
   ·rename_i ys' e;cases ei
    let⟨a,ev,ha⟩:=rp;let⟨a2,vs,aj,sa,ra⟩:=bK rh e;rw[ha]at aj;cases aj;show j7 ev sa ra
   ·unfold vW at ei;split at ei
    ·rename_i d hv;let⟨a,ev,ha⟩:=rp;subst ev;cases ru
     let⟨bb,hb,hH⟩:=YW hv;let⟨hT,hm,hz,oc,es,ep,g1,g2,ws,r1,r2⟩:=BJ c I rh hb ei;let T2:s.heap.IsValuesView a bb:=(I.hok a _ hH).1;let hn:es.size<=U9:=by
      let e1:=r1.length;let e2:ws.length=es.size:=by have:=r2.length;simpa using this
      rw[<-e2,<-e1];show hz
     refine PySem.W.kdu_collect (GQ (r:=a) g2) (I.ok.hd c.calm) ⟨T2,g1⟩ hn λh' tk acc hk aw=>?_;show⟨ws,I.kept (t':=tk) hk,by rw[Hw aw];show r2,r1⟩
    ·cases ei
  ·cases ei
   let⟨a,vs,ev,sa,ra⟩:=rp;show j7 ev sa.sq ra
  ·cases ei
 refine SB<|Wz col (λits s1 hh=>?_) λ_ _ z=>z;let⟨us,I1,rv,ry⟩:=hh;let zk:us.length=its.length:=rv.length;let Sz:ys.length=us.length:=ry.length;refine SB (wpAny_newList ?_ (by rw[VN];omega));let fg:(s1.heap.push<|seqObj "list" its.toArray 0).get? (e_ s1)=a_ (seqObj "list" its.toArray 0):=Za 0;let keep:∀b o,s1.heap.get? b=a_ o->b≠(e_ s1)/\(s1.heap.push<|seqObj "list" its.toArray 0).get? b=a_ o:=λb o q=>⟨Vc<|U8 q,Zn q⟩;let fr:∀kS,(e_ s1)<=kS->X.s₀.heap.objs.size<=kS/\kS≠X.env.locals/\(∀x c,T_ 0=a_ c->c≠kS)/\(∀p∈X.pn++jn,p.1≠kS)/\kS∉X.fs:=λkS hk=>Hx I1 hk
 change u_ _ _ _ {s1 with heap:=s1.heap.push (seqObj "list" its.toArray 0)}
 refine SB<|VJ<|wpAny_call_entry_kw slot_list_sort ⟨_,fg,rfl⟩ entry_list_sort ?body<|aj _
 case body=>
  change wpAny (h_ X) X.A.in1.in1 (Builtin.«list.sort» ⟨[.ref<|e_ s1],kw⟩) _ _ _
  rw[ht<|e_ s1];refine CZ (s:={s1 with heap:=s1.heap.push (seqObj "list" its.toArray 0)}) (a:=(e_ s1)) (κ:=tuples' true) (vs:=its) fg ⋯ (Nc C X jn σ φ H f b ys Q (e_ s1)<|e_ s1) ?h0 ?dr ?turn ?fin
  case h0=>
   intro kS e1 h' kp hk g1 g2;let e8:(e_ s1)<kS:=by have:(s1.heap.push<|seqObj "list" its.toArray 0).objs.size<=kS:=hk;rw[Xe]at this;show this
   let I2:P1 {s1 with heap:=h'}:=I1.kept (t':=s1.toks) λb o q=>kp b o (keep b o q).1 (keep b o q).2;let fk:=fr kS<|Xq e8;let fa:=fr (e_ s1)<|U1 _;refine⟨e8,H,φ,h,[],[],I2.pins_of λp hp=>?_,U7,Kp.refl H,rh,.nil,trivial,po⟩;rcases Vx.mp hp with hp|hp
   ·show I2.pin p (Vb _ hp)
   ·rcases U5.mp hp with rfl|hp
    ·show⟨g2,I1.hok.fresh<|Xq e8,fk.2.1,fk.2.2.2.2,mK⟩
    ·rw[Va.mp hp];show⟨g1,I1.hok.fresh<|U1 _,fa.2.1,fa.2.2.2.2,mK⟩
  case dr=>rintro kS e1 ks e s' ⟨hz,H',φ',h',zs,ps,I',_⟩;show⟨WL hz,(I'.pin (s1.heap.objs.size,seqObj "list" #[] e1)<|Vb _<|Vb _<|U4 _ UV).1,(I'.pin (kS,seqObj "list" ks.toArray e)<|Vb _<|Vb _ UV).1⟩
  case turn=>intro kS e1 ks e s' y hy hJ;show Hy c D G hj ry rv rfl fr kS e1 ks e s' y hy hJ
  case fin=>
   rintro kS e1 ks e s' hl ⟨hz,H',φ',h',zs,ps,I',pp,tt,bu,rz,rp',po'⟩;let hd:ys.drop ks.length=[]:=List.drop_eq_nil_of_le ⋯;rw[hd]at po';unfold iY at po';cases es:sortBy b ps ys with
   |none=>rw[es]at po';show po'.elim
   |some out=>
   rw[es]at po';unfold sortBy at es;split at es
   ·rename_i af ek;split at es
    ·rename_i hc;let⟨hc1,gi,uj,TM⟩:=hc;cases es
     let ep:=BG ek;subst ep;let⟨bb,sh,hsh⟩:=Dk uj;let rr:dJ X.K H' (af.map tD) zs:=by rw[c.K];show Ed.mp rp'
     let tk:=vD I' rr rz;let gw:∀i,i<its.length->shape (af.getD i [])=bb::sh:=λi hi=>by
      let ak:i<af.length:=⋯;have:af.getD i []=af[i]:=by simp[ak]
      rw[this];show hsh _<|V5 ak
     refine⟨λi j=>bI (af.getD i [])<|af.getD j [],λi j k hi hj hk h1 h2=>?_,λi j _ _ h=>tZ h,λh2 Q' E' hq=>?_,λi j hi hj Q' hq=>?_,λp g e2 a1 a2 kp he gk=>?_⟩
     ·show qA ((gw i hi).trans (gw j hj).symm) ((gw j hj).trans (gw k hk).symm) h1 h2
     ·show Fc tk hsh ⋯ hq
     ·let⟨a,ua,q1,p1,r1⟩:=tk.get (i:=i) ⋯;let⟨d,ud,q2,p2,r2⟩:=tk.get (i:=j) ⋯;rw[q1,q2];show CK p1 p2 r1 r2 ((gw i hi).trans (gw j hj).symm) hq
     ·let cy:∀i∈p,i<its.length:=λi hi=>by simpa using a1.mem_iff.mp hi
      let fa:=fr (e_ s1)<|U1 _;let fk:=fr kS<|Xq hz;let U0:=I'.pin (kS,seqObj "list" ks.toArray e)<|Vb _<|Vb _ UV;let zq:=I'.pin (s1.heap.objs.size,seqObj "list" #[] e1)<|Vb _<|Vb _<|U4 _ UV;let I5:i_ H' s':=I'.unpinned;let I6:=I5.adopt (a:=(e_ s1)) (d:=kS) (o:=.lst<|p.map λi=>us.getD i .non) (h':=g) zq.2.1 U0.2.1 fa fk (λx o h1 h2 q=>kp x o h1 h2 q) (by refine⟨?_,p.map<|λi=>its.getD i Vj,e2,rD rv (λi hi=>by have:=cy i hi;omega),he⟩;rw[U2,a1.length_eq,XR,VN];omega)
      refine⟨_,rfl,SL ⟨_,rfl,.ref<|e_ s1,_,I6,rfl,?_⟩⟩;refine po'.lnew bu ?_ zq.2.1;rw[<-BO (b:=b) gi hsh TM (p:=p) (by rw[Sz,zk];show a1) a2];show(ry.mono pp tt).pick (λi hi=>by have:=cy i hi;omega)
    ·cases es
   ·cases es
variable{e7 kp:Pos}{kf:Str}
section
variable{q:t_}{jb:Nat}{f:Fn}{p rp iz:Pos}
def BP{Q:VK}{σ:St}(h:rd C (kM f b me) σ H Q):Lb (rd C me) Jl σ H λvs H1=>∃x,vs=[x]/\r1 C (jK f b) x H1 Q:=by let⟨φ,δ,h,rh,re,po⟩:=h;refine⟨φ,δ,h,rh,re,(post.bind po).imp ?_⟩;rintro v H1 ⟨φ1,x,h1,p1,t1,aa,ab,q1⟩;show⟨v,rfl,φ1,h1,x,aa,ab,q1⟩
def Kg{k:Nat}(D:Def C.K X.mg kf st q fd pn)(G:M_ q fd pn (spM C 1 f))(he:G_ e me)(hb:("sorted" : Str)∈C.bs)(hj:j+2<=k:=by decide)(hg:Gl X "sorted" := by rfl)(xi:Gl X kf:=by rfl)(hdk:(kf == ("__debug__" : Str))=false:=by decide)(cg:Vg [e] X.env=(false,U_ 0)::Vg [] X.env:=by rfl)(yz:YZ (Vg [e] X.env)=(false,U_ 0)::YZ (Vg [] X.env):=by rfl)(bf:(YZ<|Vg [e] X.env).any (·.1)=false:=by rfl):
  G_ (.Call (.Name "sorted" p) [e] [⟨a_ "key",.Name kf kp,e7⟩] pos) (kM f false me):=λc jn s σ H Q I h=>by
 refine Wd<|jD I hg (c.bn _ hb) PyProof.Rows.Boot.«sorted» ?_ nofun nofun;refine callWith_kw (thn (nE (he c) qW cg pos jn s σ H _ I<|BP h) λus s1 hh=>?_) yz bf;let⟨vs,H1,I1,rv,x,rfl,r⟩:=hh;let⟨u,rfl,ru⟩:=vals1 rv;refine kws_cons<|kB I1 xi D.mg (kws_nil ?_) hdk
 change u_ (call (.builtin "sorted") [u] [(Vh "key",.ref q)]) _ _ _
 show vZ c D G hj (λv=>ksk_s1 _ _) (λv=>ksk_l1 _ _) (λv=>ksk_t1 _ _) I1 ru r
def Hz{k:Nat}(D:Def C.K X.mg kf st q fd pn)(G:M_ q fd pn (spM C 1 f))(he:G_ e me)(hb:("sorted" : Str)∈C.bs)(hj:j+2<=k:=by decide)(hg:Gl X "sorted" := by rfl)(xi:Gl X kf:=by rfl)(hdk:(kf == ("__debug__" : Str))=false:=by decide)(cg:Vg [e] X.env=(false,U_ 0)::Vg [] X.env:=by rfl)(yz:YZ (Vg [e] X.env)=(false,U_ 0)::YZ (Vg [] X.env):=by rfl)(bf:(YZ<|Vg [e] X.env).any (·.1)=false:=by rfl):
  G_ (.Call (.Name "sorted" p) [e] [⟨a_ "key",.Name kf kp,e7⟩,⟨a_ "reverse",.Constant (.bool b) jb rp,iz⟩] pos) (kM f b me):=λc jn s σ H Q I h=>by
 refine Wd<|jD I hg (c.bn _ hb) PyProof.Rows.Boot.«sorted» ?_ nofun nofun;refine callWith_kw (thn (nE (he c) qW cg pos jn s σ H _ I<|BP h) λus s1 hh=>?_) yz bf;let⟨vs,H1,I1,rv,x,rfl,r⟩:=hh;let⟨u,rfl,ru⟩:=vals1 rv;refine kws_cons<|kB I1 xi D.mg (kws_cons<|Constant_bool<|kws_nil ?_) hdk
 change u_ (call (.builtin "sorted") [u] [(Vh "key",.ref q),(Vh "reverse",.bool b)]) _ _ _
 show vZ c D G hj (λv=>ksk_s2 _ _ _) (λv=>ksk_l2 _ _ _) (λv=>ksk_t2 _ _ _) I1 ru r
end
open PySem
section
variable{α:Type}(key:α->Zq 0)
abbrev wA(x:α):B_ α->B_ α
 |[]=>[x]
 |y::ys=>if bI (key y) (key x)=true then y::wA x ys else x::y::ys
abbrev jW:B_ α->B_ α
 |[]=>[]
 |x::xs=>wA key x (jW xs)
variable{key}
def zT(x:α):∀ys,(wA key x ys).Perm (x::ys)
 |[]=>.refl _
 |y::ys=>by
  unfold wA;split
  ·show((zT x ys).cons y).trans (.swap x y ys)
  ·show .refl _
def oV:∀xs,(jW key xs).Perm xs
 |[]=>.refl _
 |x::xs=>(zT x _).trans ((oV xs).cons x)
def BQ(f:α->PV)(x:α):∀ys:B_ α,tB (key x,f x) (ys.map λy=>(key y,f y))=(wA key x ys).map λy=>(key y,f y)
 |[]=>rfl
 |y::ys=>by
  rw[Vd];unfold tB wA;dsimp only;split
  ·rw[BQ f x ys];rfl
  ·rfl
def rS(f:α->PV):∀xs:B_ α,iM (xs.map λy=>(key y,f y))=(jW key xs).map λy=>(key y,f y)
 |[]=>rfl
 |x::xs=>by rw[Vd];unfold iM jW;rw[rS f xs,BQ]
def AA(f:α->PV){xs:B_ α}(hs:∀x∈xs,shape (key x)=S):(jW key xs).Pairwise (λa b=>bI (key b) (key a)=false):=by
 let h:=jI (S:=S) (xs:=xs.map λy=>(key y,f y)) (λy hy=>by let⟨x,hx,rfl⟩:=Vl.mp hy;show hs x hx);rw[rS,VZ]at h;show h
def BR{β γ:Type}(f:α->β)(g:α->γ):∀xs:B_ α,(xs.map f).zip (xs.map g)=xs.map λx=>(f x,g x)
 |[]=>rfl
 |x::xs=>by simp[BR f g xs]
def BS{f:α->PV}{xs:B_ α}(h1:xs.length<64)(h3:tT (xs.map key)=true)(h4:(xs.map key).Nodup):sortBy b ((xs.map key).map tP) (xs.map f)=a_ ((PySem.W.katRev b<|jW key xs).map f):=by
 rw[FH (l_ h1) (by simp) h3 h4,BR,rS];cases b with
 |false=>
  change a_ (((jW key xs).map λy=>(key y,f y)).map Prod.snd)=a_ ((jW key xs).map f)
  rw[VF];rfl
 |true=>
  change a_ ((((jW key xs).map λy=>(key y,f y)).reverse).map Prod.snd)=a_ ((jW key xs).reverse.map f)
  rw[<-List.map_reverse,VF];rfl
def Do{f:Fn}{b:Bool}{emb:α->PV}{ys zs:Y4 0}{Q:PV->PH->Prop}:∀(r done:B_ α)(h:PH),(∀d∈r,∀h(Q:PV->PH->Prop),(∀h',O_ h'->Q (tP<|key d) h')->(f [emb d] h).W Q)->
  sortBy b (((done++r).map key).map tP) ys=a_ zs->(∀h',O_ h'->Q (.ref h'.length) (h'++[.lst zs]))->(iY f b ys (r.map emb) ((done.map key).map tP) h).W Q
 |[],done,h,_,hs,k=>by rw[WZ]at hs;simp only[List.map_nil,iY,hs,vO];show k h<|Ext.refl h
 |x::r,done,h,hf,hs,k=>by
  rw[Vd];unfold iY;rw[Da];refine hf x UV h _ λh1 x1=>?_;let e:(done.map key).map tP++[tP<|key x]=((done++[x]).map key).map tP:=by simp
  rw[e];show Do r (done++[x]) h1 (λd hd=>hf d<|U4 _ hd) (by rw[Yp];show hs) λh' x2=>k h'<|x1.trans x2
def Ei{f:Fn}{emb:α->PV}{xs:B_ α}{x:PV}{Q:PV->PH->Prop}(e:jJ x h=a_ (xs.map emb))(h1:xs.length<64)(h3:tT (xs.map key)=true)(hs:∀x∈xs,shape (key x)=S)(h4:(xs.map key).Nodup)(hf:∀d∈xs,∀h(Q:PV->PH->Prop),(∀h',O_ h'->Q (tP<|key d) h')->(f [emb d] h).W Q)(k:∀(os:B_ α) h',O_ h'->os.Perm xs->os.Pairwise (λp q=>(if b then bI (key p) (key q) else bI (key q) (key p))=false)->Q (.ref h'.length) (h'++[.lst<|os.map emb])):(jK f b x h).W Q:=by
 unfold jK;rw[e];dsimp only;rw[if_pos<|l_ h1];refine Do (key:=key) xs [] h hf (BS h1 h3 h4) λh' hx=>k _ h' hx ?_ ?_
 ·cases b with
  |false=>exact oV xs
  |true=>exact(List.reverse_perm _).trans (oV xs)
 ·let hp:=AA emb hs;cases b with
  |false=>exact hp
  |true=>
   change((jW key xs).reverse).Pairwise _
   rw[List.pairwise_reverse];show hp
end
@[simp]theorem NX{f:Fn}:kM f b m δ h=(m δ h).bind λx h1=>jK f b x h1:=(rfl)
def wB(e:h[n]?=a_ (.lst xs)):jJ (.ref n) h=a_ xs:=by simp[jJ,aM,e]
set_option tactic.hygienic true in
def zU(e:bD h n=a_ kvs):kL h n=a_ (kvs.map (·.2)):=by
 unfold bD at e;split at e
 ·rename_i q;cases e;simp[kL,q]
 ·rename_i q;cases e;simp[kL,q]
 ·cases e
set_option tactic.hygienic true in
def aZ(e:bD h n=a_ kvs):∃o,h[n]?=a_ o/\bP (.ref n) h=true/\∀h',h'[n]?=a_ o->bD h' n=a_ kvs:=by
 unfold bD at e;split at e
 ·rename_i q;cases e;show⟨_,q,by simp[bP,q],λh' e=>by simp[bD,e]⟩
 ·rename_i q;cases e;show⟨_,q,by simp[bP,q],λh' e=>by simp[bD,e]⟩
 ·cases e
def bZ{h':PH}(x:O_ h')(e:bD h n=a_ kvs):bD h' n=a_ kvs:=by let⟨o,g,_,k⟩:=aZ e;show k h'<|x _ _ g
def BU{d:Nat}(e:h[n]?=a_ (.vw 1 d))(e2:bD h d=a_ kvs):jJ (.ref n) h=a_ (kvs.map (·.2)):=by
 let e1:aM h n=b_:=by simp[aM,e]
 simp only[jJ,e1,vW,e];show zU e2
def Kh{d:Nat}(e:bD h d=a_ kvs):zQ (.ref d) [] h=.ok (.ref h.length) (h++[.vw 1 d]):=by simp[zQ,zU e]
def Dp(e:bD h n=a_ kvs)(hk:(PV.tup xs).ky 6=true)(hl:kvs.length<16777216):rO (.ref n) (.tup xs) z h=a_ (ZL<|.dD<|bJ kvs (.tup xs) z):=by
 let k1:(PV.tup xs).isKt=true:=hk;let d0:kvs.length<U9:=by rw[iD];show hl
 unfold rO;simp only[oM,k1,if_true,e];rw[if_pos d0]
def FI(e:bD h n=a_ kvs)(hk:(PV.tup xs).ky 6=true):eO (.tup xs) (.ref n) h=.ok (.bl<|!(Y1<|.tup xs).isSome) h:=by
 let k1:(PV.tup xs).isKt=true:=hk;have:lV (.tup xs) (.ref n) h=a_ (Y1<|.tup xs):=by simp only[lV,k1,if_true,e,YK]
 unfold eO;rw[this]
def oW(e:bD h n=a_ kvs)(hk:(PV.tup xs).ky 6=true):fH (.tup xs) (.ref n) h=.ok (.bl (Y1<|.tup xs).isSome) h:=by
 let k1:(PV.tup xs).isKt=true:=hk;have:lV (.tup xs) (.ref n) h=a_ (Y1<|.tup xs):=by simp only[lV,k1,if_true,e,YK]
 unfold fH;rw[this]
@[simp]theorem Nd:rJ .non=true:=(rfl)
def Ext.setN{hX:PH}(x:O_ hX)(hn:h.length<=n):O_ (hX.set n o):=λm o' e=>by have:=(SC.mp e).1;rw[VD ⋯];show x m o' e
def vIx_dK{kvs:B_ (Key×PV)}(e:h[n]?=a_ (.dK kvs)):vIx (.ref n) (.str x) h=ofO (Y1<|.inr x) h:=by
 let e1:aM h n=b_:=by simp[aM,e]
 simp[vIx,e1,Ao,e,oM]
def zV{m:Nat}(e1:h[n]?=a_ (.lst xs))(e2:h[m]?=a_ (.lst ys))(c:xs.length+ys.length<=16777216):aR (.ref n) (.ref m) h=.ok (.ref h.length) (h++[.lst<|xs++ys]):=by
 change Hd (.ref n) (.ref m) h=_
 simp[Hd,bT,e1,e2,c]
variable{C:MC}{k:Nat}{X:Cx}{h:PH}
abbrev wC:PV->Y4 0->PH->Rs PV:=λx ps h=>match x,ps with
 |.ref n,[y,z]=>match oM y with
  |some key=>match h[n]? with
   |some (.dK kvs)=>match Y1 key with
    |some p=>.ok p h
    |none=>if kvs.length<U9 then .ok z (ZL<|.dK<|bJ kvs key z) else .bad
   |_=>.bad
  |none=>.bad
 |_,_=>.bad
set_option tactic.hygienic true in
def Ki(c:Y2 X):MtR X "dict.setdefault" (rM C wC):=λjn s σ H x xs v us Q I rx rs h=>by
 let⟨φ,h,p,ps,rh,rp,jq,po⟩:=h;unfold wC at po;split at po
 ·rename_i n y z;let⟨a,rfl,ha⟩:=rp;cases rx
  let⟨yv,zv,rfl,ry,rz⟩:=jq.two;let⟨yu,zu,rfl,f7,oa⟩:=vals2 rs;split at po
  ·rename_i key bg;split at po
   ·rename_i kvs hk;let⟨ks,hH,rk⟩:=YW hk;let ey:=Ap ry bg;subst ey;let⟨hz,hd,vs,rel,dd⟩:=uR I.hok hH;let Ui:vs.length<=U9:=by rw[<-rel.length];show hz
    let lv:=rH rk key;let rv:=rel.val key;refine call_meetsIn PySem.F.slot_dict_setdefault dd.typeIs PySem.F.entry_dict_setdefault (PySem.F.args_dict_setdefault_3 _ _ _) (kJ (bA X.prog X.w) a hd (nY f7) zu) ⟨vs,dd,Ui,λv e=>?_,λe h' fw hs=>?_⟩
    ·rw[e]at rv;cases e1:jR ks key with
     |none=>rw[e1]at rv;show rv.elim
     |some v1=>
      rw[e1]at rv lv;cases e2:Y1 key with
      |none=>rw[e2]at lv;show lv.elim
      |some p1=>rw[e2]at lv po;show⟨v1,H,ZS 0,rv,P_ lv⟩
    ·rw[e]at rv;cases e1:jR ks key with
     |some v1=>rw[e1]at rv;show rv.elim
     |none=>
      rw[e1]at lv;cases e2:Y1 key with
      |some p1=>rw[e2]at lv;show lv.elim
      |none=>
       rw[e2]at po;let⟨hl,po⟩:=po.ite;let d0:(putK ks key zv).length<=U9:=by have:=fT ks key zv;let e3:=VU rk;omega
       let he:∃q,h'.get? a=a_ q:=let ⟨q,_,_,hq,_⟩:=fw;⟨q,hq⟩;refine⟨zv,S1 a<|.dK<|putK ks key zv,pT I (by rw[hH];show WR) hs he<|uS d0 hd (rel.put key oa) fw,oa,?_⟩;let kp:Zx (S1 a<|.dK<|putK ks key zv):=Kp.dK hH;show po φ zv _ U7 kp (rh.write ha (by rw[hH];show WR) ⟨_,aL,(qF rk key rz).mono U7 kp⟩)<|rz.mono U7 kp
   ·show po.elim
  ·show po.elim
 ·show po.elim
def Nf:MtG C k X "dict" bP "dict.setdefault" wC:=λc=>⟨Ki c,qG c⟩
def Kj{kvs:B_ (Key×PV)}(e:h[n]?=a_ (.dK kvs))(hl:kvs.length<16777216):
  wC (.ref n) [.str x,z] h=match Y1 (.inr x) with|some p=>.ok p h|none=>.ok z (ZL<|.dK<|bJ kvs (.inr x) z):=by
 let d0:kvs.length<U9:=by rw[iD];show hl
 unfold wC;simp only[oM,e];cases aF kvs (.inr x) with
 |some p=>rfl
 |none=>exact if_pos d0
abbrev mL:PV->Y4 0->PH->Rs PV:=λx ps h=>match x,ps with
 |.ref n,[y,z]=>match Ao h n y with
  |some o=>.ok (o.getD z) h
  |none=>.bad
 |_,_=>.bad
set_option tactic.hygienic true in
def Kk(c:Y2 X):MtR X "dict.get" (rM C mL):=λjn s σ H x xs v us Q I rx rs h=>by
 let⟨φ,h,p,ps,rh,rp,jq,po⟩:=h;unfold mL at po;split at po
 ·rename_i n y z;let⟨a,rfl,ha⟩:=rp;cases rx
  let⟨yv,zv,rfl,ry,rz⟩:=jq.two;let⟨yu,zu,rfl,f7,oa⟩:=vals2 rs;split at po
  ·rename_i o e;let⟨o',g,is,val⟩:=oO rh ha ry e;refine Mf c.hu I g f7 oa λw' s' I' r'=>⟨o'.getD zv,H,I',r',?_⟩;cases o with
   |some p2=>let⟨w2,rfl,S0⟩:=val p2 rfl;show P_ S0
   |none=>
    cases o' with
    |none=>exact P_ rz
    |some z=>cases is
  ·show po.elim
 ·show po.elim
def Ng:MtG C k X "dict" bP "dict.get" mL:=λc=>⟨Kk c,qG c⟩
def qJ{kvs:B_ (Key×PV)}(e:h[n]?=a_ (.dK kvs)):mL (.ref n) [.str x,z] h=.ok ((Y1<|.inr x).getD z) h:=by unfold mL Ao;simp only[oM,e]
abbrev gO(f:Str)(p:PV):B_ (Str×PV)->B_ (Str×PV)
 |[]=>[(f,p)]
 |(g,x)::r=>if g=f then(g,p)::r else(g,x)::gO f p r
abbrev hZ(x:PV)(h:PH):C_ (Nat×Str×B_ (Str×PV)):=match x with
 |.ref n=>match h[n]? with
  |some (.ins c fs)=>a_ (n,c,fs)
  |_=>b_
 |_=>b_
abbrev aO(f:Str):PV->PH->Rs PV:=λx h=>match hZ x h with
 |some (_,_,fs)=>match fs.lookup f with
  |some p=>.ok p h
  |none=>.bad
 |none=>.bad
abbrev oC(f:Str)(x y:PV)(h:PH):C_ PH:=match hZ x h with
 |some (n,c,fs)=>if fs.length<1000 then a_ (ZL<|.ins c<|gO f y fs) else b_
 |none=>b_
def HA{fs:B_ (Str×PV)}{ks:B_ (Str×V)}(r:Zh fs ks)(f:Str)(rv:D_ p v):Zh (gO f p fs) (jE f v ks):=by
 unfold RKv at r⊢
 induction r with
 |nil=>exact .cons ⟨rfl,rv⟩ .nil
 | @cons a b as bs h t ih=>
  let⟨a1,a2⟩:=a;let⟨b1,b2⟩:=b;let e:a1=b1:=h.1;subst e;unfold gO jE;by_cases z:a1=f
  ·rw[if_pos z,if_pos z];show .cons ⟨rfl,rv⟩ t
  ·rw[if_neg z,if_neg z];show .cons h ih
def kN{fs:B_ (Str×PV)}{ks:B_ (Str×V)}(r:Zh fs ks)(f:Str):(fs.lookup f=b_/\ks.lookup f=b_)\/∃p v,fs.lookup f=a_ p/\ks.lookup f=a_ v/\D_ p v:=by
 unfold RKv at r
 induction r with
 |nil=>exact .inl ⟨rfl,rfl⟩
 | @cons a b as bs h t ih=>
  let⟨a1,a2⟩:=a;let⟨b1,b2⟩:=b;let e:a1=b1:=h.1;subst e;simp only[VB];cases z:(f == a1) with
  |true=>exact .inr ⟨a2,b2,rfl,rfl,h.2⟩
  |false=>exact ih
set_option tactic.hygienic true in
def mM{x:PV}{c:Str}{fs:B_ (Str×PV)}(rh:J_ h)(rv:D_ x v)(e:hZ x h=a_ (n,c,fs)):
  ∃a ca dx ks,x=.ref n/\v=.ref a/\φ[n]?=a_ a/\h[n]?=a_ (.ins c fs)/\C.cl c=a_ ca/\H a=a_ (.ins ca dx ks)/\Zh fs ks:=by
 unfold hZ at e;cases x with
 |ref m=>
  let⟨a,rfl,ha⟩:=rv;dsimp only at e;split at e
  ·rename_i c' ng q;cases e
   let⟨ca,dx,ks,h1,h2,h3⟩:=rh.at' _ a _ ha q;show⟨a,ca,dx,ks,rfl,rfl,ha,q,h1,h2,h3⟩
  ·cases e
 |_=>cases e
abbrev FJ(C:MC)(f:Str):Prop:=∀c a,C.cl c=a_ a->Cls C.K a/\jF C.K a f
variable{h3:PH}{mv:Me}{value:z_}{j5:Pos}
section
variable{o:z_}{f:Str}
def PQ{k:Nat}(hF:FJ C f)(he:G_ e m)(hb:Xb e f X.env (U_ 0)=U_ 0:=by rfl):G_ (.Attribute e f pos) (mUn (aO f) m):=λc=>
 (LX (he c) hb).imp λσ H Q h=>by
  let⟨φ,δ,h,rh,re,p⟩:=h;refine⟨φ,δ,h,rh,re,(post.bind p).imp ?_⟩;rintro v H1 ⟨φ1,x,h1,p1,t1,aa,ab,q1⟩;unfold aO at q1;cases ei:hZ x h1 with
  |none=>rw[ei]at q1;show q1.elim
  |some z=>
   let⟨n,cn,fs⟩:=z;rw[ei]at q1;dsimp only at q1;let⟨a,ca,dx,ks,rfl,rfl,ha,hh,hc,hH,rk⟩:=mM aa ab ei;let⟨cl,na⟩:=hF cn ca hc;rcases kN rk f with⟨l1,_⟩|⟨y,u,l1,l2,ru⟩
   ·rw[l1]at q1;show q1.elim
   ·rw[l1]at q1;show⟨a,ca,dx,ks,u,rfl,hH,by rw[c.K];show cl,by rw[c.K];show na,l2,q1.val aa ru⟩
abbrev iN(f:Str)(mo mv:Me):Ms:=λδ h=>(mv δ h).fl λy h1=>(mo δ h1).fl λx h2=>match oC f x y h2 with
 |some h3=>.nx δ h3
 |none=>.bad
set_option tactic.hygienic true in
def Ej{k:Nat}{x y:PV}{u:V}{D:Ends}{σ:St}(c:Y2 X)(hF:FJ C f)(rh:J_ h)(re:Y5 0)(rx:D_ x v)(ry:D_ y u)(es:oC f x y h=a_ h3)(q:bN C φ H (.nx δ h3) D):
  ∃a ca dx ks,v=.ref a/\H a=a_ (.ins ca dx ks)/\Cls X.K ca/\jF X.K ca f/\ks.length<1000/\D.nx σ (S1 a<|.ins ca dx<|jE f u ks)/\∃n cn fs,hZ x h=a_ (n,cn,fs)/\C.cl cn=a_ ca:=by
 unfold oC at es;cases ei:hZ x h with
 |none=>rw[ei]at es;cases es
 |some z=>
  let⟨n,cn,fs⟩:=z;rw[ei]at es;dsimp only at es;split at es
  ·rename_i hl;cases es
   let⟨a,ca,dx,ks,rfl,rfl,ha,hh,hc,hH,rk⟩:=mM rh rx ei;let⟨cl,na⟩:=hF cn ca hc;let kp:Zx (S1 a<|.ins ca dx<|jE f u ks):=Kp.upd (by rw[hH];trivial);refine⟨a,ca,dx,ks,rfl,hH,by rw[c.K];show cl,by rw[c.K];show na,by rw[<-VU rk];show hl,?_⟩;refine⟨q φ σ _ U7 kp (rh.write ha (by rw[hH];trivial) ⟨ca,dx,_,hc,aL,?_⟩)<|re.mono U7 kp,n,cn,fs,rfl,hc⟩;show(HA rk f ry).mono U7 kp
  ·cases es
def PR{k:Nat}(hF:FJ C f)(hv:G_ value mv)(ho:G_ o mo)(hs:YE value (a_<|.Attribute o f pos') pos.line X.env=pure false:=by rfl):Zz (.Assign [.Attribute o f pos'] value pos) (iN f mo mv):=λc=>
 (LY (ho c) (hv c) hs).imp λD σ H h=>by
  let⟨φ,δ,h,rh,re,p⟩:=h;refine⟨φ,δ,h,rh,re,(post.fl p).imp ?_⟩;rintro u H1 ⟨φ1,y,h1,p1,t1,aa,ab,q1⟩;refine⟨φ1,δ,h1,aa,Q_ 0,(post.fl q1).imp ?_⟩;rintro v H2 ⟨φ2,x,h2,p2,t2,ah,c6,q2⟩;cases es:oC f x y h2 with
  |none=>rw[es]at q2;show q2.elim
  |some h3=>rw[es]at q2;let⟨a,ca,dx,ks,g1,g2,g3,g4,g5,g6,_⟩:=Ej c hF ah ((Q_ 0).mono p2 t2) c6 (ab.mono p2 t2) es q2;show⟨a,ca,dx,ks,g1,g2,g3,g4,g5,g6⟩
abbrev Kl(f:Str)(δ:Ev)(cn:Str)(x z y:PV)(h:PH):Fl:=match z,y with
 |.int i,.int j=>match hZ x h with
  |some (_,c,_)=>if c=cn then(match oC f x (.int (i+j)) h with
   |some h3=>.nx δ h3
   |none=>.bad) else .bad
  |none=>.bad
 |_,_=>.bad
abbrev Ek(f:Str)(mo mv:Me):Ms:=λδ h=>(mo δ h).fl λx h1=>match hZ x h1 with
 |some (_,cn,fs)=>match fs.lookup f with
  |some z=>(mv δ h1).fl λy h2=>Kl f δ cn x z y h2
  |none=>.bad
 |none=>.bad
set_option tactic.hygienic true in
def HB{k:Nat}(hF:FJ C f)(ho:G_ o mo)(hv:G_ value mv):Zz (.AugAssign (.Attribute o f j5) .Add value pos) (Ek f mo mv):=λc=>
 (EV (ho c) (hv c) LZ).imp λD σ H h=>by
  let⟨φ,δ,h,rh,re,p⟩:=h;refine⟨φ,δ,h,rh,re,(post.fl p).imp ?_⟩;rintro v H1 ⟨φ1,x,h1,p1,t1,aa,ab,q1⟩;cases ei:hZ x h1 with
  |none=>rw[ei]at q1;show q1.elim
  |some z=>
   let⟨n,cn,fs⟩:=z;rw[ei]at q1;dsimp only at q1;let⟨a,ca,dx,ks,rfl,rfl,ha,hh,hc,hH,rk⟩:=mM aa ab ei;let⟨cl,na⟩:=hF cn ca hc;rcases kN rk f with⟨l1,_⟩|⟨zz,u,l1,l2,ru⟩
   ·rw[l1]at q1;show q1.elim
   ·rw[l1]at q1;let T3:bN C φ1 H1 ((mv δ h1).fl λy h2=>Kl f δ cn (.ref n) zz y h2) D:=q1;refine⟨a,ca,dx,ks,u,rfl,hH,by rw[c.K];show cl,by rw[c.K];show na,l2,φ1,δ,h1,aa,Q_ 0,(post.fl T3).imp ?_⟩;rintro w H2 ⟨φ2,y,h2,p2,t2,ah,c6,q2⟩;unfold Kl at q2;cases zz with
    |int i=>
     cases y with
     |int j=>
      dsimp only at q2;cases ru
      cases c6
      cases ei2:hZ (.ref n) h2 with
      |none=>rw[ei2]at q2;show q2.elim
      |some z2=>
       let⟨n2,cn2,fs2⟩:=z2;rw[ei2]at q2;dsimp only at q2;split at q2
       ·rename_i ec;subst ec;cases es:oC f (.ref n) (.int<|i+j) h2 with
        |none=>rw[es]at q2;show q2.elim
        |some h3=>
         rw[es]at q2;let⟨a2,ca2,T7,Tt,e1,SY,_,_,cj,nx,n3,cn3,fs3,e3,uj⟩:=Ej c hF ah ((Q_ 0).mono p2 t2) (ab.mono p2 t2) (show RV C φ2 H2 (.int<|i+j) (.int<|i+j) from rfl) es q2
         cases e1
         rw[ei2]at e3;cases e3
         rw[hc]at uj;cases uj
         show⟨i,j,rfl,rfl,T7,Tt,SY,cj,nx⟩
       ·show q2.elim
     |_=>exact q2.elim
    |_=>cases y <;> exact q2.elim
end
abbrev AB(C:MC)(X:Cx)(k:Nat)(m:Str)(n:Nat)(tb:Str->C_ Fn):Prop:=∀c a f,C.cl c=a_ a->tb c=a_ f->
 ∃g fd ps j,Cls C.K a/\Cv C.K a m g/\j<=k/\M_ g fd ps (spM C (n+1) f)/\Binds C.K fd ps []
def Nh{k:Nat}{m:Str}:AB C X k m n (λ_=>b_):=λ_ _ _ _ h=>nomatch h
def Km{k:Nat}{m c:Str}{g:t_}{f:Fn}{tb:Str->C_ Fn}(hc:C.cl c=a_ a)(hC:Cls C.K a)(me:Cv C.K a m g)(hj:j<=k)(G:M_ g fd ps (spM C (n+1) f))(B:Binds C.K fd ps [])(r:AB C X k m n tb):
  AB C X k m n (λz=>if z=c then a_ f else tb z):=λc' a' f' h1 h2=>by
 let gj:(if c'=c then a_ f else tb c')=a_ f':=h2;by_cases e:c'=c
 ·subst e;rw[hc]at h1;cases h1
  rw[YS 0]at gj;cases gj
  show⟨g,fd,ps,j,hC,me,hj,G,B⟩
 ·rw[Zp 0]at gj;show r c' a' f' h1 gj
abbrev bF(m:Str)(n:Nat)(tb:Str->C_ Fn)(mo:Me)(ms:Ma):Me:=λδ h=>(mo δ h).bind λx h1=>match hZ x h1 with
 |some (_,c,fs)=>match tb c,fs.lookup m with
  |some f,b_=>(ms δ h1).bind λps h2=>if ps.length=n then f (x::ps) h2 else .bad
  |_,_=>.bad
 |none=>.bad
section
variable{o:z_}{m:Str}{tb:Str->C_ Fn}{pl:Sem Bool}
def Ni{k:Nat}(hM:AB C X k m n tb)(ho:G_ o mo)(ha:SA C k X (e::es) ms)(cg:Vg (e::es) X.env=(false,U_ 0)::W_ 0:=by rfl)(bf:(YZ (W_ 0)).any (·.1)=false:=by rfl)(ht:eval (.Call (.Attribute o m apos) (e::es) [] pos) X.env=(do
   let ov <-ZP 0
   standAt apos.atName
   let (f,first) <-holding [ov] (getMethod ov m pl)
   callWith pos f first (YZ (Vg (e::es) X.env)) (backToKw pos (keywordEach [] X.env))):=by rfl):
  G_ (.Call (.Attribute o m apos) (e::es) [] pos) (bF m n tb mo ms):=λc jn s σ H Q I h=>by
 let⟨φ,δ,h,rh,re,p⟩:=h
 refine PySem.W.methodCall_KW (pl:=pl) (thn (ho c jn s σ H _ I ⟨φ,δ,h,rh,re,post.bind p⟩) λu s1 hh=>?_) ht
 let⟨v,H1,I1,ru,φ1,x,h1,p1,t1,aa,ab,q1⟩:=hh
 cases ei:hZ x h1 with
 |none=>rw[ei]at q1;exact q1.elim
 |some z=>
  let⟨n',cn,fs⟩:=z
  rw[ei]at q1
  dsimp only at q1
  let⟨a,ca,dx,ks,rfl,rfl,hφ,hh,hc,hH,rk⟩:=mM aa ab ei
  cases et:tb cn with
  |none=>rw[et]at q1;exact q1.elim
  |some f=>
   rw[et]at q1
   rcases kN rk m with⟨l1,l2⟩|⟨y,u',l1,_⟩
   ·rw[l1]at q1
    dsimp only at q1
    let⟨g,fd,ps,j,cl,me,hj,F,bd⟩:=hM cn ca f hc et
    have vz:Cls X.K ca:=by rw[c.K];exact cl
    have qc:Cv X.K ca m g:=by rw[c.K];exact me
    have F':L_ CX0 j g fd ps (spM C (n+1) f):=by rw[c.K];exact F
    have kx:ZA []:=by rw[c.K];exact bd
    cases ru
    refine uN I1 hH vz qc l2 ?_
    refine PySem.W.callWith_K (first:=[.ref a]) (h₀:=X.base) I.ok.mod.kin qc.kp (thn (ha c pos jn s1 σ H1 _ I1 ⟨φ1,δ,h1,aa,Q_ 0,postA.bind q1⟩) λus s2 h2=>?_) cg bf
    let⟨vs,H2,I2,r2,φ2,zs,h3,p2,t2,ah,c6,q2⟩:=h2
    let⟨hl,q2⟩:=q2.ite
    refine⟨I2.kIn,?_⟩
    exact Aa (us:=.ref a::us) (vs:=.ref a::vs) F' (c.room.mono hj) kx .nil yS I2 (.cons rfl r2) ⟨φ2,h3,.ref n'::zs,ah,⟨⟨a,rfl,dU p2 hφ⟩,(by show RVs C φ2 H2 zs<|vs++[];rw[WZ];exact c6)⟩,by simp[hl],q2⟩
   ·rw[l1]at q1;exact q1.elim
def Kn{k:Nat}(hM:AB C X k m 0 tb)(ho:G_ o mo)(ht:eval (.Call (.Attribute o m apos) [] [] pos) X.env=(do
   let ov <-ZP 0
   standAt apos.atName
   let (f,first) <-holding [ov] (getMethod ov m pl)
   callWith pos f first (YZ (Vg [] X.env)) (backToKw pos (keywordEach [] X.env))):=by rfl):
  G_ (.Call (.Attribute o m apos) [] [] pos) (bF m 0 tb mo aC):=λc jn s σ H Q I h=>by
 let⟨φ,δ,h,rh,re,p⟩:=h
 refine PySem.W.methodCall_KW (pl:=pl) (thn (ho c jn s σ H _ I ⟨φ,δ,h,rh,re,post.bind p⟩) λu s1 hh=>?_) ht
 let⟨v,H1,I1,ru,φ1,x,h1,p1,t1,aa,ab,q1⟩:=hh
 cases ei:hZ x h1 with
 |none=>rw[ei]at q1;exact q1.elim
 |some z=>
  let⟨n',cn,fs⟩:=z
  rw[ei]at q1
  dsimp only at q1
  let⟨a,ca,dx,ks,rfl,rfl,hφ,hh,hc,hH,rk⟩:=mM aa ab ei
  cases et:tb cn with
  |none=>rw[et]at q1;exact q1.elim
  |some f=>
   rw[et]at q1
   rcases kN rk m with⟨l1,l2⟩|⟨y,u',l1,_⟩
   ·rw[l1]at q1
    dsimp only at q1
    let⟨g,fd,ps,j,cl,me,hj,F,bd⟩:=hM cn ca f hc et
    have vz:Cls X.K ca:=by rw[c.K];exact cl
    have qc:Cv X.K ca m g:=by rw[c.K];exact me
    have F':L_ CX0 j g fd ps (spM C (0+1) f):=by rw[c.K];exact F
    have kx:ZA []:=by rw[c.K];exact bd
    cases ru
    refine uN I1 hH vz qc l2 ?_
    have q2:post C φ1 H1 (f [.ref n'] h1) Q:=q1
    exact PySem.W.callWith_K0 (first:=[.ref a]) I1.kIn qc.kp<|Aa (us:=[.ref a]) (vs:=[.ref a]) F' (c.room.mono hj) kx .nil yS I1 (.cons rfl .nil) ⟨φ1,h1,[.ref n'],aa,⟨⟨a,rfl,hφ⟩,trivial⟩,rfl,q2⟩
   ·rw[l1]at q1;exact q1.elim
end
abbrev lN(cn:Str)(n:Nat)(f:Fn)(ms:Ma):Me:=λδ h=>(ms δ h).bind λps h1=>if ps.length=n then(f (.ref h1.length::ps) (h1++[.ins cn []])).bind λv h2=>(match v with
 |.non=>.ok (.ref h1.length) h2
 |_=>.bad) else .bad
variable{ca:t_}{cn:Str}{fn:Fn}
def El{Q:VK}(hc:C.cl cn=a_ ca)(rh:J_ h)(rv:E_ zs vs)(q:P2 (if zs.length=n then(fn (.ref h.length::zs)<|h++[.ins cn []]).bind λv h2=>(match v with|.non=>Rs.ok (.ref h.length) h2|_=>.bad) else .bad) Q):
  ∀y dx,H y=b_->H dx=b_->dx≠y->spM C (n+1) fn (.ref y::(vs++[])) (upd (S1 dx<|.own y) y<|.ins ca dx []) (λv H2=>v=.non/\Q (.ref y) H2) E0:=λy dx hy hd ne=>by
 let⟨hl,q⟩:=q.ite;let jd:(S1 dx<|.own y) y=b_:=by rw[aH<|Wu ne];show hy
 let k1:Zx (S1 dx<|.own y):=Kp.new hd;let k2:Kp (S1 dx<|.own y) (upd (S1 dx<|.own y) y<|.ins ca dx []):=Kp.new jd;let ah:RH C (φ++[y]) (upd (S1 dx<|.own y) y<|.ins ca dx []) (h++[.ins cn []]):=(rh.aside hd).new jd ⟨ca,dx,[],hc,aL,.nil⟩;let Sq:RV C (φ++[y]) (upd (S1 dx<|.own y) y<|.ins ca dx []) (.ref h.length) (.ref y):=⟨y,rfl,by rw[<-rh.len];simp⟩;refine⟨φ++[y],h++[.ins cn []],.ref h.length::zs,ah,⟨Sq,by rw[WZ];show rv.mono (Vv _ _)<|k1.trans k2⟩,by simp[hl],?_⟩;refine(post.bind<|post.weak (Vv _ [y]) (k1.trans k2) q).imp ?_;rintro v H2 ⟨φ2,pv,h2,p2,t2,a7,rv3,q3⟩;cases pv with
 |non=>cases rv3;show⟨rfl,q3.val a7<|Sq.mono p2 t2⟩
 |_=>exact q3.elim
def Nj{k:Nat}{f:t_}{p:Pos}(hc:C.cl cn=a_ ca)(M:Mk C.K ca f)(F:M_ f fd ps (spM C (n+1) fn))(hm:X.mg x=c_ ca)(bd:Binds C.K fd ps [])(ha:SA C k X (e::es) ms)(hj:j+1<=k:=by decide)(hg:Gl X x:=by rfl)(cm:(x == ("__debug__" : Str))=false:=by decide)(he:Vg (e::es) X.env=(false,U_ 0)::W_ 0:=by rfl)(bf:(YZ<|W_ 0).any (·.1)=false:=by rfl):
  G_ (.Call (.Name x p) (e::es) [] pos) (lN cn n fn ms):=λc=>by
 let M':Mk X.K ca f:=by rw[c.K];show M
 let F':L_ CX0 j f fd ps (spM C (n+1) fn):=by rw[c.K];show F
 let kx:ZA []:=by rw[c.K];show bd
 refine(Jn M' F' (c.room.mono hj) hg hm kx .nil yS (ha c) cm he bf).imp λσ H Q h=>?_;let⟨φ,δ,h,rh,re,po⟩:=h;refine⟨φ,δ,h,rh,re,(postA.bind po).imp ?_⟩;rintro vs H1 ⟨φ1,zs,h1,p1,t1,aa,ab,q1⟩;show El hc aa ab q1
def Ko{k:Nat}{f:t_}{p:Pos}(hc:C.cl cn=a_ ca)(M:Mk C.K ca f)(F:M_ f fd ps (spM C (0+1) fn))(hm:X.mg x=c_ ca)(bd:Binds C.K fd ps [])(hj:j+1<=k:=by decide)(hg:Gl X x:=by rfl)(cm:(x == ("__debug__" : Str))=false:=by decide):G_ (.Call (.Name x p) [] [] pos) (lN cn 0 fn aC):=λc=>by
 let M':Mk X.K ca f:=by rw[c.K];show M
 let F':L_ CX0 j f fd ps (spM C (0+1) fn):=by rw[c.K];show F
 let kx:ZA []:=by rw[c.K];show bd
 refine(Gu M' F' (c.room.mono hj) hg hm kx .nil yS cm).imp λσ H Q h=>?_;let⟨φ,δ,h,rh,re,po⟩:=h;show El (zs:=[]) hc rh trivial po
abbrev fZ(x y v:PV)(h:PH):C_ PH:=match x,y with
 |.ref n,.int i=>match bT h n with
  |some xs=>match ixN xs.length i with
   |some j=>a_ (ZL<|.lst<|xs.set j v)
   |none=>b_
  |none=>rO x y v h
 |_,_=>rO x y v h
abbrev iA(mv mo mi:Me):Ms:=λδ h=>(mv δ h).fl λv h1=>(mo δ h1).fl λx h2=>(mi δ h2).fl λy h3=>match fZ x y v h3 with
 |some h4=>.nx δ h4
 |none=>.bad
set_option tactic.hygienic true in
def Dq{k:Nat}{h':PH}{pv:PV}{x:V}(c:Y2 X)(rh:J_ h)(rx:D_ px x)(ry:D_ py y)(rv:D_ pv v)(e:fZ px py pv h=a_ h'){σ:St}{Q:j_ Unit}(I:P1 s)(l8:ZF xu)(f7:RelV y yu)(i9:ZG vu)(q:∀s' H',i_ H' s'->Zx H'->RH C φ H' h'->Q () s'):wpAny (h_ X) X.A (setItem xu yu vu) Q X.xe s:=by
 unfold fZ at e;split at e
 ·rename_i n i;split at e
  ·rename_i xs el;split at e
   ·rename_i j ej;cases e
    let⟨a,rfl,ha⟩:=rx;cases ry
    let⟨ws,hH,c5⟩:=YW<|fV el;refine thn (set_list jn s σ H (.ref a) (.int i) v xu yu vu (λH'=>H'=S1 a (.lst<|ws.set j v)) I l8 f7 i9 ⟨a,ws,i,j,rfl,rfl,hH,by rw[<-c5.length];show ej,rfl⟩) ?_;rintro _ s' ⟨H',I',rfl⟩;refine q s' _ I' (Kp.lst hH) (rh.write ha (by rw[hH];trivial) ⟨_,aL,(RVs.set rv j c5).mono U7<|Kp.lst hH⟩)
   ·cases e
  ·show zO c rh rx ry rv e I l8 f7 i9 q
 ·show zO c rh rx ry rv e I l8 f7 i9 q
def Nk{k:Nat}{o i:z_}{mi:Me}(hv:G_ value mv)(ho:G_ o mo)(hi:G_ i mi)(hs:YE value (a_<|.Subscript o i pos') pos.line X.env=pure false:=by rfl):
  Zz (.Assign [.Subscript o i pos'] value pos) (iA mv mo mi):=λc jn s σ H D I ⟨φ,δ,h,rh,re,p⟩=>by
 refine wpAny_Assign_Subscript (thn (hv c jn s σ H _ I ⟨φ,δ,h,rh,re,post.fl p⟩) ?_) hs;rintro vu s1 ⟨v,H1,I1,i9,φ1,pv,h1,p1,t1,aa,ab,q1⟩;refine thn (ho c jn s1 σ H1 _ I1 ⟨φ1,δ,h1,aa,Q_ 0,post.fl q1⟩) ?_;rintro xu s2 ⟨x,H2,I2,l8,φ2,px,h2,p2,t2,ah,c6,q2⟩;refine thn (hi c jn s2 σ H2 _ I2 ⟨φ2,δ,h2,ah,(Q_ 0).mono p2 t2,post.fl q2⟩) ?_;rintro yu s3 ⟨y,H3,I3,f7,φ3,py,h3,p3,t3,a7,rv3,q3⟩;cases e:fZ px py pv h3 with
 |none=>rw[e]at q3;show q3.elim
 |some h4=>rw[e]at q3;show Dq c a7 (c6.mono p3 t3) rv3 ((ab.mono p2 t2).mono p3 t3) e I3 l8 f7 i9 λs' H' I' kp bu=>⟨σ,H',I',q3 φ3 σ H' U7 kp bu<|(((Q_ 0).mono p2 t2).mono p3 t3).mono U7 kp⟩
def qK{c:Str}{fs:B_ (Str×PV)}(e:h[n]?=a_ (.ins c fs)):hZ (.ref n) h=a_ (n,c,fs):=by simp[hZ,e]
def dC{c f:Str}{fs:B_ (Str×PV)}(e:h[n]?=a_ (.ins c fs))(l:fs.lookup f=a_ p):aO f (.ref n) h=.ok p h:=by simp[aO,qK e,l]
def cK{c f:Str}{fs:B_ (Str×PV)}(e:h[n]?=a_ (.ins c fs))(l:fs.length<1000):oC f (.ref n) p h=a_ (ZL<|.ins c<|gO f p fs):=by simp[oC,qK e,l]
@[simp]theorem Nl{E:FE}{f:Str}:(iN f mo mv δ h).W E=(mv δ h).W λy h1=>(mo δ h1).W λx h2=>∃h3,oC f x y h2=a_ h3/\E.nx δ h3:=by
 unfold iN;rw[Dc];congr 1;funext y h1;rw[Dc];congr 1;funext x h2;cases e:oC f x y h2 <;> simp
@[simp]theorem mN{f:Fn}:lN cn n f ms δ h=(ms δ h).bind λps h1=>if ps.length=n then(f (.ref h1.length::ps)<|h1++[.ins cn []]).bind λv h2=>(match v with|.non=>.ok (.ref h1.length) h2|_=>.bad) else .bad:=(rfl)
def aN(mm:Str)(n:Nat)(tb:Str->C_ Fn)(ms:Ma)(δ:Ev)(h:PH)(mo:Me)(f:Fn){k:Nat}{c:Str}{fs:B_ (Str×PV)}(e:mo δ h=.ok (.ref k) h1)(g:h1[k]?=a_ (.ins c fs))(t:tb c=a_ f)(l:fs.lookup mm=b_):
  bF mm n tb mo ms δ h=(ms δ h1).bind λps h2=>if ps.length=n then f (.ref k::ps) h2 else .bad:=by
 unfold bF;rw[e,Rs.bind_ok,qK g];simp only[t,l]
@[simp]theorem Rr{E:FE}{mi:Me}:(iA mv mo mi δ h).W E=(mv δ h).W λv h1=>(mo δ h1).W λx h2=>(mi δ h2).W λy h3=>∃h4,fZ x y v h3=a_ h4/\E.nx δ h4:=by
 unfold iA;rw[Dc];congr 1;funext v h1;rw[Dc];congr 1;funext x h2;rw[Dc];congr 1;funext y h3;cases e:fZ x y v h3 <;> simp
def boot_reversed:Xp "reversed" = a_ (.type "reversed"):=by first|rfl|decide +kernel|kernel_rfl
abbrev tE:PV->PH->Rs PV:=λx h=>match dM x h with
 |some xs=>.ok (.ref h.length) (h++[.lst xs.reverse])
 |none=>.bad
def FK(h:ItemsOf (GR items) acc items.size):acc.toList=items.toList.reverse:=by
 apply Wo;intro i;by_cases hi:i<acc.size
 ·let e1:acc[i]?=a_ acc[i]:=by simp[hi]
  let h2:=h.2 i _ e1;let uy:i<items.size:=by rw[<-h.1];show hi
  rw[V0,e1,List.getElem?_reverse<|l_ uy,X0,V0];show h2.symm
 ·let ak:¬ i<items.size:=by rw[<-h.1];show hi
  rw[V0,VM ⋯,Xy (by simp;omega)]
variable{cf:Pos}
def FL{k:Nat}{p:Pos}(he:G_ e me)(Ux:("list" : Str)∈C.bs)(Td:("reversed" : Str)∈C.bs)(UA:Gl X "list" := by rfl)(T4:Gl X "reversed" := by rfl)(cg:Vg [e] X.env=(false,U_ 0)::Vg [] X.env:=by rfl)(bf:(backTo cf<|Vg [] X.env).any (·.1)=false:=by rfl)(pj:Vg [.Call (.Name "reversed" p2) [e] [] cf] X.env=(false,eval (.Call (.Name "reversed" p2) [e] [] cf) X.env)::Vg [] X.env:=by rfl)(vt:(YZ<|Vg [] X.env).any (·.1)=false:=by rfl):
  G_ (.Call (.Name "list" p) [.Call (.Name "reversed" p2) [e] [] cf] [] pos) (mUn tE me):=λc jn s σ H Q I h=>by
 refine Wd<|jD I UA (c.bn _ Ux) PyProof.Rows.Boot.«list» ?_ nofun nofun;refine Wi ?_ pj vt;rw[pj]
 change u_ (spliced ((false,eval (.Call (.Name "reversed" p2) [e] [] cf) X.env)::YZ (Vg [] X.env))) _ _ s
 refine Calls.spliced_cons ?_;refine Wd<|jD I T4 (c.bn _ Td) boot_reversed ?_ nofun nofun;let⟨φ,δ,h,rh,re,po⟩:=h;refine Wi (thn (nE (he c) qW cg cf jn s σ H (λvs H1=>∃x,vs=[x]/\r1 C tE x H1 Q) I ⟨φ,δ,h,rh,re,(post.bind po).imp ?_⟩) λus s1 hh=>?_) cg bf
 ·rintro v H1 ⟨φ1,x,h1,p1,t1,aa,ab,q1⟩;show⟨v,rfl,φ1,h1,x,aa,ab,q1⟩
 let⟨vs,H1,I1,rv,x,rfl,φ1,h1,px,aa,rx,q1⟩:=hh;let⟨u,rfl,ru⟩:=vals1 rv;unfold tE at q1;cases es:dM px h1 with
 |none=>rw[es]at q1;show q1.elim
 |some xs=>
  rw[es]at q1;let⟨a,ws,rfl,sa,ra⟩:=fW aa rx es;cases ru
  let gv:SqL X.K H1 a ws:=by rw[c.K];show sa
  let⟨its,c5,pl,hz⟩:=I1.list gv;refine call_reversed_list pl.isList ?_
  change u_ (spliced<|YZ<|Vg [] X.env) _ _ _
  refine Calls.spliced_nil ?_;let hsz:its.toArray.size=its.length:=by simp
  let ux:a<(e_ s1):=let ⟨o,ho,_⟩:=pl.isList;U8 ho;let hit:(s1.heap.push<|revObj a<|(its.toArray.size:Int)-1).IsRevIter (e_ s1) a ((its.toArray.size:Int)-1):=⟨_,Za 0,rfl,rfl⟩;let cj:(s1.heap.push<|revObj a<|(its.toArray.size:Int)-1).IsList a its.toArray:=let ⟨o,ho,r⟩:=pl.isList;⟨o,Zn ho,r⟩;refine yA (s:={s1 with heap:=s1.heap.push (revObj a<|(its.toArray.size:Int)-1)}) (I.ok.hd c.calm) hit cj (Vc ux) (by rw[hsz,<-c5.length];show hz) λh' tk cx c' hk hS aw=>?_;let ea:=FK aw;let fr:(e_ s1)<=(s1.heap.push<|revObj a<|(its.toArray.size:Int)-1).objs.size:=by rw[Xe];show Yz _
  let kp:∀b o,s1.heap.get? b=a_ o->Ze 0=a_ o:=λb o e=>hk b o (Vc (U8 e)) (Zn e);let I2:=I1.laid (a:=(s1.heap.push (revObj a ((its.toArray.size:Int)-1))).objs.size) (t':=tk) (o:=.lst ws.reverse) kp fr ⟨by rw[X8];show hz,cx.toList,c',by
   rw[ea];let hr:∀{vs:B_ V}{us:ZM 0},aK vs us->aK vs.reverse us.reverse:=by
    intro vs us r
    induction r with
    |nil=>exact .nil
    |cons a t ih=>simp only[List.reverse_cons];show aK.append ih<|.cons a .nil
   simpa using hr c5,by rw[Array.toArray_toList];show hS⟩
  show⟨.ref (s1.heap.push<|revObj a<|(its.toArray.size:Int)-1).objs.size,_,I2,rfl,q1.lnew aa ra.reverse<|I1.hok.fresh fr⟩
def FM(e:h[n]?=a_ (.lst xs)):tE (.ref n) h=.ok (.ref h.length) (h++[.lst xs.reverse]):=by simp[tE,dM,aM,e]
def FN{es:Array Xs}(hT:s.TypeIs (.ref dc) "dict")(hd:(dc == We)=false)(h1:Zt 0=a_ oc)(h2:oc.data=.dict es ep)(q:Q (.ref<|e_ s) {s with heap:=s.heap.push {cls:=.type "dict_keyiterator",data:=.fields #[.ref dc,.int 0 0,.int es.size 0,.int ep 0]} }):r_ (pyIter<|.ref dc) Q E s:=by
 refine XT hT F.slot_dict_iter<|Vz F.slot_dict_iter hT F.entry_dict_iter ?_<|F.args_dict_iter_1 _;unfold Builtin.«dict.__iter__»;refine SB ?_;unfold Builtin.Dict.dictSlotNone;refine SB<|Xw hT ?_
 change u_ (pure<|Vt dc) _ _ s
 refine SL ?_
 change u_ (W3 dc >>= _) _ _ s
 unfold W3;rw[if_neg (by rw[hd];show Ve)];refine SB<|SL ?_;refine SB<|Wp h1 h2 ?_;refine SB<|W2 h1 h2 ?_;refine SB<|Vk<|SL ⟨_,rfl,"dict_keyiterator",_,⟨_,Za 0,rfl⟩,WD.lookup,?_⟩;simpa[rawInt] using q
def HC{es:Array Xs}{Q:C_ s_->td->Prop}(hI:s.heap.IsKeyIter it dc i es.size ep)(h1:Zt 0=a_ oc)(h2:oc.data=.dict es ep)(ag:i<es.size)(q:∀h',h'.IsKeyIter it dc (i+1) es.size ep->Wy it s.heap h'->Q (a_ es[i].key) {s with heap:=h'}):r_ (pyNext<|.ref it) Q E s:=by
 let⟨oi,g1,g2,g3⟩:=id hI;unfold pyNext;refine SB<|WV<|Vy (name:=Vh "__next__") hI.typeIs WD<|Vz WD hI.typeIs F.entry_dict_keyiterator_next ?_<|F.args_dict_keyiterator_next_1 _;refine SB<|SL<|SB<|SB ?_
 first|refine SB (Xa hI.typeIs<|SL ?_)|refine SB (XY hI.typeIs<|SL ?_)
 refine SB<|WW g1 g3 ?_;rw[show VQ "dict_keyiterator" = false by decide];simp only[VL,if_false]
 change u_ (if(Vt dc == Vj)=true then _ else _) _ _ s
 rw[if_neg<|show ¬ ((Vt dc == Vj)=true) from Ve]
 refine SB<|SL<|SB<|Wp h1 h2 ?_;rw[if_neg<|show ¬ _ by simp];refine SB<|SL<|SB<|W2 h1 h2 ?_;rw[if_neg<|show ¬ _ by simp];refine SL ?_;simp only[show ¬ ((i:Int)<0) by omega,if_false,Xh,Vm ag];refine SB ?_
 first|refine SB (Xa hI.typeIs<|SL ?_)|refine SB (XY hI.typeIs<|SL ?_)
 refine SB (wpAny_isOneOf_keyiter hI.typeIs<|show u_ (YH (.ref it) 1 (rawInt<|(i:Int)+1) >>= _) _ _ s from SB (XC g1 g3 (by simp) ?_))
 let jh:(q0a (WX (·.setIfInBounds 1 (rawInt<|(i:Int)+1)))).IsKeyIter it dc (i+1) es.size ep:=⟨_,VS _ g1<|Xx<|W6 g3 _,(Obj.cls_mapFields ..).trans g2,by rw[W6 g3];simp[rawInt]⟩;let kr:({s with heap:=q0a (WX (·.setIfInBounds 1 (rawInt<|(i:Int)+1)))}:td).TypeIs (.ref it) "dict_keyiterator" := jh.typeIs;refine SB<|VJ<|SB<|wpAny_isOneOf_keyiter kr ?_
 change u_ (pure es[i].key) _ _ _
 show SL<|SL ⟨_,rfl,SL<|q _ jh<|Vu ..⟩
def HE{es:Array Xs}{Q:C_ s_->td->Prop}(hh:A.handled=b_)(hI:s.heap.IsKeyIter it dc i es.size ep)(h1:Zt 0=a_ oc)(h2:oc.data=.dict es ep)(j6:es.size<=i)(q:∀h',q0k 0->Q b_ {s with heap:=h'}):r_ (pyNext<|.ref it) Q E s:=by
 let⟨oi,g1,g2,g3⟩:=id hI;unfold pyNext;refine SB<|WV<|Vy (name:=Vh "__next__") hI.typeIs WD<|Vz WD hI.typeIs F.entry_dict_keyiterator_next ?_<|F.args_dict_keyiterator_next_1 _;refine SB<|SL<|SB<|SB ?_
 first|refine SB (Xa hI.typeIs<|SL ?_)|refine SB (XY hI.typeIs<|SL ?_)
 refine SB<|WW g1 g3 ?_;rw[show VQ "dict_keyiterator" = false by decide];simp only[VL,if_false]
 change u_ (if(Vt dc == Vj)=true then _ else _) _ _ s
 rw[if_neg<|show ¬ ((Vt dc == Vj)=true) from Ve]
 refine SB<|SL<|SB<|Wp h1 h2 ?_;rw[if_neg<|show ¬ _ by simp];refine SB<|SL<|SB<|W2 h1 h2 ?_;rw[if_neg<|show ¬ _ by simp];refine SL ?_;simp only[show ¬ ((i:Int)<0) by omega,if_false,Xh,VM j6];refine SB ?_
 first|refine SB (Xa hI.typeIs<|SL ?_)|refine SB (XY hI.typeIs<|SL ?_)
 refine(show u_ (YH (.ref it) 0 .none >>= _) _ _ s from SB (XC g1 g3 (by simp) ?_))
 refine(show u_ (newExc (.type "StopIteration") [] >>= _) _ _ _ from SB ?_);simp only[newExc,newTuple]
 refine SB (Vk (SB (m:=WY _ _)<|W9 (a:=Vj) (by first|rfl|(simp only[WY];rfl))<|Vk ?_<|by size_fits)<|by size_fits)
 simp only[raiseNew];refine SB<|wpAny_handled ?_;rw[show A.in1.handled=b_ from hh]
 refine SB<|SL<|wpAny_throw ?_;refine SB<|Wl (T:="StopIteration") (b:=true) ⟨_,Za 0,rfl⟩ isSubtype_stop ?_;show SL<|q _<|((Vu ..).extBut.push _).push _
section
variable{k:Nat}
abbrev wD:Y4 0->C_ (Zf 0)
 |[]=>a_ []
 |.str x::r=>(wD r).map (x::·)
 |_::_=>b_
abbrev jnd(sep:Str):Zf 0->Str
 |[p]=>p
 |l=>YM sep l
abbrev Kr(sep:Str)(l:Zf 0):Nat:=l.toArray.foldl (·+·.length+sep.length) 0
abbrev Ks(x:PV)(_:PH):Bool:=match x with
 |.str _=>true
 |_=>false
abbrev wF:PV->Y4 0->PH->Rs PV:=λx ps h=>match x,ps with
 |.str sep,[.ref n]=>match bT h n with
  |some ys=>match wD ys with
   |some zs=>if Kr sep zs<=U9/\(jnd sep zs).length<=U9 then .ok (.str<|jnd sep zs) h else .bad
   |none=>.bad
  |none=>.bad
 |_,_=>.bad
def zW{φ:B_ t_}{H:Hp}:∀{ys:Y4 0}{zs:Zf 0}{vs:B_ V}{us:ZM 0},wD ys=a_ zs->E_ ys vs->aK vs us->∃l:B_ (Str×Tok),us=strValues l/\l.map (·.1)=zs
 |[],zs,[],us,e,_,ru=>by cases ru;cases e;show⟨[],rfl,rfl⟩
 |p::ys,zs,v::vs,us,e,r,ru=>by
  cases ru with
  | @cons _ u _ us' h t=>
   cases p with
   |str x=>
    unfold wD at e;cases e2:wD ys with
    |none=>rw[e2]at e;cases e
    |some zs'=>
     rw[e2]at e;cases e
     let⟨l,rfl,rfl⟩:=zW e2 r.2 t;let e1:v=.str x:=r.1;subst e1;let⟨tk,rfl⟩:=h;show⟨(x,tk)::l,rfl,rfl⟩
   |_=>cases e
 |[],_,_::_,_,_,r,_=>r.elim
 |_::_,_,[],_,_,r,_=>r.elim
set_option tactic.hygienic true in
def Kt(c:Y2 X):MtR X "str.join" (rM C wF):=λjn s σ H x xs v us Q I rx rs h=>by
 let⟨φ,h,p,ps,rh,rp,jq,po⟩:=h;unfold wF at po;split at po
 ·rename_i sep n;split at po
  ·rename_i ys hl;split at po
   ·rename_i zs hz;split at po
    ·rename_i hlen;let e1:x=.str sep:=rp;subst e1;let⟨tk,rfl⟩:=rx;let⟨v1,rfl,ab⟩:=jq.one;let⟨a,rfl,ha⟩:=ab;let⟨u,rfl,ru⟩:=vals1 rs;cases ru
     let hk:h[n]?=a_ (.lst ys):=by
      unfold bT at hl;split at hl
      ·rename_i q;cases hl;show q
      ·cases hl
     let⟨vs,hH,ip⟩:=YW hk;let⟨_,its,m,ia,_,hx⟩:=I.lstM hH;let⟨l,rfl,el⟩:=zW hz ip ia;let hq:Q (.str<|jnd sep zs) H:=P_ rfl;let T8:Builtin.Str.tooLong ((l.map (·.1)).toArray.foldl (·+·.length+sep.length) 0)=false:=by
      rw[el]
      change decide (Kr sep zs>U9)=false
      show decide_eq_false (by have:=hlen.1;omega)
     let Uo:s.heap.IsList a (strValues l).toArray:=⟨_,hx,rfl,m,rfl⟩;refine call_meets PySem.F.slot_str_join (typeIs_str s sep tk) PySem.F.entry_str_join (PySem.F.args_str_join_2 _ _) (meets_str_join_list sep tk a l T8) ⟨Uo,?_⟩;subst el;let cj:=hlen.2
     match l,hq,cj with
     |[],hq,cj=>exact⟨cj,.str _,H,ZS 0,⟨_,rfl⟩,hq⟩
     |[p],hq,cj=>exact⟨.str _,H,I,⟨_,rfl⟩,hq⟩
     |p::q::r,hq,cj=>exact⟨cj,.str _,H,ZS 0,⟨_,rfl⟩,hq⟩
    ·show po.elim
   ·show po.elim
  ·show po.elim
 ·show po.elim
def Np:MtG C k X "str" Ks "str.join" wF:=λc=>⟨Kt c,λjn s σ H φ h p x v I rh rv r e=>by
 cases p with
 |str z=>have e1:x=.str z:=rv;subst e1;let⟨t,rfl⟩:=r;show⟨typeIs_str s z t,λa e=>nomatch e⟩
 |_=>cases e⟩
end
section
variable{k:Nat}{o:Obj}{its:YV 0}{ps:Y4 0}
abbrev Lp:PV->C_ V
 |.non=>a_ .non
 |.bl b=>a_ (.bl b)
 |.int i=>d_ i
 |.str z=>a_ (.str z)
 |_=>b_
abbrev AC:Y4 0->C_ (B_ V)
 |[]=>a_ []
 |p::r=>match Lp p,AC r with
  |some v,a_ vs=>a_ (v::vs)
  |_,_=>b_
def Ku(e:Lp p=a_ v):D_ p v:=by cases p <;> first|(cases e;rfl)|cases e
set_option tactic.hygienic true in
def BV{φ:B_ t_}{H:Hp}:∀{ps:Y4 0}{vs:B_ V},AC ps=a_ vs->E_ ps vs
 |[],vs,e=>by cases e;trivial
 |p::ps,vs,e=>by
  unfold AC at e;split at e
  ·rename_i v ws e1 e2;cases e
   show⟨Ku e1,BV e2⟩
  ·cases e
abbrev PU(K:UF)(a:t_)(ps:Y4 0):Prop:=∃(o:Obj)(its:YV 0)(n:Nat)(vs:B_ V),K.lookup a=a_ o/\o.cls=.type "tuple" /\ o.data=.seq its n/\its.size<=U9/\aK vs its.toList/\o.dict=b_/\AC ps=a_ vs
def Nq(hm:X.mg x=c_ a)(g:PU C.K a ps)(hg:Gl X x:=by rfl)(hd:(x == ("__debug__" : Str))=false:=by decide):G_ (.Name x pos) (mC<|.tup ps):=λc=>(DQ (v:=.ref a) hg hm rfl hd).imp λσ H Q h=>by let⟨φ,δ,h,rh,re,p⟩:=h;let⟨o,its,n,vs,g1,g2,g3,g4,g5,g6,g7⟩:=g;show p φ (.ref a) H U7 (Kp.refl _) rh ⟨a,vs,rfl,.inr ⟨o,its,n,g1,g2,g3,g4,g5,g6⟩,BV g7⟩
end
def uD(e:bD h n=a_ kvs)(hk:(PV.tup xs).ky 6=true)(hl:kvs.length<16777216):fZ (.ref n) (.tup xs) z h=a_ (ZL<|.dD<|bJ kvs (.tup xs) z):=by
 change rO (.ref n) (.tup xs) z h=_
 show Dp e hk hl
def AD{kvs:B_ (Key×PV)}(e:h[n]?=a_ (.dK kvs))(hl:kvs.length<16777216):fZ (.ref n) (.str x) z h=a_ (ZL<|.dK<|bJ kvs (.inr x) z):=by
 change rO (.ref n) (.str x) z h=_
 show Ee e hl
abbrev HF:HO->Prop
 |.tup _=>False
 |.own _=>False
 |.tbl _=>False
 |_=>True
section
variable{σ:St}
def Inv.swap{d:t_}{u u':HO}(I:P1 s)(hd:H d=a_ u)(hu:HF u)(hz:∀o z,X.H₀ d≠a_ (.frz o z))(new:q0j (S1 d u') s.heap d u'):i_ (S1 d u') s:=by
 let nn:∀b,H b=b_->b≠d:=λb n z=>by rw[z,hd]at n;cases n
 let nt:∀b xs,H b=a_ (.tup xs)->b≠d:=λb xs n z=>by rw[z,hd]at n;cases n;show hu
 let no:∀b y,H b=a_ (.own y)->b≠d:=λb xs n z=>by rw[z,hd]at n;cases n;show hu
 let nb:∀b y,H b=a_ (.tbl y)->b≠d:=λb xs n z=>by rw[z,hd]at n;cases n;show hu
 refine⟨I.ok,I.os,I.bare,⟨I.base.keep,I.base.slot,λb o e n hx=>?_,I.base.there,λb xs e=>?_,λb o xs e=>?_,λb ps e=>?_⟩,I.loc,I.cell,?_,λx c e=>?_,λp hp=>?_,λb o e=>?_,I.len⟩
 ·have:=I.base.free b o e n hx;rw[aH<|nn b this];show this
 ·have:=I.base.tups b xs e;rw[aH<|nt b xs this];show this
 ·have:=I.base.frzs b o xs e;let ne:b≠d:=λz=>hz o xs<|z▸e;rw[aH ne];show this
 ·let⟨m,e1⟩:=I.base.tbls b ps e;show⟨m,by rw[aH<|nb b _ e1];show e1⟩
 ·rw[aH<|nn _ I.free];show I.free
 ·have:=I.freeC x c e;rw[aH<|nn _ this];show this
 ·let⟨e,n,r⟩:=I.pin p hp;show⟨e,by rw[aH<|nn _ n];show n,r⟩
 ·by_cases hb:b=d
  ·subst hb;rw[aL]at e;cases e;show new
  ·rw[aH hb]at e;show(I.hok b o e).stay (λc v _ q=>q) (λc q=>by rw[aH<|no c b q];show q) λc xs q=>by rw[aH<|nt c xs q];show q
def Inv.nofrz{d:t_}(I:P1 s)(hd:∀o z,H d≠a_ (.frz o z)):∀o z,X.H₀ d≠a_ (.frz o z):=λo z e=>hd o z<|I.base.frzs d o z e
def Inv.freeze{d:t_}{u:HO}(I:P1 s)(hd:H d=a_ u)(hu:HF u)(hf:∀o z,u≠.frz o z)(ho:s.heap.get? d=a_ oc):i_ (S1 d<|.frz oc u) s:=by
 let nt:∀b xs,H b=a_ (.tup xs)->b≠d:=λb xs n z=>by rw[z,hd]at n;cases n;show hu
 let no:∀b y,H b=a_ (.own y)->b≠d:=λb xs n z=>by rw[z,hd]at n;cases n;show hu
 refine I.swap hd hu (I.nofrz λo z e=>?_) ⟨ho,(I.hok d u hd).stay (λc v _ q=>q) (λc q=>by rw[aH<|no c d q];show q) λc xs q=>by rw[aH<|nt c xs q];show q⟩;rw[hd]at e;show hf o z<|Vq e
def Inv.thaw{d:t_}{u:HO}(I:P1 s)(hd:H d=a_ (.frz oc u))(hz:∀o z,X.H₀ d≠a_ (.frz o z)):i_ (S1 d u) s:=by
 let nt:∀b xs,H b=a_ (.tup xs)->b≠d:=λb xs n z=>by rw[z,hd]at n;cases n
 let no:∀b y,H b=a_ (.own y)->b≠d:=λb xs n z=>by rw[z,hd]at n;cases n
 let⟨_,q⟩:=I.hok d _ hd;show I.swap hd trivial hz (q.stay (λc v _ q=>q) (λc q=>by rw[aH<|no c d q];show q) λc xs q=>by rw[aH<|nt c xs q];show q)
end
abbrev ItI(dc:t_)(oc:Obj)(u:HO)(ks:B_ (V×V)):It:=⟨λi H=>H dc=a_ (.frz oc u)/\i<ks.length,λi H x H'=>∃t kv,H t=b_/\ks[i]?=a_ kv/\x=.ref t/\H'=S1 t (.tup [kv.1,kv.2]),λi H=>H dc=a_ (.frz oc u)/\ks.length<=i⟩
abbrev ItK(dc:t_)(oc:Obj)(u:HO)(ks:B_ V):It:=⟨λi H=>H dc=a_ (.frz oc u)/\i<ks.length,λi H x H'=>H'=H/\ks[i]?=a_ x,λi H=>H dc=a_ (.frz oc u)/\ks.length<=i⟩
variable{elts:B_ z_}{x1:Nat}
def Dr(it dc:t_)(oc:Obj)(u:HO)(es:Array Xs)(ep:Nat)(h2:oc.data=.dict es ep)(ks:B_ (V×V))(hl:ks.length=es.size)(hk:∀(i:Nat)(hi:i<es.size),∃kv,ks[i]?=a_ kv/\RelV kv.1 es[i].key/\RelV kv.2 es[i].val):Turn P w K (.Tuple elts x1 pos) (ItI dc oc u ks) [it] it (λi h=>∃ok ov,IsItemIter h it dc i es.size ep ok ov) where
 mem:=by simp
 obj:=λi h ⟨ok,ov,st⟩ b hb=>by
  let e:b=it:=by simpa using hb
  subst e;show⟨_,st,λv z=>by cases z⟩
 keep:=λi h h' ⟨ok,ov,st⟩ k=>⟨ok,ov,k it (by simp) _ st⟩
 item:=by
  intro X hP hw hK hc i jn s σ H E I hf ⟨ok,ov,st⟩ ⟨hg,hi⟩;subst hP hw hK;let ak:i<es.size:=⋯;let⟨kv,i7,r1,r2⟩:=hk i ak;let⟨f0,f1,f2,f3,f4,f5⟩:=hf it (by simp);let je:Zt 0=a_ oc:=(I.hok dc _ hg).1;refine next_item st je h2 ak λh' out gt kp=>⟨_,rfl,?_⟩;refine wpAny_letOwnedTupleGo_items (s:={s with heap:=h'}) out λka hI same=>?_;let fr:H (e_ s)=b_:=I.hok.fresh<|U1 _;let ne:(e_ s)≠it:=WL<|U8 st;let SN:ka.get? (e_ s)=a_ {cls:=.type "tuple",data:=.seq #[es[i].key,es[i].val]}:=(same.2 _ ne).trans gt;let r8:∀(b:t_)(o:Obj),b≠it->N_ 0=a_ o->ka.get? b=a_ o:=λb o hb e=>(same.2 b hb).trans<|kp b o hb e;let sx:∀b u,H b=a_ u->b≠it:=λb u e z=>by rw[z,f0]at e;cases e
  let o6:∀b u,H b=a_ u->b≠(e_ s):=λb u e z=>by rw[z,fr]at e;cases e
  refine⟨.ref<|e_ s,S1 (e_ s)<|.tup [kv.1,kv.2],?_,rfl,⟨_,kv,fr,i7,rfl,rfl⟩,⟨_,_,hI⟩,λb hb=>?_⟩
  ·refine Inv.step (s:=s) (h':=ka) (H:=H) (g':=s.gens) (d':=s.drawn) (t':=s.toks) (ch:=[it]) I (λb hb=>?_) (λb o _ _ hc e _=>r8 b o (λz=>hc<|by simp[z]) e) (λb o _ _ hc e _=>⟨o.slots,r8 b o (λz=>hc<|by simp[z]) e⟩) (λb o hc e n=>?_)
    (λb o hc e=>⟨o,r8 b o (λz=>hc<|by simp[z]) e⟩) (λb xs e=>by rw[aH<|o6 _ _ e];show e) (λb o u e=>by rw[aH<|o6 _ _ e];show e) (λb ps e=>⟨#[],by rw[aH<|o6 _ _ e,e];simp⟩) (λm hm=>?_) (λb u e=>?_) I.bare
   ·let e:b=it:=by simpa using hb
    subst e;show⟨f3,f1,f4,f5⟩
   ·rw[aH<|Vc<|U8 e];show n
   ·let⟨o,es,ep,ho,r⟩:=hm;show⟨o,es,ep,r8 _ o (Wu f1) ho,r⟩
   ·by_cases hb:b=(e_ s)
    ·subst hb;rw[aL]at e;cases e
     show⟨by change 2<=U9;rw[iD];decide,[es[i].key,es[i].val],.cons r1<|.cons r2 .nil,_,SN,rfl,⟨_,rfl⟩,rfl⟩
    ·rw[aH hb]at e;refine(I.hok b u e).stay (λc v hc q=>r8 c v ?_ q) (λc q=>by rw[aH<|o6 _ _ q];show q) λc xs q=>by rw[aH<|o6 _ _ q];show q
     rcases hc with z|z
     ·rw[z];show sx b u e
     ·show sx c _ z
  ·let e:b=it:=by simpa using hb
   subst e;rw[aH<|Wu ne];show f0
 done:=by intro X hP hw hK hc i jn s σ H E I hf ⟨ok,ov,st⟩ ⟨hg,hi⟩;subst hP hw hK;let⟨f0,f1,f2,f3,f4,f5⟩:=hf it (by simp);let je:Zt 0=a_ oc:=(I.hok dc _ hg).1;show Fe (I.ok.hd hc) st je h2 ⋯ λh' eb=>⟨rfl,I.turned (t':=s.toks) (λb o hb e=>eb b o hb e) f0 f1 f3 f4 f5⟩
 self:=λ_ _ _ _ _ ⟨_,_,st⟩ h=>CP st h
def FO(it dc:t_)(oc:Obj)(u:HO)(es:Array Xs)(ep:Nat)(h2:oc.data=.dict es ep)(ks:B_ V)(hl:ks.length=es.size)(hk:∀(i:Nat)(hi:i<es.size),∃kv,ks[i]?=a_ kv/\RelV kv es[i].key):Turn P w K tg (ItK dc oc u ks) [it] it (λi h=>h.IsKeyIter it dc i es.size ep) where
 mem:=by simp
 obj:=λi h st b hb=>by
  let e:b=it:=by simpa using hb
  subst e;let⟨o,e,c,d⟩:=st;show⟨o,e,λv z=>by rw[d]at z;cases z⟩
 keep:=λi h h' st k=>st.at λo e=>k it (by simp) o e
 item:=by
  intro X hP hw hK hc i jn s σ H E I hf st ⟨hg,hi⟩;subst hP hw hK;let ak:i<es.size:=⋯;let⟨kv,i7,r1⟩:=hk i ak;let⟨f0,f1,f2,f3,f4,f5⟩:=hf it (by simp);let je:Zt 0=a_ oc:=(I.hok dc _ hg).1;refine HC st je h2 ak λh' bw sb=>?_;let I1:P1 {s with heap:=h'}:=I.turned (t':=s.toks) (λb o hb e=>(sb.2 b hb).trans e) f0 f1 f3 f4 f5;let⟨o,e,c,d⟩:=id bw;show⟨_,rfl,B8 (s:={s with heap:=h'}) e c d nofun ⟨kv,H,I1,r1,⟨rfl,i7⟩,bw,λb hb=>(hf b hb).1⟩⟩
 done:=by intro X hP hw hK hc i jn s σ H E I hf st ⟨hg,hi⟩;subst hP hw hK;let⟨f0,f1,f2,f3,f4,f5⟩:=hf it (by simp);let je:Zt 0=a_ oc:=(I.hok dc _ hg).1;show HE (I.ok.hd hc) st je h2 ⋯ λh' eb=>⟨rfl,I.turned (t':=s.toks) (λb o hb e=>eb b o hb e) f0 f1 f3 f4 f5⟩
 self:=λ_ _ _ _ _ st h=>wpAny_pyIter_keyiter st h
abbrev kO:MO->C_ (Y4 0)
 |.dK kvs=>a_ (kvs.map λkv=>.tup [kP kv.1,kv.2])
 |.dD kvs=>a_ (kvs.map λkv=>.tup [kv.1,kv.2])
 |_=>b_
abbrev BW:MO->C_ (Y4 0)
 |.dK kvs=>a_ (kvs.map λkv=>kP kv.1)
 |.dD kvs=>a_ (kvs.map (·.1))
 |_=>b_
abbrev tU:C_ MO->Bool
 |some (.dK _)=>true
 |some (.dD _)=>true
 |_=>false
abbrev wkI(b:Bool)(x:PV)(h:PH):C_ (Nat×MO×Y4 0):=match x with
 |.ref n=>match h[n]? with
  |some (.vw 0 d)=>if b then(h[d]?).bind λo=>(kO o).map λxs=>(d,o,xs) else b_
  |some o=>(BW o).map λxs=>(n,o,xs)
  |none=>b_
 |_=>b_
abbrev mO(b:Bool)(m:Me):Mi:=λδ h=>(m δ h).bind λx h1=>match wkI b x h1 with
 |some (d,o,xs)=>.ok ⟨xs,λ_=>true⟩ (h1.set d<|.fz o)
 |none=>.bad
section
variable{k:Nat}{σ:St}
def Nr{k:Key}{v:s_}(h:uJ k v=true):RelV (kV k) v:=by
 rcases bM h with⟨i,t,rfl,rfl⟩|⟨x,t,rfl,rfl⟩
 ·show⟨t,rfl⟩
 ·show⟨t,rfl⟩
def rT{α β:Type}{F:α->β->Prop}:∀{l:B_ α}{m:B_ β},Paired F l m->∀{i:Nat}{a:α},l[i]?=a_ a->∃b,m[i]?=a_ b/\F a b
 |_,_,.nil,i,a,e=>by simp at e
 |_,_,.cons (a:=x) (b:=y) r t,0,a,e=>by
  have:x=a:=by simpa using e
  subst this;show⟨y,rfl,r⟩
 |_,_,.cons r t,i+1,a,e=>by
  let⟨b,h1,h2⟩:=rT t (i:=i) (a:=a)<|l_ e;show⟨b,l_ h1,h2⟩
def oX{α β:Type}{F:α->β->Prop}:∀{l:B_ α}{m:B_ β},Paired F l m->∀{i:Nat}{b:β},m[i]?=a_ b->∃a,l[i]?=a_ a/\F a b
 |_,_,.nil,i,a,e=>by simp at e
 |_,_,.cons (a:=x) (b:=y) r t,0,b,e=>by
  have:y=b:=by simpa using e
  subst this;show⟨x,rfl,r⟩
 |_,_,.cons r t,i+1,b,e=>by
  let⟨a,h1,h2⟩:=oX t (i:=i) (b:=b)<|l_ e;show⟨a,l_ h1,h2⟩
def Em(a:Key):D_ (kP a) (kV a):=by cases a <;> rfl
def HG{kvs:B_ (Key×PV)}{ks:B_ (Key×V)}(rk:Zh kvs ks):E_ (kvs.map λkv=>kP kv.1) ((ks.map λq=>(kV q.1,q.2)).map (·.1)):=by
 unfold RKv at rk
 induction rk with
 |nil=>trivial
 | @cons p q ps qs e t ih=>exact⟨by change D_ (kP p.1) (kV q.1);rw[e.1];show Em q.1,ih⟩
def HH(rk:q0b 0):E_ (kvs.map (·.1)) ((ks.map λq=>(V.ref q.2.1,q.2.2)).map (·.1)):=by
 unfold RKd at rk
 induction rk with
 |nil=>trivial
 | @cons p q ps qs e t ih=>exact⟨e.2.2.1,ih⟩
structure PY(C:MC)(φ:B_ t_)(H:Hp)(s:td)(b:t_)(o:MO)(ks:B_ (V×V))(u:HO)(oc:Obj)(es:Array Xs)(ep:Nat):Prop where
 at':H b=some u
 nf:HF u
 nz:∀o z,u≠.frz o z
 nt:pW (some u)
 get:s.heap.get? b=some oc
 cls:oc.cls=.type "dict"
 data:oc.data=.dict es ep
 nsys:(b == We)=false
 fz:∀φ' H',φ<+:φ'->H' b=some (.frz oc u)->Kp H H'->RO C φ' H' b (.fz o)
 len:ks.length=es.size
 ent:∀(i:Nat)(hi:i<es.size),∃kv,ks[i]?=some kv/\RelV kv.1 es[i].key/\RelV kv.2 es[i].val
 keys:∀xs,BW o=some xs->RVs C φ H xs (ks.map (·.1))
 items:∀xs,kO o=some xs->xs.length=ks.length/\∀(i:Nat) p,xs[i]?=some p->∃p1 p2 kv,p=.tup [p1,p2]/\ks[i]?=some kv/\RV C φ H p1 kv.1/\RV C φ H p2 kv.2
def HJ{d:Nat}{b:t_}(c:Y2 X)(I:P1 s)(rh:J_ h)(hb:φ[d]?=a_ b)(ho:h[d]?=a_ o)(hd:tU (a_ o)=true):∃ks u oc es ep,PY C φ H s b o ks u oc es ep:=by
 cases o with
 |dK kvs=>
  let⟨ks,hH,rk⟩:=rh.at' d b _ hb ho;let⟨z,hm,vs,rel,dd⟩:=uR I.hok hH;let⟨oc,es,ep,g1,g2,g3,g4,g5,g6⟩:=dd;let l1:ks.length=vs.length:=VU rel;let l2:es.size=vs.length:=by have:=vV g5;have:=congrArg List.length this;simpa using this
  refine⟨ks.map λq=>(kV q.1,q.2),_,oc,es,ep,hH,trivial,(λ_ _ e=>by cases e),trivial,g1,g2.1,g3,hm,λφ' H' p e t=>⟨oc,ks,e,rk.mono p t⟩,by rw[U2,l1,l2],λi hi=>?_,λxs hx=>?_,λxs hx=>?_⟩
  ·let hv:vs[i]?=a_ (vs[i]'⋯):=by simp[show i<vs.length by omega]
   let he:es.toList[i]?=a_ es[i]:=by simp[hi]
   let⟨q1,q2⟩:=g5.get? he hv;let⟨kv,i7,p9⟩:=oX rel hv;refine⟨(kV kv.1,kv.2),by rw[Vf,i7];rfl,?_,?_⟩
   ·change RelV (kV kv.1) es[i].key
    rw[p9.1];show Nr q1
   ·change RelV kv.2 es[i].val
    rw[q2];show p9.2
  ·cases hx
   show HG rk
  ·cases hx
   let lk:kvs.length=ks.length:=VU rk;refine⟨by rw[U2,U2,lk],λi p e=>?_⟩;rw[Vf]at e;let⟨kv,e1,rfl⟩:=Vn.mp e;let⟨q,e2,r2⟩:=rT rk e1;show⟨_,_,(kV q.1,q.2),rfl,by rw[Vf,e2];rfl,by change D_ (kP kv.1) (kV q.1);rw[r2.1];show Em q.1,r2.2⟩
 |dD kvs=>
  let⟨ks,hH,rk⟩:=rh.at' d b _ hb ho;let hO:q0j H s.heap b (dDO C.w b ks):=I.hok b _ hH;let⟨⟨hz,hm,xs,rx,oc,es,ep,g1,g2,g3,g4,g5⟩,_⟩:=hO;let l1:ks.length=xs.length:=VU rx;let l2:es.size=xs.length:=by have:=congrArg List.length g4;simpa using this
  refine⟨ks.map λq=>(V.ref q.2.1,q.2.2),_,oc,es,ep,hH,trivial,(λ_ _ e=>by cases e),trivial,g1,g2.1,g3,hm,λφ' H' p e t=>⟨oc,ks,e,rk.mono p t⟩,by rw[U2,l1,l2],λi hi=>?_,λxs hx=>?_,λxs hx=>?_⟩
  ·let hv:xs[i]?=a_ (xs[i]'⋯):=by simp[show i<xs.length by omega]
   let he:es.toList[i]?=a_ es[i]:=by simp[hi]
   rw[g4,Vf,hv]at he;let jo:=Vq he;let⟨kv,i7,p9⟩:=oX rx hv;refine⟨(V.ref kv.2.1,kv.2.2),by rw[Vf,i7];rfl,?_,?_⟩
   ·change RelV (V.ref kv.2.1) es[i].key
    rw[<-jo,p9.2.1];rfl
   ·change RelV kv.2.2 es[i].val
    rw[<-jo];show p9.2.2
  ·cases hx
   show HH rk
  ·cases hx
   let lk:kvs.length=ks.length:=VU rk;refine⟨by rw[U2,U2,lk],λi p e=>?_⟩;rw[Vf]at e;let⟨kv,e1,rfl⟩:=Vn.mp e;let⟨q,e2,r2⟩:=rT rk e1;show⟨_,_,(V.ref q.2.1,q.2.2),rfl,by rw[Vf,e2];rfl,r2.2.2.1,r2.2.2.2⟩
 |_=>cases hd
def HK(h:BW o=a_ xs):tU (a_ o)=true:=by cases o <;> first|rfl|cases h
def FP(h:kO o=a_ xs):tU (a_ o)=true:=by cases o <;> first|rfl|cases h
set_option tactic.hygienic true in
def Kv{x:PV}{d:Nat}(e:wkI b x h=a_ (d,o,xs)):∃n,x=.ref n/\((h[n]?=a_ (.vw 0 d)/\b=true/\h[d]?=a_ o/\kO o=a_ xs)\/(h[n]?=a_ o/\n=d/\BW o=a_ xs)):=by
 unfold wkI at e;split at e
 ·rename_i n;refine⟨n,rfl,?_⟩;split at e
  ·rename_i d' hv;split at e
   ·rename_i hb;cases e1:h[d']? with
    |none=>rw[e1]at e;cases e
    |some o'=>
     rw[e1]at e;cases e2:kO o' with
     |none=>simp[e2]at e
     |some ys=>simp[e2]at e;let⟨rfl,rfl,rfl⟩:=e;show .inl ⟨hv,hb,e1,e2⟩
   ·cases e
  ·rename_i o' _ hv;cases e2:BW o' with
   |none=>rw[e2]at e;cases e
   |some ys=>rw[e2]at e;simp at e;let⟨rfl,rfl,rfl⟩:=e;show .inr ⟨hv,rfl,e2⟩
  ·cases e
 ·cases e
abbrev walk2(b:Bool)(x:PV)(h1:PH):Rs Wk:=match wkI b x h1 with
 |some (d,o,xs)=>.ok ⟨xs,λ_=>true⟩ (h1.set d<|.fz o)
 |none=>.bad
def Nt(b:Bool)(hb:b=true->∃elts x1 pos,tg=.Tuple elts x1 pos)(h:G_ iter m):SI C k X tg iter (mO b m):=λc=>by
 intro jn s σ H R I q;let⟨φ,δ,hh,rh,re,p⟩:=q;let key:rd C m σ H λv H1=>∃φ1 x h1,φ<+:φ1/\Zx H1/\Zj 0/\RV C φ1 H1 x v/\eM C φ1 H1 (walk2 b x h1) R:=by
  refine⟨φ,δ,hh,rh,re,?_⟩;unfold mO at p;cases e:m δ hh with
  |ok x h1=>
   rw[e]at p;intro φ' v H' p' t' bu az;refine⟨φ',x,h1,p',t',bu,az,?_⟩
   change eM C φ' H' (walk2 b x h1) R
   let p0:eM C φ H (walk2 b x h1) R:=p;cases e2:walk2 b x h1 with
   |ok w h2=>rw[e2]at p0;show λφ2 H2 J p2 t2=>p0 φ2 H2 J (p'.trans p2) (t'.trans t2)
   |exc z h2=>rw[e2]at p0;show λφ2 H2 p2 t2=>p0 φ2 H2 (p'.trans p2) (t'.trans t2)
   |bad=>rw[e2]at p0;show p0
  |exc x h1=>rw[e]at p;show p
  |bad=>rw[e]at p;show p
 refine thn (h c jn s σ H _ I key) λv s1 z9=>?_;let⟨x,H1,I1,r1,φ1,x',h1,p1,t1,aa,ab,q1⟩:=z9;unfold walk2 at q1;cases e:wkI b x' h1 with
 |none=>rw[e]at q1;show q1.elim
 |some t=>
  let⟨d,o,xs⟩:=t;rw[e]at q1;dsimp only at q1;let⟨n,rfl,pw⟩:=Kv e;let⟨a,rfl,ha⟩:=ab;cases r1
  -- the frozen heap
  let fin:∀{bb:t_}{ks:B_ (V×V)}{u:HO}{oc:Obj}{es:Array Xs}{ep:Nat}(m8:φ1[d]?=a_ bb)(W:PY C φ1 H1 s1 bb o ks u oc es ep)(ob:Obj)(J:It)(tn:Nat->w_->Prop),(∀φ2 H2 h2,φ1<+:φ2->Kp (upd H1 bb (.frz oc u)) H2->RH C φ2 H2 h2->∀i:Nat,
    (i<xs.length->J.go i H2/\∀x H',J.yld i H2 x H'->(∃p,xs[i]?=a_ p/\RV C φ2 H' p x)/\Kp H2 H'/\RH C φ2 H' h2)/\(xs.length<=i->J.stop i H2))->
    Turn X.prog X.w X.K tg J [(e_ s1)] (e_ s1) tn->tn 0 (s1.heap.push ob)->PIE X jn σ tg R (.ref<|e_ s1) {s1 with heap:=s1.heap.push ob}:=λ{bb ks u oc es ep} m8 W ob J tn hJ hT h0=>by
   let I2:=I1.freeze W.at' W.nf W.nz W.get;let nt:pW (H1 bb):=by rw[W.at'];show W.nt
   refine⟨(e_ s1),[(e_ s1)],tn,J,upd H1 bb<|.frz oc u,rfl,I2.kept (t':=s1.toks) λb o e=>Zn e,hT,h0,λb hb=>?_,?_⟩
   ·let e:b=(e_ s1):=by simpa using hb
    subst e;show I2.fpOk (U1 _)<|I2.hok.fresh<|U1 _
   ·show q1 φ1 _ J U7 (Kp.upd nt) (aa.write m8 nt<|W.fz φ1 _ U7 aL<|Kp.upd nt) λφ2 H2 h2 p2 t2 ah _ i=>hJ φ2 H2 h2 p2 t2 ah i
  rcases pw with⟨hv,hbt,ho,hx⟩|⟨ho,rfl,hx⟩
  ·let⟨bb,m8,hH⟩:=aa.at' n a _ ha hv;let⟨ks,u,oc,es,ep,W⟩:=HJ c I1 aa m8 ho<|FP hx;let⟨elts,x1,pos,rfl⟩:=hb hbt;let sm:s1.heap.IsItemsView a bb:=(I1.hok a _ hH).1;let⟨lx,ex⟩:=W.items xs hx;refine CO sm W.get W.data<|fin m8 W _ (ItI bb oc u ks) _ (λφ2 H2 h2 p2 t2 ah i=>⟨λhi=>⟨⟨t2.2 _ _ _ aL,⋯⟩,λx H' y=>?_⟩,λhi=>⟨t2.2 _ _ _ aL,⋯⟩⟩) (Dr _ bb oc u es ep W.data ks W.len W.ent) ⟨.none,.none,Za 0⟩;let⟨t,kv,ht,i7,rfl,rfl⟩:=y;let⟨p1,p2',kv',UI,qr,T6,wu⟩:=ex i xs[i] (by simp[hi]);rw[i7]at qr;cases qr
   let nt:pW (H1 bb):=by rw[W.at'];show W.nt
   let T:Kp H1 (upd H2 t<|.tup [kv.1,kv.2]):=(Kp.upd nt).trans<|t2.trans<|Kp.new ht;refine⟨⟨xs[i],by simp[hi],?_⟩,Kp.new ht,ah.aside ht⟩;rw[UI];show⟨t,[kv.1,kv.2],rfl,.inl<|.inl aL,T6.mono p2 T,wu.mono p2 T,trivial⟩
  ·let⟨ks,u,oc,es,ep,W⟩:=HJ c I1 aa ha ho<|HK hx;let rk:=W.keys xs hx;let lx:=rk.length;rw[U2]at lx;refine FN ⟨oc,W.get,W.cls⟩ W.nsys W.get W.data (fin ha W _ (ItK a oc u (ks.map (·.1))) _ (λφ2 H2 h2 p2 t2 ah i=>⟨λhi=>⟨⟨t2.2 _ _ _ aL,by rw[U2];omega⟩,λx H' y=>?_⟩,λhi=>⟨t2.2 _ _ _ aL,by rw[U2];omega⟩⟩) (FO _ a oc u es ep W.data (ks.map (·.1)) (by rw[U2];show W.len) λi hi=>?_) ⟨_,Za 0,rfl,rfl⟩)
   ·let⟨rfl,ey⟩:=y;let nt:pW (H1 a):=by rw[W.at'];show W.nt
    let⟨p,ie,rp⟩:=rk.get ey;show⟨⟨p,ie,rp.mono p2<|(Kp.upd nt).trans t2⟩,Kp.refl _,ah⟩
   ·let⟨kv,i7,r1,_⟩:=W.ent i hi;show⟨kv.1,by rw[Vf,i7];rfl,r1⟩
def RH.writeQ(r:J_ h){u:HO}(e:φ[n]?=a_ a)(t:Kq H (S1 a u))(q:RO C φ (S1 a u) a o):RH C φ (S1 a u) (ZL o):=by
 refine⟨by rw[Wv];show r.len,r.nd,λm b ob h1 h2=>?_⟩;by_cases hm:n=m
 ·subst hm;rw[e]at h1;cases h1;let hl:n<h.length:=by rw[<-r.len];show(SC.mp e).1
  rw[VW hl]at h2;cases h2
  show q
 ·rw[VD hm]at h2;let hb:b≠a:=λz=>by subst z;show hm ((List.getElem?_inj (SC.mp e).1 r.nd).mp<|e.trans h1.symm)
  show(r.at' m b ob h1 h2).stayQ U7 t (aH hb)
abbrev iO(d:Nat)(h:PH):C_ PH:=match h[d]? with
 |some (.fz o)=>a_ (h.set d o)
 |_=>b_
set_option tactic.hygienic true in
def jX{d:Nat}(rh:J_ h)(hd:tU h[d]?=true)(p:φ<+:φ')(t:Zx H')(ah:Zi h2)(e:iO d h2=a_ h3):
  ∃a oc u,H' a=a_ (.frz oc u)/\(∀o z,H a≠a_ (.frz o z))/\Zx (upd H' a u)/\RH C φ' (upd H' a u) h3/\Kq H' (upd H' a u):=by
 unfold iO at e;split at e
 ·rename_i o ho;cases e
  cases e0:h[d]? with
  |none=>rw[e0]at hd;cases hd
  |some o0=>
   rw[e0]at hd;let⟨a,ha,r0⟩:=rh.get e0;let nf:∀o z,H a≠a_ (.frz o z):=λo z q=>by
    cases o0 with
    |dK kvs=>let⟨ks,q2,_⟩:=r0;rw[q]at q2;cases q2
    |dD kvs=>let⟨ks,q2,_⟩:=r0;rw[q]at q2;cases q2
    |_=>cases hd
   let ha':=dU p ha;let r1:=ah.at' d a _ ha' ho;let gen:∀oc u,H' a=a_ (.frz oc u)->(∀xs,u≠.tup xs)->(∀xs,u≠.lst xs)->Zx (upd H' a u)/\Kq H' (upd H' a u):=λoc u q nt nl=>by
    let kq:Kq H' (upd H' a u):=⟨λb xs z=>by
     let ne:b≠a:=by
      rintro rfl;rcases z with z|⟨ob,z⟩
      ·rw[q]at z;cases z
      ·rw[q]at z;cases z;show nt _ rfl
     unfold Rd;rw[aH ne];show z,λb ob xs z=>by
     let ne:b≠a:=by rintro rfl;rw[q]at z;cases z;show nl _ rfl
     rw[aH ne];show z⟩
    refine⟨⟨λb xs z=>kq.1 b xs<|t.1 b xs z,λb ob z q2=>?_⟩,kq⟩;let ne:b≠a:=λz2=>nf ob z<|z2▸q2;rw[aH ne];show t.2 b ob z q2
   cases o with
   |dK kvs=>let⟨oc,ks,q,r⟩:=r1;let⟨k1,k2⟩:=gen oc _ q (λ_ z=>by cases z) (λ_ z=>by cases z);show⟨a,oc,_,q,nf,k1,ah.writeQ ha' k2 ⟨ks,aL,r.monoQ U7 k2⟩,k2⟩
   |dD kvs=>let⟨oc,ks,q,r⟩:=r1;let⟨k1,k2⟩:=gen oc _ q (λ_ z=>by cases z) (λ_ z=>by cases z);show⟨a,oc,_,q,nf,k1,ah.writeQ ha' k2 ⟨ks,aL,r.monoQ U7 k2⟩,k2⟩
   |_=>exact r1.elim
 ·cases e
abbrev wkD(b:Bool)(m:Me)(δ:Ev)(h:PH):C_ Nat:=match m δ h with
 |.ok x h1=>match wkI b x h1 with
  |some (d,_,_)=>if tU h[d]?=true then a_ d else b_
  |none=>b_
 |_=>b_
set_option tactic.hygienic true in
def HL{d:Nat}(e:wkD b m δ h=a_ d):tU h[d]?=true:=by
 unfold wkD at e;split at e
 ·split at e
  ·split at e
   ·rename_i hd;cases e
    show hd
   ·cases e
  ·cases e
 ·cases e
abbrev rU(b:Bool)(m me:Me):Me:=λδ h=>match wkD b m δ h with
 |some d=>(me δ h).bind λp h2=>match iO d h2 with
  |some h3=>.ok p h3
  |none=>.bad
 |none=>.bad
def Nu(b:Bool)(m:Me)(he:G_ e me):G_ e (rU b m me):=λc=>by
 intro jn s σ H Q I q;let⟨φ,δ,h,rh,re,p⟩:=q;unfold rU at p;cases ed:wkD b m δ h with
 |none=>rw[ed]at p;show p.elim
 |some d=>
  rw[ed]at p;dsimp only at p;let hd:=HL ed;refine thn (he c jn s σ H (λv H2=>∃a oc u,H2 a=a_ (.frz oc u)/\(∀o z,H a≠a_ (.frz o z))/\Q v (upd H2 a u)) I ⟨φ,δ,h,rh,re,?_⟩) ?_
  ·cases em:me δ h with
   |bad=>rw[em]at p;show p.elim
   |exc x h2=>rw[em]at p;show p
   |ok p2 h2=>
    rw[em]at p;let p0:P2 (match iO d h2 with|some h3=>.ok p2 h3|none=>.bad) Q:=p
    intro φ' v H' pp tt bu az;cases et:iO d h2 with
    |none=>rw[et]at p0;show p0.elim
    |some h3=>rw[et]at p0;let⟨a,oc,u,q,nf,k1,a7,k2⟩:=jX rh hd pp tt bu et;show⟨a,oc,u,q,nf,p0 φ' v _ pp k1 a7<|az.monoQ U7 k2⟩
  ·rintro v s1 ⟨x,H2,I2,r,a,oc,u,q,nf,hq⟩;show⟨x,_,I2.thaw q<|I.nofrz nf,r,hq⟩
def RE.monoQ{σ:St}(t:Kq H H')(h:Y5 0):RE C φ H' δ σ:=⟨h.1,λi x e=>let ⟨v,q,r⟩:=h.2 i x e;⟨v,q,r.monoQ U7 t⟩⟩
abbrev oE(d:Nat):Fl->Fl
 |.nx δ h=>match iO d h with
  |some h3=>.nx δ h3
  |none=>.bad
 |.rt p h=>match iO d h with
  |some h3=>.rt p h3
  |none=>.bad
 |.bk δ h=>match iO d h with
  |some h3=>.bk δ h3
  |none=>.bad
 |.ct δ h=>match iO d h with
  |some h3=>.ct δ h3
  |none=>.bad
 |.exc x h=>.exc x h
 |.bad=>.bad
abbrev oY(b:Bool)(m:Me)(ms:Ms):Ms:=λδ h=>match wkD b m δ h with
 |some d=>oE d (ms δ h)
 |none=>.bad
abbrev En(H:Hp)(P:Hp->Prop)(H2:Hp):Prop:=∃a oc u,H2 a=a_ (.frz oc u)/\(∀o z,H a≠a_ (.frz o z))/\P (upd H2 a u)
def Nv{ms:Ms}(b:Bool)(m:Me)(he:Zz st ms):Zz st (oY b m ms):=λc=>by
 intro jn s σ H D I q;let⟨φ,δ,h,rh,re,p⟩:=q;unfold oY at p;cases ed:wkD b m δ h with
 |none=>rw[ed]at p;show p.elim
 |some d=>
  rw[ed]at p;dsimp only at p;let hd:=HL ed;refine thn (he c jn s σ H { nx:=λσ=>En H<|D.nx σ,rt:=λv=>En H<|D.rt v,bk:=λσ=>En H<|D.bk σ,ct:=λσ=>En H (D.ct σ)} I ⟨φ,δ,h,rh,re,?_⟩) ?_
  ·cases em:ms δ h with
   |bad=>rw[em]at p;show p.elim
   |exc x h2=>rw[em]at p;show p
   |nx δ2 h2=>
    rw[em]at p;intro φ' v H' pp tt bu az;cases et:iO d h2 with
    |none=>simp only[oE,et]at p;show p.elim
    |some h3=>simp only[oE,et]at p;let⟨a,oc,u,q,nf,k1,a7,k2⟩:=jX rh hd pp tt bu et;show⟨a,oc,u,q,nf,p φ' v _ pp k1 a7<|RE.monoQ k2 az⟩
   |rt x h2=>
    rw[em]at p;intro φ' v H' pp tt bu az;cases et:iO d h2 with
    |none=>simp only[oE,et]at p;show p.elim
    |some h3=>simp only[oE,et]at p;let⟨a,oc,u,q,nf,k1,a7,k2⟩:=jX rh hd pp tt bu et;show⟨a,oc,u,q,nf,p φ' v _ pp k1 a7<|az.monoQ U7 k2⟩
   |bk δ2 h2=>
    rw[em]at p;intro φ' v H' pp tt bu az;cases et:iO d h2 with
    |none=>simp only[oE,et]at p;show p.elim
    |some h3=>simp only[oE,et]at p;let⟨a,oc,u,q,nf,k1,a7,k2⟩:=jX rh hd pp tt bu et;show⟨a,oc,u,q,nf,p φ' v _ pp k1 a7<|RE.monoQ k2 az⟩
   |ct δ2 h2=>
    rw[em]at p;intro φ' v H' pp tt bu az;cases et:iO d h2 with
    |none=>simp only[oE,et]at p;show p.elim
    |some h3=>simp only[oE,et]at p;let⟨a,oc,u,q,nf,k1,a7,k2⟩:=jX rh hd pp tt bu et;show⟨a,oc,u,q,nf,p φ' v _ pp k1 a7<|RE.monoQ k2 az⟩
  ·intro f s1 hf;cases f with
   |next=>let⟨σ',H2,I2,a,oc,u,q,nf,hq⟩:=hf;show⟨σ',_,I2.thaw q<|I.nofrz nf,hq⟩
   |brk=>let⟨σ',H2,I2,a,oc,u,q,nf,hq⟩:=hf;show⟨σ',_,I2.thaw q<|I.nofrz nf,hq⟩
   |cont=>let⟨σ',H2,I2,a,oc,u,q,nf,hq⟩:=hf;show⟨σ',_,I2.thaw q<|I.nofrz nf,hq⟩
   |ret w=>let⟨v,σ',H2,I2,r,a,oc,u,q,nf,hq⟩:=hf;show⟨v,σ',_,I2.thaw q<|I.nofrz nf,r,hq⟩
abbrev dF:PV->Y4 0->PH->Rs PV:=λx ps h=>match x,ps with
 |.ref n,[]=>if tU h[n]?=true then .ok (.ref h.length) (h++[.vw 0 n]) else .bad
 |_,_=>.bad
set_option tactic.hygienic true in
def HM:MtG C k X "dict" bP "dict.items" dF:=λc=>⟨λjn s σ H x xs v us Q I rx rs h=>by
 let⟨φ,h,p,ps,rh,rp,jq,po⟩:=h;unfold dF at po;split at po
 ·rename_i n;split at po
  ·rename_i hd;let⟨a,rfl,ha⟩:=rp;have:xs=[]:=by cases xs <;> first|rfl|exact jq.elim
   subst this;cases rx
   cases rs
   cases ho:h[n]? with
   |none=>rw[ho]at hd;cases hd
   |some o=>
    rw[ho]at hd;let⟨ks,u,oc,es,ep,W⟩:=HJ c I rh ha ho hd;let hT:s.TypeIs (.ref a) "dict" := ⟨oc,W.get,W.cls⟩;refine call_meetsIn PySem.F.slot_dict_items hT PySem.F.entry_dict_items (PySem.F.args_dict_items_1 _) (Bo a W.nsys) ⟨hT,?_⟩;let fr:H (e_ s)=b_:=I.fresh;refine⟨.ref<|e_ s,_,I.laid (t':=s.toks) (o:=Hc 0 (e_ s) a) (λb u e=>Zn e) (U1 _) ?_,rfl,?_⟩
    ·show⟨⟨_,Za 0,rfl,rfl⟩,⟨_,Za 0⟩,λh1 h2 ⟨o,e,p⟩ k=>⟨o,k o e,p⟩⟩
    ·show po (φ++[(e_ s)]) (.ref _) _ (Vv _ _) (Kp.new fr) (rh.new fr ⟨a,dU (Vv _ _) ha,aL⟩) ⟨_,rfl,by rw[<-rh.len];simp⟩
  ·show po.elim
 ·show po.elim,qG c⟩
end
def wG(e:h[n]?=a_ o)(hd:tU (a_ o)=true):dF (.ref n) [] h=.ok (.ref h.length) (h++[.vw 0 n]):=by simp only[dF,e,hd,if_true]
def BX{d:Nat}(e:h[n]?=a_ (.vw 0 d))(e2:h[d]?=a_ o)(hx:kO o=a_ xs):wkI true (.ref n) h=a_ (d,o,xs):=by simp[wkI,e,e2,hx]
def HN{x:PV}{d:Nat}(e:m δ h=.ok x h1)(ew:wkI b x h1=a_ (d,o,xs))(hd:tU h[d]?=true):wkD b m δ h=a_ d:=by simp[wkD,e,ew,hd]
def BY{x:PV}{d:Nat}(e:m δ h=.ok x h1)(ew:wkI b x h1=a_ (d,o,xs)):mO b m δ h=.ok ⟨xs,λ_=>true⟩ (h1.set d<|.fz o):=by simp[mO,e,ew]
def BZ{d:Nat}{l:B_ MO}(e:h1[d]?=a_ o):iO d (h1.set d (.fz o)++l)=a_ (h1++l):=by
 let hl:d<h1.length:=(SC.mp e).1;let e1:(h1.set d (.fz o)++l)[d]?=a_ (.fz o):=by rw[VR (by rw[Wv];show hl),VW hl]
 unfold iO;rw[e1];dsimp only;congr 1;rw[List.set_append_left _ _ (by rw[Wv];show hl),List.set_set];congr 1;apply Wo;intro i;by_cases hi:d=i
 ·subst hi;rw[VW hl,e]
 ·rw[VD hi]
def FQ{α:Type}{x:PV}{d:Nat}{tg:Mg}{ys:B_ α}{emb:α->PV}(f:α->C_ PV)(e:m δ h=.ok x h1)(ew:wkI b x h1=a_ (d,o,ys.map emb))(hd:tU h[d]?=true)(ho:h1[d]?=a_ o)(hz:ys.length<=16777216)(step:∀y∈ys,∃δ1,tg (emb y) (cQ js δ)=a_ δ1/\∀h,match f y with
   |none=>tst δ1 h=.ok false h
   |some p=>tst δ1 h=.ok true h/\elt δ1 h=.ok p h):rU b m (aW js (mO b m) tg tst elt) δ h=.ok (.ref h1.length) (h1++[.lst (ys.filterMap f)]):=by
 let hc:=jV (js:=js) (tg:=tg) (tst:=tst) (elt:=elt) (δ:=δ) (h:=h) (g:=λ_=>true) f (BY e ew) (λ_ _=>rfl) hz λy hy=>let ⟨δ1,a,b⟩:=step y hy;⟨δ1,a,λh _=>b h⟩;unfold rU;rw[HN e ew hd];dsimp only;rw[hc,Rs.bind_ok,BZ ho];rw[Wv]
def AE{α:Type}{x:PV}{d:Nat}{tg:Mg}{ys:B_ α}{emb:α->PV}(f:α->C_ PV)(e:m δ h=.ok x h1)(ew:wkI b x h1=a_ (d,o,ys.map emb))(hd:tU h[d]?=true)(ho:h1[d]?=a_ o)(hz:ys.length<=16777216)(step:∀y∈ys,∃δ1,tg (emb y) (cQ js δ)=a_ δ1/\∀h,match f y with
   |none=>tst δ1 h=.ok false h
   |some p=>tst δ1 h=.ok true h/\elt δ1 h=.ok p h):oY b m (aP i (aW js (mO b m) tg tst elt)) δ h=.nx (δ.set i (c_ h1.length)) (h1++[.lst (ys.filterMap f)]):=by
 let hc:=jV (js:=js) (tg:=tg) (tst:=tst) (elt:=elt) (δ:=δ) (h:=h) (g:=λ_=>true) f (BY e ew) (λ_ _=>rfl) hz λy hy=>let ⟨δ1,a,b⟩:=step y hy;⟨δ1,a,λh _=>b h⟩;unfold oY;rw[HN e ew hd];dsimp only;let hs:aP i (aW js (mO b m) tg tst elt) δ h=.nx (δ.set i<|c_ h1.length) (h1.set d (.fz o)++[.lst<|ys.filterMap f]):=by unfold aP;rw[hc,Wv];rfl
 rw[hs];simp only[oE,BZ ho]
open PySem.SeqAt
section
variable{σ:St}
def wH(I:P1 s):∀{ds es:B_ D}{vs:B_ V},YX 0<=40->dJ X.K H ds vs->dJ X.K H es vs->ds=es
 |[],[],[],_,_,_=>rfl
 |d::ds,e::es,v::vs,h,⟨a,b⟩,⟨a',b'⟩=>by
  let hh:D.depths (d::ds)=max d.depth (YX 0):=by simp[D.depths]
  let h1:d.depth<=40:=⋯;let h2:YX 0<=40:=⋯;rw[nH I 40 d e v h1 a a',wH I h2 b b']
 |[],_::_,vs,_,h,h'=>by
  cases vs with
  |nil=>exact h'.elim
  |cons _ _=>exact h.elim
 |_::_,[],vs,_,h,h'=>by
  cases vs with
  |nil=>exact h.elim
  |cons _ _=>exact h'.elim
def Rt(I:P1 s){ds es:B_ D}{x:V}{v:s_}(hd:YX 0<=40)(hu:A.units+42<cLine)(hx:F8 X.K H ds x)(hy:F8 X.K H es y)(rx:ZF v)(ry:RelV y u):EqAt A s v u (iB ds es):=by
 let⟨a,vs,rfl,q,r⟩:=hx;let⟨b,jf,rfl,q',r'⟩:=hy;cases rx;cases ry;refine fE (λprog w E Q hq=>?_) (λe=>?_) (λf t z=>by cases z)
 ·let⟨its,rv,p,_⟩:=I.list q;let⟨its',az,p',_⟩:=I.list q';let l1:=r.length;let l2:=r'.length;let l3:=rv.length;let l4:=az.length;by_cases hl:ds.length=es.length
  ·refine eq_listAt p.isList p'.isList (by simp;omega) ⋯ (uX (I:=I) r r' rv az hd ⋯) ?_;let e1:its.toArray.size=ds.length:=by simp;omega
   rw[e1,zB hl];show hq
  ·refine eq_list_lengthsAt p.isList p'.isList (by simp;omega) ⋯ ?_;let e:iB ds es=false:=by
    cases h:iB ds es with
    |false=>rfl
    |true=>exact absurd (Bl h) hl
   rw[e]at hq;show hq
 ·cases e
  let ev:=I.list_inj q q';subst ev;let e2:=wH I hd r r';subst e2;have:=jS<|.tup ds;simpa[eqD] using this
end
open PySem.SeqAt PySem.W
abbrev hdk:PV->C_ Nat
 |.tup (.int _::_)=>a_ 0
 |.tup (.str _::_)=>a_ 1
 |.tup (.tup _::_)=>a_ 2
 |_=>b_
def Inv.drn{σ:St}(I:P1 s)(d:Drawn):P1 { s with drawn:=d}:=⟨I.ok,I.os,I.bare,I.base,I.loc,I.cell,I.free,I.freeC,I.pin,I.hok,I.len⟩
abbrev HP(w:x_)(a:t_)(ks:Z8 0):HO:=.ext λh=>iW w h a ks
abbrev ddI(ns:Z8 0):Z8 0:=ns.foldl step_dedup []
abbrev sortI(ns:Z8 0):Z8 0:=ns.mergeSort<|λa b=>decide (a<=b)
def C0(ns:Z8 0):firstMet (λi=>ns.getD i 0) ns.length=ddI ns:=by
 unfold firstMet ddI;congr 1;apply Yy
 ·simp
 ·intro i h1 h2;simp at h1;simp[h1]
def HQ:∀(ns acc:Z8 0),(ns.foldl step_dedup acc).length<=acc.length+ns.length
 |[],acc=>by simp
 |n::ns,acc=>by refine VO (HQ ns _) ?_;unfold step_dedup;split <;> simp <;> omega
def Kw(ns:Z8 0):(ddI ns).length<=ns.length:=by have:=HQ ns [];simpa[ddI] using this
def sortI_perm(ns:Z8 0):(sortI ns).Perm ns:=List.mergeSort_perm ..
def HU(ns:Z8 0):(sortI ns).Pairwise (·<=·):=by have:=List.pairwise_mergeSort (le:=λa b:Int=>decide (a<=b)) (λa b c h1 h2=>by simp at *;omega) (λa b=>by simp;omega) ns;show this.imp (λh=>by simpa using h)
def C1:∀{l m:Z8 0},l.Perm m->l.Pairwise (·<=·)->m.Pairwise (·<=·)->l=m
 |[],m,p,_,_=>by simpa using p.symm.eq_nil
 |x::l,m,p,h1,h2=>by
  cases m with
  |nil=>simpa using p.eq_nil
  |cons y m=>
   let hx:x=y:=by
    let a1:=(Vp.mp h1).1;let a2:=(Vp.mp h2).1;let m1:=p.mem_iff.mp<|UV (a:=x) (l:=l);let m2:=p.mem_iff.mpr<|UV (a:=y) (l:=m);rcases U5.mp m1 with e|e
    ·show e
    ·rcases U5.mp m2 with e2|e2
     ·show e2.symm
     ·have:=a2 _ e;have:=a1 _ e2;omega
   subst hx;rw[C1 (p.cons_inv) (Vp.mp h1).2 (Vp.mp h2).2]
def FS{vs:ZM 0}(h:IntsAre vs ns)(h0:0<vs.length):keyKind' vs.toArray=pure oneType':=by
 cases h with
 |nil=>simp at h0
 |cons n t r=>
  cases r with
  |nil=>
   rw[keyKind'_eq,List.mapM_toArray,mapM_first_ints<|.cons n t .nil];simp only[map_pure,pure_bind];rw[if_neg<|by simp,if_neg<|by simp,oneTypeOnly'_eq];simp;rw[show typeOf (Wg n t)=pure (WO "int") from rfl]
   simp
  |cons m u r=>exact keyKind_ints<|.cons n t<|.cons m u r
def tF{vs:ZM 0}(h:IntsAre vs ns):vs.length=ns.length/\∀i,i<vs.length->∃t,Zk 0=Wg (ns.getD i 0) t:=by
 induction h with
 |nil=>exact⟨rfl,λi h=>by simp at h⟩
 |cons n t r ih=>
  refine⟨by simp[ih.1],λi h=>?_⟩;cases i with
  |zero=>exact⟨t,rfl⟩
  |succ i=>simpa using ih.2 i (l_ h)
def qL{vs:ZM 0}{ns:Z8 0}(h:IntsAre vs ns):∀{q:B_ Nat},(∀i∈q,i<vs.length)->aK ((q.map λi=>ns.getD i 0).map V.int) (q.map λi=>Zk 0)
 |[],_=>.nil
 |i::q,hq=>by let⟨t,e⟩:=(tF h).2 i<|hq i UV;simp only[Vd,e];show .cons ⟨t,rfl⟩<|qL h λj hj=>hq j (U4 _ hj)
def C2{ks:Z8 0}{R:ZM 0->td->Prop}(hh:A.handled=b_)(hS:iW w s.heap a ks)(hz:ks.length<=U9)
  (h:∀h' d tk vs ms,(∀b o,N_ 0=a_ o->Ze 0=a_ o)->IntsAre vs ms->ms.Perm ks->R vs {s with heap:=h',drawn:=d,toks:=tk}):r_ (collect<|.ref a) R E s:=by
 let⟨o,es,ep,t,ho,hx,hd,ht,hf,nu,hp⟩:=hS
 have hlen:es.size=ks.length:=by have:=hp.length_eq;simpa using this
 unfold collect
 refine SB<|wpAny_runValue<|Xk PyProof.Rows.entry_proto_collect' ?_
 rw[WK F.plain_proto_collect]
 refine(show u_ (newObj _ _ >>= _) _ _ _ from SB (Vk<|SL ⟨X4 F.plain_list_iadd _,Xk PyProof.Rows.entry_list_iadd' ?_⟩))
 rw[WK F.plain_list_iadd]
 have US:(s.heap.push {cls:=.type "list",data:=.seq #[]}).get? (e_ s)=a_ {cls:=.type "list",data:=.seq #[]}:=U3 s.heap rfl
 have dv:(s.heap.push {cls:=.type "list",data:=.seq #[]}).get? a=a_ o:=Zn ho
 refine(show u_ (VY (.ref<|e_ s) (.ref a)<|.ref<|e_ s) _ _ _ from ?_)
 refine CU (R:=λr s'=>match r with|.ok (.ret v)=>r_ (match v with|Vt a=>(do let o <-load a;match o.data with|Data.seq xs epoch=>pure xs.toList|x=>unsupported "internal:collect")|x=>unsupported "internal:collect") R E s'|.ok _=>False|.error e=>E e s') (s:={s with heap:=s.heap.push {cls:=.type "list",data:=.seq #[]} }) hh dv hx hd ht hf ⋯ (e_ s) (WL<|U8 ho) _ 0 US λh' d tk acc c' kp jy pe=>?_
 refine(show u_ (load (e_ s) >>= _) _ _ _ from SB (wpAny_load jy<|SL ?_))
 have all:∀(l:ZM 0),(∀v∈l,∃k tk,v=Wg k tk)->∃ms,IntsAre l ms/\ms=l.map λv=>vH (0,v):=by
  intro l
  induction l with
  |nil=>intro _;exact⟨[],.nil,rfl⟩
  |cons v l ih=>
   intro hv
   let⟨k,tk,rfl⟩:=hv v UV
   let⟨ms,i,e⟩:=ih λv h=>hv v<|U4 _ h
   exact⟨k::ms,.cons k tk i,by rw[e];rfl⟩
 let⟨ms,i,e⟩:=all acc.toList λv hv=>by
  let⟨x,hx,rfl⟩:=Vl.mp<|pe.mem_iff.mp hv
  let⟨k,tk,rfl⟩:=nu x hx
  exact⟨k,tk,rfl⟩
 refine h h' d tk acc.toList ms (λb o e=>kp b o (Vc<|U8 e)<|Zn e) i ?_
 rw[e]
 refine(pe.map _).trans ?_
 rw[VF]
 exact(show es.toList.map (λx=>vH (0,x.2))=es.toList.map vH from Wj λx _=>rfl)▸hp
section
variable{k:Nat}
def FT(hc:X.calm=true):cS X (.type "set") (λxs H Q=>∃l ns,xs=[.ref l]/\SqL X.K H l (ZO 0)/\ns.length<64/\∀a,H a=b_->Q (.ref a) (S1 a<|HP X.w a<|ddI ns)):=by
 intro jn s σ H xs us Q I r h;let⟨l,ns,rfl,hq,dj,q⟩:=h;let⟨u,rfl,ru⟩:=vals1 r;cases ru
 let⟨its,rv,pl,hz⟩:=I.list hq;let hlen:=rv.length;rw[U2]at hlen;refine Fi (I.ok.hd hc) pl.isList (ns:=ns) (by simpa using intsAre_of rv) (by simp[scanBound];omega) λh' tk hS kp=>?_
 let hn:(Xu its).size=ns.length:=by simpa using hlen.symm
 rw[hn,C0]at hS;have:∃o,h'.get? (e_ s)=a_ o:=let ⟨o,_,_,_,e,_⟩:=hS;⟨o,e⟩;show⟨.ref<|e_ s,_,I.laid (t':=tk) (o:=HP X.w (e_ s)<|ddI ns) kp (U1 _) ⟨hS,this,λh1 h2 p k=>iW.kept p k⟩,rfl,q _ I.fresh⟩
def Ds(hc:X.calm=true):cS X (.builtin "sorted") (λxs H Q=>∃a ks,xs=[.ref a]/\H a=a_ (HP X.w a ks)/\ks.length<64/\∀l,H l=b_->Q (.ref l) (S1 l<|.lst<|(sortI ks).map V.int)):=by
 intro jn s σ H xs us Q I r h;let⟨a,ks,rfl,hH,dj,q⟩:=h;let⟨u,rfl,ru⟩:=vals1 r;cases ru
 let hS:iW X.w s.heap a ks:=(I.hok a _ hH).1;refine zG (κ:=oneType') (λits s1=>∃ms,P1 s1/\IntsAre its ms/\ms.Perm ks) (C2 (I.ok.hd hc) hS (by rw[VN];omega) λh' d tk vs ms kp i pe=>⟨ms,(I.drn d).kept (t':=tk) kp,i,pe⟩) ?_;rintro its s1 ⟨ms,I1,i,pe⟩;let⟨l1,g⟩:=tF i;let l2:=pe.length_eq;refine⟨⋯,λi j=>decide (ms.getD i 0<ms.getD j 0),λi j k hi hj hk h1 h2=>by simp only[decide_eq_false_iff_not] at *;omega,λi j _ _ h=>by simp only[decide_eq_true_eq,decide_eq_false_iff_not] at *;omega,λA' s' kp h0 Q' E' hq=>?_,λs' kp i j hi hj Q' hq=>?_,λp h' e a1 a2 kp he=>?_⟩
 ·rw[FS i h0];show SL hq
 ·let⟨t,e1⟩:=g i hi;let⟨u,e2⟩:=g j hj;rw[e1,e2];show W.kat_lt_int hq
 ·let cy:∀i∈p,i<its.length:=λi hi=>by
   have:=a1.mem_iff.mp hi
   rwa[Xd]at this
  let hz:(p.map λi=>ms.getD i 0)=sortI ks:=by
   refine C1 ?_ ?_<|HU ks
   ·refine List.Perm.trans ?_ (sortI_perm ks).symm;refine List.Perm.trans ?_ pe;refine(a1.map _).trans ?_;have:(Vi its.length).map (λi=>ms.getD i 0)=ms:=by
     apply Yy
     ·simp[l1]
     ·intro i h1 h2;simp at h1;simp[h2]
    rw[this]
   ·rw[VZ];refine a2.imp λh=>?_;simp only[decide_eq_false_iff_not]at h;omega
  let rv:=qL i cy;rw[hz]at rv;refine⟨.ref<|e_ s1,_,I1.laid (t':=s1.toks) (o:=.lst<|(sortI ks).map V.int) kp (U1 _) ⟨?_,_,e,rv,he⟩,rfl,q _ I1.fresh⟩;rw[U2,(sortI_perm ks).length_eq,VN];omega
abbrev gG:PV->PH->Rs PV:=λx h=>match x with
 |.ref n=>match aM h n with
  |some ys=>match vR ys with
   |some ns=>if ns.length<64 then .ok (.ref h.length) (h++[.lst<|(sortI<|ddI ns).map PV.int]) else .bad
   |none=>.bad
  |none=>.bad
 |_=>.bad
def C3{φ:B_ t_}{H:Hp}:∀(ns:Z8 0),E_ (Zv 0) (ZO 0)
 |[]=>trivial
 |_::ns=>⟨rfl,C3 ns⟩
set_option tactic.hygienic true in
def FU{p:Pos}(he:G_ e me)(hb:("sorted" : Str)∈C.bs)(oj:("set" : Str)∈C.bs)(hg:Gl X "sorted" := by rfl)(SS:Gl X "set" := by rfl)(RR:Vg [e] X.env=(false,U_ 0)::Vg [] X.env:=by rfl)(y0:(backTo cf<|Vg [] X.env).any (·.1)=false:=by rfl)(fj:Vg [.Call (.Name "set" p2) [e] [] cf] X.env=(false,eval (.Call (.Name "set" p2) [e] [] cf) X.env)::Vg [] X.env:=by rfl)(qm:(YZ<|Vg [] X.env).any (·.1)=false:=by rfl):
  G_ (.Call (.Name "sorted" p) [.Call (.Name "set" p2) [e] [] cf] [] pos) (mUn gG me):=λc=>
 (Be (Ds c.calm) hg (c.bn _ hb) PyProof.Rows.Boot.«sorted» (nE (yP (FT c.calm) SS (c.bn _ oj) PyProof.Rows.Boot.«set» (nE (he c) qW RR) nofun nofun RR y0) qW fj) nofun nofun fj qm).imp λσ H Q h=>by
  let⟨φ,δ,h,rh,re,p⟩:=h;refine⟨φ,δ,h,rh,re,(post.bind p).imp ?_⟩;rintro v H1 ⟨φ1,x,h1,p1,t1,aa,ab,q1⟩;unfold gG at q1;split at q1
  ·rename_i n;let⟨a,rfl,ha⟩:=ab;split at q1
   ·rename_i ys ey;split at q1
    ·rename_i ns en;let⟨dj,q1⟩:=q1.ite;let⟨a',vs,ha',sq,ip⟩:=bK aa ey;rw[ha]at ha';cases ha'
     rw[Av ip en]at sq;refine⟨a,ns,rfl,by rw[c.K];show sq,dj,λb hb=>?_⟩;refine⟨b,ddI ns,rfl,aL,Nat.lt_of_le_of_lt (Kw ns) dj,λl hl=>?_⟩;let hK:Kp H1 (upd H1 b<|HP X.w b<|ddI ns):=Kp.new hb;let q2:post C φ1 (upd H1 b<|HP X.w b<|ddI ns) (.ok (.ref h1.length)<|h1++[.lst<|(sortI<|ddI ns).map PV.int]) Q:=λφ' v H' p t rh rv=>q1 φ' v H' p (hK.trans t) rh rv;show q2.lnew (aa.same<|CF.upd hb) (C3 _) hl
    ·show q1.elim
   ·show q1.elim
  ·show q1.elim
end
open PySem.SeqAt
abbrev eqL(f:PV->PV->C_ Bool):Y4 0->Y4 0->C_ Bool
 |x::xs,y::ys=>match f x y,eqL f xs ys with
  |some b,a_ c=>a_ (b&&c)
  |_,_=>b_
 |[],[]=>a_ true
 |_,_=>a_ false
set_option tactic.hygienic true in
def HV{f:PV->PV->C_ Bool}:∀{xs ys:Y4 0}{b:Bool},eqL f xs ys=a_ b->
  ∃g:Nat->Bool,(∀(j:Nat)(x y:PV),xs[j]?=a_ x->ys[j]?=a_ y->f x y=a_ (g j))/\b=((Vi<|min xs.length ys.length).all g&&xs.length == ys.length)
 |[],[],b,e=>⟨λ_=>true,λj x y h=>(by simp at h),by cases e;rfl⟩
 |[],y::ys,b,e=>⟨λ_=>true,λj x y h=>(by simp at h),by cases e;simp⟩
 |x::xs,[],b,e=>⟨λ_=>true,λj x y _ h=>(by simp at h),by cases e;simp⟩
 |x::xs,y::ys,b,e=>by
  unfold eqL at e;split at e
  ·rename_i b' c e1 e2;cases e
   let⟨g,h1,h2⟩:=HV e2;refine⟨λj=>match j with|0=>b'|j+1=>g j,λj x y hx hy=>?_,?_⟩
   ·cases j with
    |zero=>simp at hx hy;subst hx hy;show e1
    |succ j=>exact h1 j x y (l_ hx)<|l_ hy
   ·rw[h2];let e3:min (x::xs).length (y::ys).length=min xs.length ys.length+1:=by simp only[VI];omega
    rw[e3,Yb,Ym,List.all_map,Bool.and_assoc];simp[Yq]
  ·cases e
set_option tactic.hygienic true in
def AF{f:PV->PV->C_ Bool}{R:PV->V->Prop}(hf:∀x y v b,f x y=a_ b->R x v->R y v->b=true):∀{xs ys:Y4 0}{vs:B_ V}{b:Bool},(∀(j:Nat)(x:PV),xs[j]?=a_ x->∃v,vs[j]?=a_ v/\R x v)->(∀(j:Nat)(x:PV),ys[j]?=a_ x->∃v,vs[j]?=a_ v/\R x v)->xs.length=ys.length->eqL f xs ys=a_ b->b=true
 |[],[],_,b,_,_,_,e=>by cases e;rfl
 |[],_::_,_,_,_,_,h,_=>by simp at h
 |_::_,[],_,_,_,_,h,_=>by simp at h
 |x::xs,y::ys,vs,b,h1,h2,h,e=>by
  unfold eqL at e;split at e
  ·rename_i b' c e1 e2;cases e
   let⟨v,hv,rx⟩:=h1 0 x rfl;let⟨v',oz,ry⟩:=h2 0 y rfl;rw[hv]at oz;cases oz
   rw[hf x y v b' e1 rx ry,AF hf (vs:=vs.tail) (λj z hz=>by simpa using h1 (j+1) z hz) (λj z hz=>by simpa using h2 (j+1) z hz) (l_ h) e2]
   rfl
  ·cases e
abbrev eqF:Nat->PV->PV->PH->C_ Bool
 |0,x,y,h=>iI x y h
 |n+1,x,y,h=>match iI x y h with
  |some b=>a_ b
  |none=>match x,y with
   |.tup xs,.tup ys=>eqL (λa b=>eqF n a b h) xs ys
   |x,y=>match dM x h,dM y h with
    |some xs,a_ ys=>eqL (λa b=>eqF n a b h) xs ys
    |_,_=>b_
abbrev FV:PV->PV->PH->Rs PV:=λx y h=>ofB (eqF 3 x y h) h
section
variable{k:Nat}{σ:St}
def oZ:∀{xs:Y4 0}{vs:B_ V},ZR 0->xs.length=vs.length/\∀(j:Nat)(x:PV),xs[j]?=a_ x->∃v,vs[j]?=a_ v/\D_ x v
 |[],[],_=>⟨rfl,λj x h=>by simp at h⟩
 |x::xs,v::vs,r=>by
  let⟨l,q⟩:=oZ r.2;refine⟨by simp[l],λj y hy=>?_⟩;cases j with
  |zero=>simp at hy;subst hy;show⟨v,rfl,r.1⟩
  |succ j=>simpa using q j y (l_ hy)
 |[],_::_,r=>r.elim
 |_::_,[],r=>r.elim
def zX(I:P1 s)(hK:X.K=C.K)(rh:J_ h){x y:PV}{w:V}(e:iI x y h=a_ b)(rx:D_ x w)(ry:D_ y w):b=true:=by
 rcases oK rh rx ry e with⟨d,e',q1,q2,q3,rfl⟩|⟨d,e',⟨a,vs,hw,sa,ra⟩,⟨a',us,hw',gv,ra'⟩,q3,rfl⟩
 ·rw[<-hK]at q1 q2;rw[nH I 40 d e' w q3 q1 q2];show jS _
 ·rw[<-hK]at sa gv ra ra';subst hw;cases hw'
  let ev:=I.list_inj sa gv;subst ev;let e2:=wH I q3 ra ra';subst e2;have:=jS<|.tup d;simpa[eqD] using this
set_option tactic.hygienic true in
def HW(I:P1 s)(hK:X.K=C.K)(rh:J_ h):∀(n:Nat)(x y:PV)(w:V)(b:Bool),eqF n x y h=a_ b->D_ x w->D_ y w->b=true:=by
 intro n
 induction n with
 |zero=>intro x y w b e rx ry;show zX I hK rh e rx ry
 |succ n ih=>
  intro x y w b e rx ry;unfold eqF at e;split at e
  ·rename_i b' e2;cases e
   show zX I hK rh e2 rx ry
  ·split at e
   ·rename_i xs ys _;let⟨a,vs,rfl,q,r⟩:=rx;let⟨a',us,hw,q',r'⟩:=ry;cases hw
    rw[<-hK]at q q';let ev:=I.tuple_inj q q';subst ev;let⟨l1,a1⟩:=oZ r;let⟨l2,a2⟩:=oZ r';show AF (R:=RV C φ H) (λx y v b=>ih x y v b) a1 a2 ⋯ e
   ·split at e
    ·rename_i xs ys h1 h2;let⟨a,vs,rfl,sa,ra⟩:=fW rh rx h1;let⟨a',us,hw,sb,rb⟩:=fW rh ry h2;cases hw
     rw[<-hK]at sa sb;let ev:=I.list_inj sa sb;subst ev;let⟨l1,a1⟩:=oZ ra;let⟨l2,a2⟩:=oZ rb;show AF (R:=RV C φ H) (λx y v b=>ih x y v b) a1 a2 ⋯ e
    ·cases e
def C4(hn:∀(A:v_)(x y:PV)(v u:V)(i j:s_)(b:Bool),A.units+42+n<cLine->eqF n x y h=a_ b->D_ x v->D_ y u->ZG i->RelV u j->EqAt A s i j b){us:B_ V}{is js:ZM 0}(hu:A.units+42+n<cLine)(e:eqL (λa b=>eqF n a b h) xs ys=a_ b)(r:ZR 0)(r':E_ ys us)(rv:aK vs is)(c5:aK us js):
  ∃g:Nat->Bool,is.toArray.size=xs.length/\js.toArray.size=ys.length/\(∀(j:Nat)(h1:j<is.toArray.size)(h2:j<js.toArray.size),EqAt A s is.toArray[j] js.toArray[j]<|g j)/\b=((Vi<|min is.toArray.size js.toArray.size).all g&&is.toArray.size == js.toArray.size):=by
 let⟨g,hg,hb⟩:=HV e;let⟨l1,a1⟩:=oZ r;let⟨l2,a2⟩:=oZ r';let l3:=rv.length;let l4:=c5.length;let z1:is.toArray.size=xs.length:=by simp;omega
 let z2:js.toArray.size=ys.length:=by simp;omega
 refine⟨g,z1,z2,λj h1 h2=>?_,by rw[z1,z2];show hb⟩;let k1:j<xs.length:=⋯;let k2:j<ys.length:=⋯;let⟨v,hv,q1⟩:=a1 j xs[j]<|VH k1;let⟨u,yj,q2⟩:=a2 j ys[j]<|VH k2;let⟨i,hi,q3⟩:=rv.get hv;let⟨i',ak,q4⟩:=c5.get yj;let e1:is.toArray[j]=i:=by have:=(SC.mp hi).2;simpa using this
 let e2:js.toArray[j]=i':=by have:=(SC.mp ak).2;simpa using this
 rw[e1,e2];show hn A _ _ v u i i' (g j) hu (hg j _ _ (VH k1)<|VH k2) q1 q2 q3 q4
set_option tactic.hygienic true in
def Dt(I:P1 s)(hK:X.K=C.K)(rh:J_ h)(n:Nat)(hn:∀(A:v_)(x y:PV)(v u:V)(i j:s_)(b:Bool),A.units+42+n<cLine->eqF n x y h=a_ b->D_ x v->D_ y u->ZG i->RelV u j->EqAt A s i j b)
  (A:v_) (x y:PV) (v u:V) (i j:s_) (b:Bool) (hu:A.units+43+n<cLine) (e2:iI x y h=b_) (e:eqF (n+1) x y h=a_ b) (rx:D_ x v) (ry:D_ y u) (r1:ZG i) (r2:RelV u j):
  RcAt A s i j b/\RcNeAt A s i j (!b)/\∃a a',i=.ref a/\j=.ref a'/\v=.ref a/\u=.ref a':=by
 unfold eqF at e;rw[e2]at e;simp only at e;split at e
 ·rename_i xs ys;let⟨a,vs,rfl,q,r⟩:=rx;let⟨a',us,rfl,q',r'⟩:=ry;cases r1;cases r2;rw[<-hK]at q q';let⟨its,rv,p,_⟩:=I.tuple q;let⟨its',az,p',_⟩:=I.tuple q';let⟨g,z1,z2,el,hb⟩:=C4 hn (A:=A.in1) (by change A.units+1+42+n<cLine;omega) e r r' rv az;rw[hb];show⟨RcAt.tuples p p' ⋯ el,RcNeAt.tuples p p' ⋯ el,a,a',rfl,rfl,rfl,rfl⟩
 ·split at e
  ·rename_i xs ys h1 h2;let⟨a,vs,rfl,sa,ra⟩:=fW rh rx h1;let⟨a',us,rfl,sb,rb⟩:=fW rh ry h2;cases r1;cases r2;rw[<-hK]at sa sb;let⟨its,rv,p,_⟩:=I.list sa;let⟨its',az,p',_⟩:=I.list sb;let⟨g,z1,z2,el,hb⟩:=C4 hn (A:=A.in1) (by change A.units+1+42+n<cLine;omega) e ra rb rv az;refine⟨?_,?_,a,a',rfl,rfl,rfl,rfl⟩
   all_goals by_cases hl:its.toArray.size=its'.toArray.size
   all_goals first
    |rw[hb,<-hl,Nat.min_self,beq_self_eq_true,Bool.and_true]
    |rw[hb,beq_eq_false_iff_ne.mpr hl,Bool.and_false]
   ·intro prog w E Q hq;show eq_listAt p.isList p'.isList hl ⋯ el hq
   ·intro prog w E Q hq;show eq_list_lengthsAt p.isList p'.isList (l_ hl) ⋯ hq
   ·show RcNeAt.lists p.isList p'.isList hl ⋯ el
   ·show RcNeAt.lists_lengths p.isList p'.isList (l_ hl) ⋯
  ·cases e
def HX(I:P1 s)(hK:X.K=C.K)(rh:J_ h):∀(n:Nat)(A:v_)(x y:PV)(v u:V)(i j:s_)(b:Bool),A.units+42+n<cLine->eqF n x y h=a_ b->D_ x v->D_ y u->ZG i->RelV u j->EqAt A s i j b:=by
 let base:∀(A:v_)(x y:PV)(v u:V)(i j:s_)(b:Bool),A.units+42<cLine->iI x y h=a_ b->D_ x v->D_ y u->ZG i->RelV u j->EqAt A s i j b:=by
  intro A x y v u i j b hu e rx ry r1 r3;rcases oK rh rx ry e with⟨d,e',q1,q2,q3,rfl⟩|⟨d,e',q1,q2,q3,rfl⟩
  ·show Mt I (n:=40) q3 ⋯ (by rw[hK];show q1) (by rw[hK];show q2) r1 r3
  ·show Rt I q3 hu (by rw[hK];show q1) (by rw[hK];show q2) r1 r3
 intro n
 induction n with
 |zero=>intro A x y v u i j b hu e;show base A x y v u i j b ⋯ e
 |succ n ih=>
  intro A x y v u i j b hu e rx ry r1 r2;cases e2:iI x y h with
  |some b'=>
   unfold eqF at e;rw[e2]at e;cases e
   show base A x y v u i j b ⋯ e2 rx ry r1 r2
  |none=>
   let⟨h1,_,a,a',rfl,rfl,rfl,rfl⟩:=Dt I hK rh n ih A x y v u i j b ⋯ e2 e rx ry r1 r2;refine fE h1 (λz=>?_) (λf t z=>by cases z);cases z
   show HW I hK rh (n+1) x y _ b e rx ry
set_option tactic.hygienic true in
def HY{x y:PV}(e:eqF 3 x y h=a_ b):iI x y h=a_ b\/iI x y h=b_:=by
 unfold eqF at e;split at e
 ·rename_i b' e2;cases e
  show .inl e2
 ·show .inr (by assumption)
def Nw:Y0 (VC .Eq) FV:=λc=>by
 intro jn s σ H x y v u Q I rx ry hq;let⟨φ,h,p,q,rh,rp,rq,po⟩:=hq;let⟨b,e,po⟩:=po.ofB;let hu:=c.hu64;rcases HY e with e2|e2
 ·refine ME c jn s σ H x y v u Q I rx ry ⟨φ,h,p,q,rh,rp,rq,?_⟩;unfold vEq;rw[e2];show po
 ·show(Dt I c.K rh 2 (HX I c.K rh 2) X.A p q x y v u b ⋯ e2 e rp rq rx ry).1 X.prog X.w X.xe _ ⟨.bl _,H,I,rfl,P_ rfl⟩
end
abbrev rvX(n i:Nat):Int:=if i<n then((n-1-i:Nat):Int) else -1
abbrev Nx(K:UF)(l:t_)(n:Nat):It:=⟨λi H=>∃vs v,ZT l vs/\vs.length=n/\vs.reverse[i]?=a_ v,λi H x H'=>H'=H/\∀vs,ZT l vs->vs.reverse[i]?=a_ x,λi _=>n<=i⟩
def HZ(a it:t_)(n:Nat):Turn P w K tg (Nx K a n) [it] it (λi h=>h.IsRevIter it a<|rvX n i) where
 mem:=by simp
 obj:=λi h st b hb=>by
  let e:b=it:=by simpa using hb
  subst e;let⟨o,e,c,d⟩:=st;show⟨o,e,λv z=>by rw[d]at z;cases z⟩
 keep:=λi h h' st k=>st.at λo e=>k it (by simp) o e
 item:=by
  intro X hP hw hK hc i jn s σ H E I hf st hg;subst hP hw hK;let⟨xs,x,hq,hn,hx⟩:=hg;let⟨its,rv,p,hz⟩:=I.list hq;let hi:=(SC.mp hx).1;rw[X8]at hi;let df:xs[n-1-i]?=a_ x:=by rw[List.getElem?_reverse hi]at hx;rw[<-hn];show hx
  let⟨u,hu,ru⟩:=rv.get df;let⟨f0,f1,f2,f3,f4,f5⟩:=hf it (by simp);let st:s.heap.IsRevIter it a (rvX n i):=st;rw[show rvX n i=((n-1-i:Nat):Int) from if_pos ⋯]at st
  refine wpAny_pyNext_rev_item st p.isList (x:=u) (l_ hu) λh' bw sb=>?_;let I1:P1 {s with heap:=h'}:=I.turned (t':=s.toks) (λb o hb e=>(sb.2 b hb).trans e) f0 f1 f3 f4 f5;let⟨o,e,c,d⟩:=id bw;rw[show((n-1-i:Nat):Int)-1=rvX n (i+1) by unfold rvX;split <;> omega]at bw;show⟨u,rfl,B8 (s:={s with heap:=h'}) e c d nofun ⟨x,H,I1,ru,⟨rfl,λys hy=>by rw[I.list_inj hy hq];show hx⟩,bw,λb hb=>(hf b hb).1⟩⟩
 done:=by
  intro X hP hw hK hc i jn s σ H E I hf st hg;subst hP hw hK;let hg:n<=i:=hg;let⟨f0,f1,f2,f3,f4,f5⟩:=hf it (by simp);let st:s.heap.IsRevIter it a (rvX n i):=st;rw[show rvX n i=-1 from if_neg ⋯]at st
  show wpAny_pyNext_rev_end (I.ok.hd hc) st λh' eb=>⟨rfl,I.turned (t':=s.toks) (λb o hb e=>eb b o hb e) f0 f1 f3 f4 f5⟩
 self:=λ_ _ _ _ _ st h=>wpAny_pyIter_revIter st h
abbrev iRv(X:Cx)(ta:TA):TI:=λσ H R=>ta σ H λvs H1=>∃l xs,vs=[.ref l]/\SqL X.K H1 l xs/\R (Nx X.K l xs.length) H1
def Ny{a:z_}{ta:TA}{p:Pos}(hg:Gl X "reversed")(hm:X.mg "reversed" = b_)(ha:PA X [a] ta)(hs:Vg [a] X.env=[(false,eval a X.env)]:=by rfl):
  PI X tg (.Call (.Name "reversed" p) [a] [] pos) (iRv X ta):=by
 intro jn s σ H R I h;refine Call_<|jD I hg hm boot_reversed<|Wi (thn (ZH 0) λus s1 z9=>?_) hs rfl;let⟨vs,H1,I1,r1,q1⟩:=z9;let⟨l,xs,e,hq,q⟩:=q1;subst e;cases r1 with
 |cons r rr=>
  cases rr
  cases r
  let⟨its,rv,pl,hz⟩:=I1.list hq;refine call_reversed_list pl.isList ?_;let st:(s1.heap.push<|revObj l<|(its.toArray.size:Int)-1).IsRevIter (e_ s1) l ((its.toArray.size:Int)-1):=⟨_,Za 0,rfl,rfl⟩;refine wpAny_pyIter_revIter st ?_;let hl:=rv.length;let e0:((its.toArray.size:Nat):Int)-1=rvX xs.length 0:=by rw[U6,<-hl];unfold rvX;split <;> omega
  rw[e0]at st⊢;refine⟨(e_ s1),[(e_ s1)],_,_,H1,rfl,I1.kept (t':=s1.toks) λb o e=>Zn e,HZ l _ xs.length,st,λb hb=>?_,q⟩;let e:b=(e_ s1):=by simpa using hb
  subst e;show I1.fpOk (U1 _)<|I1.hok.fresh<|U1 _
abbrev rvI:Y4 0->PH->Rs Wk:=λps h=>match ps with
 | [.ref n]=>(match aM h n with
   |some xs=>.ok ⟨xs.reverse,tS n xs⟩ h
   |none=>.bad)
 |_=>.bad
abbrev I0(ms:Ma):Mi:=λδ h=>(ms δ h).bind rvI
set_option tactic.hygienic true in
def PZ{k:Nat}{x:z_}{p:Pos}(ha:SA C k X [x] ms)(hb:("reversed" : Str)∈C.bs:=by decide)(hg:Gl X "reversed" := by rfl)(hs:Vg [x] X.env=[(false,eval x X.env)]:=by rfl):
  SI C k X tg (.Call (.Name "reversed" p) [x] [] pos) (I0 ms):=λc=>
 (Ny hg (c.bn _ hb) (ha c) hs).imp λσ H R h=>by
  let⟨φ,δ,h,rh,re,p⟩:=h;refine⟨φ,δ,h,rh,re,(postA.bindI p).imp ?_⟩;rintro vs H1 ⟨φ1,xs,h1,p1,t1,aa,ab,q1⟩;unfold rvI at q1;split at q1
  ·rename_i n;let⟨v,rfl,rx⟩:=ab.one;let⟨a,rfl,ha'⟩:=rx;cases e:aM h1 n with
   |none=>rw[e]at q1;show q1.elim
   |some xs=>
    rw[e]at q1;let⟨a2,us,aj,sa,ra⟩:=bK aa e;rw[ha']at aj;cases aj;rw[<-c.K]at sa;refine⟨a,us,rfl,sa,q1 φ1 H1 (Nx X.K a us.length) U7 (Kp.refl H1) aa λφ2 H2 h2 p2 t2 ah hg i=>?_⟩;let hg:(match aM h2 n with|some ys=>PV.beqs ys xs|none=>false)=true:=hg
    cases e2:aM h2 n with
    |none=>rw[e2]at hg;cases hg
    |some ys=>
     rw[e2]at hg;let pb:=PV.beqs_eq hg;subst pb;let⟨a3,p7,qo,su,ru⟩:=bK ah e2;rw[dU p2 ha']at qo;cases qo;rw[<-c.K]at su;let hl:=ru.length;let e5:p7.length=us.length:=by rw[<-hl,ra.length]
     change(i<ys.reverse.length->_)/\(ys.reverse.length<=i->_)
     rw[X8];refine⟨λhi=>?_,λhi=>by change us.length<=i;omega⟩;let ly:i<p7.reverse.length:=by rw[X8];omega
     refine⟨⟨p7,p7.reverse[i],su,e5,by rw[VH ly]⟩,λy H' yl=>?_⟩;let⟨rfl,hy⟩:=yl;let⟨pp,ep,rp⟩:=ru.reverse.get<|hy p7 su;show⟨⟨pp,ep,rp⟩,Kp.refl _,ah⟩
  ·show q1.elim
abbrev kQ:PV->Y4 0->PH->Rs PV:=λx ps h=>match x,ps with
 |.ref n,[.ref m]=>match bT h n,bT h m with
  |some xs,a_ ys=>if xs.length+ys.length<=U9 then .ok .non (ZL<|.lst<|xs++ys) else .bad
  |_,_=>.bad
 |_,_=>.bad
set_option tactic.hygienic true in
def FW:MtR X "list.extend" (rM C kQ):=MtR.imp (show MtR X "list.extend" DV from EY) λx xs H Q h=>by
 let⟨φ,h,p,ps,rh,rx,rs,po⟩:=h;unfold kQ at po;split at po
 ·rename_i n m;let⟨a,rfl,ha⟩:=rx;let⟨v,rfl,rv⟩:=rs.one;let⟨b,rfl,hb⟩:=rv;cases e1:bT h n with
  |none=>rw[e1]at po;show po.elim
  |some us=>
   cases e2:bT h m with
   |none=>rw[e1,e2]at po;show po.elim
   |some ws=>rw[e1,e2]at po;let⟨vs,h1,r1⟩:=YW<|fV e1;let⟨Tw,h2,r2⟩:=rh.at' m b _ hb<|fV e2;let⟨hz,po⟩:=po.ite;show⟨a,b,vs,Tw,rfl,rfl,h1,h2,by rw[<-r1.length,<-r2.length];show hz,po.lset rh ha h1 (r1.append r2) rfl⟩
 ·show po.elim
def Ia{k:Nat}:MtS C k X "list" isL "list.extend" kQ:=λc=>⟨FW,λφ H h p x rh rv e=>D5 rh rv e⟩
def FX{m:Nat}(e1:h[n]?=a_ (.lst xs))(e2:h[m]?=a_ (.lst ys))(c:xs.length+ys.length<=16777216):kQ (.ref n) [.ref m] h=.ok .non (ZL<|.lst<|xs++ys):=by
 let a1:bT h n=a_ xs:=by simp[bT,e1]
 let a2:bT h m=a_ ys:=by simp[bT,e2]
 unfold kQ;simp only[a1,a2];rw[if_pos (by rw[VN];show c)]
abbrev AG(f:Fn):Me:=λ_ h=>f [] h
def Kx{k:Nat}{p:Pos}{f:Fn}(D:Def C.K X.mg x st a fd ps)(G:M_ a fd ps (spM C 0 f))(hj:j<=k:=by decide)(hg:Gl X x:=by rfl)(cm:(x == ("__debug__" : Str))=false:=by decide):G_ (.Call (.Name x p) [] [] pos) (AG f):=λc=>by
 let e1:=c.K;let D':Def X.K X.mg x st a fd ps:=by rw[e1];show D
 let G':L_ CX0 j a fd ps (spM C 0 f):=by rw[e1];show G
 refine(Gs G' (c.room.mono hj) hg D'.mg D'.fn.kp D'.bd .nil yS cm).imp λσ H Q h=>?_;let⟨φ,δ,h,rh,re,p⟩:=h;show⟨φ,h,[],rh,trivial,rfl,p⟩
@[simp]theorem NY{f:Fn}:AG f δ h=f [] h:=(rfl)
abbrev GEs(P:Params):B_ (Str×Str)->B_ Xs->Prop
 |[],[]=>True
 |kv::r,e::es=>e.hash=PyData.keyHash P kv.1/\(∃t,e.key=.str kv.1 t)/\(∃t,e.val=.str kv.2 t)/\GEs P r es
 |_,_=>False
abbrev Q1(C:MC)(a:t_)(kvs:B_ (Str×Str)):Prop:=(a == We)=false/\(kvs.map λkv=>(Wa kv.1:Key)).Nodup/\∃es ep,C.K.lookup a=a_ ⟨.type "dict",b_,.dict es ep,#[]⟩/\GEs C.w.params kvs es.toList
abbrev wI:B_ (Str×Str)->Str->C_ Str
 |[],_=>b_
 |kv::r,z=>if kv.1=z then a_ kv.2 else wI r z
abbrev gdV(o:C_ Str):PV:=match o with
 |some v=>.str v
 |none=>.non
abbrev vGd(kvs:B_ (Str×Str)):PV->PH->Rs PV:=λp h=>match p with
 |.str z=>.ok (gdV<|wI kvs z) h
 |_=>.bad
def zY{P:y_}{w:x_}:∀{kvs:B_ (Str×Str)}{es:B_ Xs},GEs w.params kvs es->∃vs:B_ (Key×s_),Pairs (bA P w) es vs/\vs.map (·.1)=(kvs.map λkv=>(Wa kv.1:Key))/\(∀e∈es,∃k,(bA P w).is k e.key=true/\e.hash=(bA P w).hash k)/\
  ∀z:Str,match wI kvs z with
   |some v=>∃t,valueAt vs (Wa z:Key)=a_ (.str v t)
   |none=>valueAt vs (Wa z:Key)=b_
 |[],[],_=>⟨[],.nil,rfl,(λ_ h=>nomatch h),λz=>rfl⟩
 |kv::r,e::es,⟨h1,⟨t1,h2⟩,⟨t2,h3⟩,h4⟩=>by
  let⟨vs,p,q,s,v⟩:=zY (P:=P) h4;let hi:(bA P w).is (Wa kv.1:Key) e.key=true:=by rw[h2];show sM P w _ _
  refine⟨((Wa kv.1:Key),e.val)::vs,.cons hi rfl p,by rw[Vd,Vd,q],λx hx=>?_,λz=>?_⟩
  ·rcases U5.mp hx with rfl|hx
   ·show⟨_,hi,h1⟩
   ·show s x hx
  ·let hv:=v z;unfold valueAt at hv⊢;unfold wI;rw[W0];by_cases c:kv.1=z
   ·subst c;simp;show⟨t2,h3⟩
   ·let c2:¬ (Wa kv.1:Key)=Wa z:=λq=>c<|Sum.inr.inj q;simp only[if_neg c,decide_eq_false c2];show hv
 |[],_::_,h=>h.elim
 |_::_,[],h=>h.elim
def Ky{k:Nat}{kvs:B_ (Str×Str)}{p:Pos}(hm:X.mg x=c_ a)(g:Q1 C a kvs)(he:G_ e m)(hg:Gl X x:=by rfl)(hd:(x == ("__debug__" : Str))=false:=by decide)(au:Xb (.Name x p) "get" X.env (eval (.Name x p) X.env)=eval (.Name x p) X.env:=by rfl)(fc:((backTo ae (Vg [e] X.env)).all (λx=>!x.1)&&(backToKw ae (keywordEach [] X.env)).all (λx=>x.1.isSome)
   && decide (([e]:B_ z_).length+([]:B_ Keyword).length+(if([]:B_ Keyword).isEmpty then 0 else 1)<30))=true:=by rfl)(ar:(apos.endLine == ae.line)=true:=by rfl)(hs:backTo ae (Vg [e] X.env)=[(false,U_ 0)]:=by rfl):G_ (.Call (.Attribute (.Name x p) "get" apos) [e] [] ae) (mUn (vGd kvs) m):=λc jn s σ H Q I q=>by
 let⟨φ,δ,h,rh,re,po⟩:=q;let⟨g1,g2,es,ep,g3,g4⟩:=g;rw[<-c.w]at g4;rw[<-c.K]at g3;let⟨vs,p1,p2,p3,p4⟩:=zY (P:=X.prog) g4;let dd:∀{H' s'},i_ H' s'->s'.heap.DictOf (bA X.prog X.w) a vs:=λI'=>⟨_,es,ep,I'.bk _ _<|I'.mod.kin _ _ g3,⟨rfl,rfl,rfl⟩,rfl,λx hx=>p3 x<|l_ hx,p1,by rw[p2];show g2⟩;refine wpAny_Call_method au fc ar Xc Xt PySem.F.type_dict_get<|thn (DQ (v:=.ref a) hg hm rfl hd jn s σ H (λv H'=>v=.ref a/\H'=H) I ⟨rfl,rfl⟩) λu s1 z9=>?_;let⟨x,H1,I1,rx,ex,eH⟩:=z9;subst ex eH;obtain rfl:u=Vt a:=rx;refine⟨(dd I1).typeIs,λb eb=>?_,?_⟩
 ·cases eb
  show⟨_,I1.bk _ _<|I1.mod.kin _ _ g3,rfl⟩
 rw[hs];refine Xl rfl<|Calls.evalArgs_plain<|Calls.spliced_cons<|thn (he c jn s1 σ H1 _ I1 ⟨φ,δ,h,rh,re,post.bind po⟩) ?_;rintro iv s2 ⟨y,H2,I2,ry,φ2,py,h2,p22,t2,ah,c6,q2⟩;refine Calls.spliced_nil ?_;cases py with
 |str z=>
  obtain rfl:y=.str z:=c6;let q2:post C φ2 H2 (.ok (gdV<|wI kvs z) h2) Q:=q2;let Ue:RelV (kV (Wa z:Key)) iv:=ry;refine call_meetsIn Xt (dd I2).typeIs PySem.F.entry_dict_get (PySem.F.args_dict_get_2 _ _) (meets_dict_get (bA X.prog X.w) a (nY Ue) g1) ⟨_,(dd I2).mapOf,?_⟩;let hz:=p4 z;cases e1:wI kvs z with
  |none=>rw[e1]at hz q2;rw[hz];show⟨.non,H2,I2.tok _,rfl,q2.val ah rfl⟩
  |some v=>rw[e1]at hz q2;let⟨t,hz⟩:=hz;rw[hz];show⟨.str v,H2,I2.tok _,⟨t,rfl⟩,q2.val ah rfl⟩
 |_=>exact q2.elim
abbrev FY:PV->PV->PH->Rs PV:=λx y h=>ofB (eqF 6 x y h) h
set_option tactic.hygienic true in
def Ib{x y:PV}(e:eqF 6 x y h=a_ b):iI x y h=a_ b\/iI x y h=b_:=by
 unfold eqF at e;split at e
 ·rename_i b' e2;cases e
  show .inl e2
 ·show .inr (by assumption)
def Nz{k:Nat}:Y0 (VC .Eq) FY:=λc=>by
 intro jn s σ H x y v u Q I rx ry hq;let⟨φ,h,p,q,rh,rp,rq,po⟩:=hq;let⟨b,e,po⟩:=po.ofB;let hu:=c.hu64;rcases Ib e with e2|e2
 ·refine ME c jn s σ H x y v u Q I rx ry ⟨φ,h,p,q,rh,rp,rq,?_⟩;unfold vEq;rw[e2];show po
 ·show(Dt I c.K rh 5 (HX I c.K rh 5) X.A p q x y v u b ⋯ e2 e rp rq rx ry).1 X.prog X.w X.xe _ ⟨.bl _,H,I,rfl,P_ rfl⟩
abbrev Ic(x y:PV)(n:Nat)(h:PH):Rs PV:=match x,h[n]? with
 |.str z,a_ (.dK kvs)=>if kvs.length<U9 then .ok (.ref n) (ZL<|.dK<|bJ kvs (.inr z) y) else .bad
 |_,_=>.bad
abbrev pA(mk mv:Me):Me:=λδ h=>(mk δ<|h++[.dK []]).bind λx h2=>(mv δ h2).bind λy h3=>Ic x y h.length h3
variable{mk:Me}
set_option tactic.hygienic true in
def Kz{k:Nat}{ke:z_}{ve:z_}(hk:G_ ke mk)(hv:G_ ve mv):G_ (.Dict [a_ ke] [ve] pos) (pA mk mv):=λc jn s σ H Q I ⟨φ,δ,h,rh,re,p⟩=>by
 refine wpAny_Dict_any rfl rfl (λz=>nomatch z) (by change 1<=15;decide) ?_;let fr:H (e_ s)=b_:=I.fresh;let I1:i_ (S1 (e_ s)<|.dK []) {s with heap:=s.heap.push {cls:=.type "dict",data:=.dict #[]} }:=I.laid (a:=(e_ s)) (o:=.dK []) (t':=s.toks) (λ_ _ q=>Zn q) (U1 _)<|Bj s.heap I.big;let aa:RH C (φ++[(e_ s)]) (S1 (e_ s)<|.dK []) (h++[.dK []]):=rh.new fr ⟨[],aL,.nil⟩;let n5:=re.mono (Vv φ [(e_ s)])<|Kp.new (o:=.dK []) fr;let og:(φ++[(e_ s)])[h.length]?=a_ (e_ s):=by rw[<-rh.len];simp
 let p1:post C (φ++[(e_ s)]) (S1 (e_ s)<|.dK []) (pA mk mv δ h) Q:=post.weak (Vv _ _) (Kp.new fr) p;generalize (e_ s)=d at*;generalize φ++[d]=φ0 at*;refine evalPairs_cons<|thn (hk c jn _ σ _ _ I1 ⟨φ0,δ,_,aa,n5,post.bind p1⟩) ?_;rintro ku s1 ⟨x,H1,I1',rku,φ1,px,h1,pf1,t1,ah,rx,q1⟩;refine SB<|thn (hv c jn s1 σ H1 _ I1' ⟨φ1,δ,h1,ah,n5.mono pf1 t1,post.bind q1⟩) ?_;rintro vu s2 ⟨y,H2,I2,i9,φ2,py,h2,pf2,t2,a7,ry,q2⟩;refine SB<|wpAny_standAt<|SL<|evalPairs_nil ?_;unfold Ic at q2;split at q2
 ·rename_i z kvs hz;split at q2
  ·rename_i hl;let aj:φ2[h.length]?=a_ d:=dU pf2<|dU pf1 og;obtain rfl:x=.str z:=rx;let xq:RelV (kV (Wa z:Key)) ku:=rku;let⟨ks,hH,rk⟩:=a7.at' _ d _ aj hz;let⟨zl,hd,vs,rel,dd⟩:=uR I2.hok hH;let ig:vs.length<=U9:=by rw[<-rel.length];show zl
   let el:kvs.length=ks.length:=VU rk;unfold storeAll;rw[List.forIn_cons];refine SB<|SB<|wpAny_dictSet_pairs (nY xq) dd (hsz:=ig) λh' fw hs=>SL ?_;let cj:(putK ks (Wa z:Key) y).length<=U9:=by have:=fT ks (Wa z:Key) y;omega
   let he:∃q,h'.get? d=a_ q:=let ⟨q,_,_,hq,_⟩:=fw;⟨q,hq⟩;refine SL ⟨.ref d,upd H2 d<|.dK<|putK ks (Wa z:Key) y,pT I2 (by rw[hH];show WR) hs he<|uS cj hd (rel.put _ i9) fw,rfl,?_⟩;let nt:pW (H2 d):=by rw[hH];show WR
   show q2 φ2 (.ref d) _ U7 (Kp.upd nt) (a7.write aj nt ⟨_,aL,RKv.mono U7 (Kp.upd nt)<|qF rk (Wa z:Key) ry⟩) ⟨d,rfl,aj⟩
  ·show q2.elim
 ·show q2.elim
@[simp]theorem NZ:pA mk mv δ h=(mk δ<|h++[.dK []]).bind λx h2=>(mv δ h2).bind λy h3=>Ic x y h.length h3:=(rfl)
def Eo{z:Str}{y:PV}{kvs:B_ (Key×PV)}(e:h[n]?=a_ (.dK kvs))(hl:kvs.length<16777216):Ic (.str z) y n h=.ok (.ref n) (ZL<|.dK<|bJ kvs (.inr z) y):=by unfold Ic;rw[e];dsimp only;rw[if_pos (by rw[VN];show hl)]
open PySem.W
abbrev oF:Ms:=λ_ _=>.bad
def Q2{k:Nat}:Zz st oF:=λc _ _ σ H _ I h=>by let⟨φ,δ,h,rh,re,p⟩:=h;show p.elim
def getD_none{α:Type}{o:Array (C_ α)}{x:α}(h:(o.getD j<|a_ x).isNone=true):o[j]?=a_ b_:=by
 by_cases q:j<o.size
 ·let e:o.getD j (a_ x)=o[j]:=by simp[YL,q]
  rw[e]at h;rw[Vm q,Option.isNone_iff_eq_none.mp h]
 ·let e:o.getD j (a_ x)=a_ x:=by simp[YL,q]
  rw[e]at h;cases h
end L2
namespace K66
open PySem L2
local macro_rules|`(q_ $x)=>`(mC (.int $x))
noncomputable section
abbrev rV:Ms:=
 (aG (cB (aT (aB vLt (mV 1) (mCB mE (aA (mV 0) aC))))
  (aX<|k_ (mV 0)<|mV 1)
  cJ)
 (aX (q_ 0)))
abbrev nM:Fn:=mFn 2 rV
abbrev pB:Ms:=
 (aG (aP 3 (aB dB (ZC (ZC (aB Bv (mV 3) (mV 3)) (aB Bv (q_ 48271) (mV 3))) (mV 4)) (q_ 2147483647)))
  (lQ (mMt isL (onL cF) (mV 2) (aA (mV 3) aC))))
abbrev wJ:Ms:=
 (aG (aP 2 (jG aC))
 (aG (aP 3 (ZC (aB dB (mV 0) (q_ 2147483647)) (q_ 48271)))
 (aG (fF (mF (aA (ZC (mV 1) (q_ 1)) aC)) (gN 4) pB)
 (aX (mSl (mV 2) (mP (q_ 1)) iJ)))))
abbrev mQ:Fn:=mFn 5 wJ
abbrev AH:Ms:=
 (aG (aP 2 (mC (.str "abcdefghijklmnopqrstuvwxyz")))
 (aG (aP 3 (bO 2 mQ (aA (mV 0) (aA (q_ 10) aC))))
 (aG (aP 4 (mMt Ks wF (mC (.str "")) (aA (aW [b_,a_ 2] (aY (mSl (mV 3) iJ (mP (q_ 8)))) (gN 0) gM (k_ (mV 1) (aB dB (mV 0) (q_ 26)))) aC)))
 (aG (cB (aT (Zl (aB dB (mV 0) (q_ 3)) (q_ 0)))
  (aX<|aW [b_,a_ 4,a_ 3] (mF<|aA (mV 1) aC) (gN 0) gM<|mSl (mV 1) iJ<|mP<|ZC (q_ 1)<|aB dB (ZC (mV 0)<|k_ (mV 2)<|q_ 8)<|q_ 8)
  cJ)
 (aG (aP 4 (mSl (mV 4) iJ (mP (ZC (q_ 1) (aB dB (k_ (mV 3) (q_ 8)) (q_ 8))))))
 (aG (aP 5 (aB dB (k_ (mV 3) (q_ 9)) (mCB mE (aA (mV 4) aC))))
 (aX (aW [b_,a_ 4,a_ 2,a_ 5,a_ 3] (mF (aA (mV 1) aC)) (gN 0) gM (ZC (ZC (mSl (mV 1) iJ (mP (mV 3))) (k_ (mV 2) (aB dB (ZC (aB D2 (k_ (mV 4) (q_ 9)) (q_ 8)) (aB Bv (q_ 5) (mV 0))) (q_ 26)))) (mSl (mV 1) (mP (ZC (mV 3) (q_ 1))) iJ))))))))))
abbrev AI:Fn:=mFn 6 AH
abbrev Ie:Ms:=
 (aG (aP 4 (aB rF (aB dB (k_ (mV 0) (q_ 2)) (q_ 5)) (q_ 2)))
 (aG (cB (aT (Zl (aB dB (k_ (mV 0) (q_ 3)) (q_ 3)) (q_ 0)))
  (aP 4<|ZC (aB rF (aB dB (mV 1)<|aB rF (aB Bv (q_ 2)<|aB JM (q_ 10)<|q_ 40)<|q_ 1)<|aB JM (q_ 10)<|q_ 40)<|q_ 1)
  cJ)
 (aG (cB (aT (aB vLt (aB dB (k_ (mV 0) (q_ 1)) (q_ 8)) (q_ 3)))
  (aX<|aU<|aA (mC<|.str "add")<|aA (aU<|aA (k_ (mV 3)<|q_ 0)<|aA (q_ 1) aC)<|aA (mV 4) aC)
  cJ)
 (aG (cB (aT (aB vLt (aB dB (k_ (mV 0) (q_ 1)) (q_ 8)) (q_ 6)))
  (aX<|aU<|aA (mC<|.str "choose")<|aA (aU<|aA (k_ (mV 3)<|q_ 0)<|aA (q_ 2) aC)<|aA (mV 4) aC)
  cJ)
 (aG (cB (aT (Zl (aB dB (k_ (mV 0) (q_ 1)) (q_ 8)) (q_ 6)))
  (aG (aP 5 (mCB By (aA (q_ 1) (aA (aB rF (aB rF (k_ (mV 2) (q_ 1)) (q_ 1)) (aB dB (k_ (mV 0) (q_ 2)) (q_ 4))) aC))))
  (aG (cB (aT (Zl (k_ (mV 2) (q_ 0)) (k_ (mV 3) (q_ 0))))
   (aP 5<|mCB By<|aA (q_ 3)<|aA (mV 5) aC)
   cJ)
  (aX (aU (aA (mC (.str "back")) (aA (mV 5) (aA (ZC (mV 5) (aB dB (k_ (mV 0) (q_ 4)) (q_ 4))) aC)))))))
  cJ)
 (aX (aU (aA (mC (.str "settle")) aC))))))))
abbrev Ep:Fn:=mFn 6 Ie
abbrev jY:Ms:=(iA (aB dB (k_ (mV 5)<|ZC (q_ 5)<|mV 8)<|ZC (mMt bP mL (mV 3)<|aA (k_ (mV 1)<|mV 8)<|aA (q_ 0) aC)<|q_ 1) (mV 7)<|k_ (mV 1)<|mV 8)
abbrev rW:Ms:=
 (aG (aP 5 (bO 2 mQ (aA (mV 4) (aA (q_ 9) aC))))
  (aG (aP 6 (k_ (mV 1) (aB dB (k_ (mV 5) (q_ 0)) (mCB mE (aA (mV 1) aC)))))
  (aG (aP 7 (pA (k_ (mV 1) (q_ 0)) (ZC (q_ 2) (aB dB (k_ (mV 5) (q_ 5)) (aB rF (k_ (mV 3) (k_ (mV 1) (q_ 0))) (q_ 1))))))
  (aG (fF (vM (aA (q_ 1) (aA (mCB mE (aA (mV 1) aC)) aC))) (gN 8) jY)
  (aG (iA (mMt bP mL (mV 3) (aA (mV 6) (aA (q_ 0) aC))) (mV 7) (mV 6))
  (aG (aP 9 (aU (aA (mV 6) (aA (ZC (k_ (mV 7) (mV 6)) (q_ 1)) aC))))
  (aG (iA (k_ (mV 9) (q_ 1)) (mV 3) (mV 6))
  (aG (aP 10 (mCB oQ (aA (aW [b_,a_ 7] (aY (mCB mJ (aA (mV 1) aC))) (gN 0) (aT (aB vGt (k_ (mV 1) (mV 0)) (q_ 0))) (aU (aA (mV 0) (aA (k_ (mV 1) (mV 0)) aC)))) aC)))
  (lQ (mMt isL (onL cF) (mV 2) (aA (aU (aA (mV 9) (aA (mV 10) (aA (bO 4 Ep (aA (mV 5) (aA (mV 4) (aA (mV 9) (aA (mV 1) aC))))) aC)))) aC)))))))))))
abbrev AJ:Ms:=
 (aG (aP 2 (jG (aA (aU (aA (aU (aA (k_ (mV 1) (q_ 0)) (aA (q_ 1) aC))) (aA (aU aC) (aA (aU (aA (mC (.str "make")) (aA (mC (.str "count")) (aA (aU (aA (mC (.str "")) (aA (q_ 0) aC))) (aA (mC (.str "sum")) aC))))) aC)))) aC)))
 (aG (lQ (mMt isL (onL cF) (mV 2) (aA (aU (aA (aU (aA (k_ (mV 1) (q_ 0)) (aA (q_ 2) aC))) (aA (aU (aA (aU (aA (k_ (mV 1) (q_ 0)) (aA (q_ 1) aC))) aC)) (aA (aU (aA (mC (.str "make")) (aA (mC (.str "choice")) (aA (aU (aA (mC (.str "")) (aA (q_ 0) aC))) (aA (mC (.str "one")) aC))))) aC)))) aC)))
 (aG (aP 3 (pA (k_ (mV 1) (q_ 0)) (q_ 2)))
 (aG (fF (aY (mV 0)) (gN 4) rW)
 (aX (mV 2))))))
abbrev AK:Fn:=mFn 11 AJ
abbrev uE:Ms:=(aX<|ZC (q_ 1)<|mCB BA<|aA (aW [b_] (aY<|k_ (mV 0)<|q_ 1) (gN 0) gM<|k_ (mV 0)<|q_ 1) aC)
abbrev AL:Fn:=mFn 1 uE
abbrev Du:Ms:=
 (aG (rK (k_ (mV 0) (q_ 0)) (gTp 2 (gCn (gN 1) (gCn (gN 2) gNl))))
 (aX (aU (aA (bO 1 AL (aA (mV 0) aC)) (aA (mV 1) (aA (mV 2) aC))))))
abbrev Dv:Fn:=mFn 3 Du
abbrev kR:Ms:=(iA (mV 2) (mV 1)<|k_ (mV 2)<|q_ 0)
abbrev pC:Ms:=
 (aG (aP 1 jH)
 (aG (fF (aY (mV 0)) (gN 2) kR)
 (aX (kM Dv false (nW bP zQ (mV 1))))))
abbrev iP:Fn:=mFn 3 pC
abbrev rX:Ms:=(aX<|k_ (mV 0)<|q_ 0)
abbrev nN:Fn:=mFn 1 rX
abbrev kT:Ms:=
 (aG (rK (k_ (mV 2) (q_ 2)) (gTp 3 (gCn (gN 3) (gCn (gN 4) (gCn (gN 5) gNl)))))
  (cB (aT (Fv vLe vLe (mV 4) (mV 0) (mV 5)))
   (aX<|k_ (mV 2)<|q_ 0)
   cJ))
abbrev pD:Ms:=
 (aG (fF (aY (mV 1)) (gN 2) kT)
 (aX (mC .non)))
abbrev pE:Fn:=mFn 6 pD
abbrev pF:Ms:=
 (aG (rK (k_ (mV 3) (q_ 0)) (gTp 2 (gCn (gN 4) (gCn (gN 5) gNl))))
  (aG (aP 6 (k_ (k_ (mV 3) (q_ 2)) (q_ 0)))
  (aG (cB (aT (Zl (mV 6) (mC (.str "settle"))))
   (aG (iA (jG aC) (mV 2) (mV 4))
   JS)
   cJ)
  (aG (aP 7 (bO 2 pE (aA (mV 5) (aA (mMt bP mL (mV 2) (aA (mV 4) (aA (jG aC) aC))) aC))))
  (cB (aT (aB oP (mV 7) (mC .non)))
   (iA (mV 7) (mV 1)<|k_ (mV 3)<|q_ 0)
   (cB (aT (Zl (mV 6) (mC (.str "back"))))
    (lQ<|mMt isL (onL cF) (mMt bP wC (mV 2)<|aA (mV 4)<|aA (jG aC) aC)<|aA (mV 3) aC)
    cJ))))))
abbrev wK:Ms:=
 (aG (aP 1 jH)
 (aG (aP 2 jH)
 (aG (fF (aY (kM nN true (mV 0))) (gN 3) pF)
 (aX (mV 1)))))
abbrev wL:Fn:=mFn 8 wK
abbrev pG:Ms:=
 (aG (aP 1 (bO 1 iP (aA (mV 0) aC)))
 (aG (aP 2 (bO 1 wL (aA (mV 1) aC)))
 (aX (aW [b_,a_ 2] (aY (mV 1)) (gN 0) (aT (aB eO (k_ (mV 0) (q_ 0)) (mV 1))) (mV 0)))))
abbrev iQ:Fn:=mFn 3 pG
abbrev Ig:Ms:=(aX<|aB vGe (mMt bP mL (mCB qH<|aA (k_ (mV 0)<|q_ 1) aC)<|aA (k_ (mV 1)<|q_ 0)<|aA (q_ 0) aC)<|k_ (mV 1)<|q_ 1)
abbrev zZ:Fn:=mFn 2 Ig
abbrev kU:Ms:=(aX<|mUn (aO "total")<|mV 0)
abbrev cG:Fn:=mFn 1 kU
abbrev kW:Ms:=(aX<|mUn gG<|aW [b_,b_] (aY<|mV 0) (gTp 2<|gCn (gN 0)<|gCn (gN 1) gNl) gM<|mV 1)
abbrev qM:Fn:=mFn 1 kW
abbrev jL:Ms:=(aX<|bO 1 qM<|aA (mUn (aO "standing")<|mV 0) aC)
abbrev dO:Fn:=mFn 1 jL
abbrev eQ:Ms:=
 (aG (cB (aT (Zl (mV 1) (mC (.tup [.str "",.int (0)]))))
  (aX<|mC<|.str "map")
  cJ)
 (aX (mIf (aT (aB fH (mV 1) (mUn (aO "made") (mV 0)))) (k_ (k_ (mUn (aO "made") (mV 0)) (mV 1)) (q_ 0)) (mC .non))))
abbrev aI:Fn:=mFn 2 eQ
abbrev aQ:Str->C_ Fn:=λ(z:Str)=>if z=("Tree" : Str) then a_ aI else(λ_=>b_) z
abbrev jM:Ms:=
 (aG (oY true (nW bP dF (mUn (aO "made") (mV 0))) (aP 2 (aW [b_,b_,a_ 1] (mO true (nW bP dF (mUn (aO "made") (mV 0)))) (gTp 2 (gCn (gN 0) (gCn (gN 1) gNl))) (aT (Zl (k_ (mV 1) (q_ 1)) (mV 2))) (aU (aA (k_ (mV 1) (q_ 2)) (aA (mV 0) aC))))))
 (aG (cB (aT (Zl (bF "kind_of" 1 aQ (mV 0) (aA (mV 1) aC)) (mC (.str "row"))))
  oF
  cJ)
 (aX (aW [b_,b_] (aY (mCB oT (aA (mV 2) aC))) (gTp 2 (gCn (gN 0) (gCn (gN 1) gNl))) gM (mV 1)))))
abbrev dQ:Fn:=mFn 3 jM
abbrev eE:Str->C_ Fn:=λ(z:Str)=>if z=("Tree" : Str) then a_ dQ else(λ_=>b_) z
abbrev bY:Ms:=
 (aG (aP 3 (nW isL (onL D8) (mV 2)))
  (aG (lQ (mMt isL (onL cF) (mV 1) (aA (mV 3) aC)))
  (lQ (mMt isL kQ (mV 2) (aA (bF "within" 1 eE (mUn (aO "tree") (mV 0)) (aA (mV 3) aC)) aC)))))
abbrev eR:Ms:=
 (aG (aP 1 (jG aC))
 (aG (aP 2 (jG (aA (mC (.tup [.str "",.int (0)])) aC)))
 (aG (vN 1000000 (aT (mV 2)) bY)
 (aX (mV 1)))))
abbrev cP:Fn:=mFn 4 eR
abbrev mR:Ms:=(aX<|mIf (aT<|aB fH (mV 1)<|mUn (aO "made")<|mV 0) (mSl (k_ (mUn (aO "made")<|mV 0)<|mV 1) (mP<|q_ 1) iJ)<|mC .non)
abbrev cW:Fn:=mFn 2 mR
abbrev kX:Str->C_ Fn:=λ(z:Str)=>if z=("Count" : Str) then a_ cG else(λ(z:Str)=>if z=("Choice" : Str) then a_ dO else(λ_=>b_) z) z
abbrev qN:Str->C_ Fn:=λ(z:Str)=>if z=("Tree" : Str) then a_ cW else(λ_=>b_) z
abbrev bW:Ms:=
 (aG (aP 3 (bF "kind_of" 1 aQ (mUn (aO "tree") (mV 0)) (aA (mV 1) aC)))
 (aG (cB (aT (aB fH (mV 1) (mUn (aO "leaves") (mV 0))))
  (aX<|aU<|aA (mV 3)<|aA (bF "told" 0 kX (k_ (mUn (aO "leaves")<|mV 0)<|mV 1) aC) aC)
  cJ)
 (aX (aU (aA (mV 3) (aA (aW [b_,a_ 2,a_ 0] (aY (bF "within" 1 eE (mUn (aO "tree") (mV 0)) (aA (mV 1) aC))) (gN 0) gM (aU (aA (k_ (bF "held" 1 qN (mUn (aO "tree") (mV 2)) (aA (mV 0) aC)) (q_ 1)) (aA (mV 0) (aA (k_ (mV 1) (mV 0)) aC))))) aC))))))
abbrev bE:Fn:=mFn 4 bW
abbrev pH:Str->C_ Fn:=λ(z:Str)=>if z=("Folding" : Str) then a_ cP else(λ_=>b_) z
abbrev pI:Str->C_ Fn:=λ(z:Str)=>if z=("Folding" : Str) then a_ bE else(λ_=>b_) z
abbrev fI:Ms:=(iA (bF "telling" 2 pI (mV 0)<|aA (mV 2)<|aA (mV 1) aC) (mV 1)<|mV 2)
abbrev iR:Ms:=
 (aG (aP 1 jH)
 (aG (fF (I0 (aA (bF "hanging" 0 pH (mV 0) aC) aC)) (gN 2) fI)
 (aX (k_ (mV 1) (mC (.tup [.str "",.int (0)]))))))
abbrev cX:Fn:=mFn 3 iR
abbrev gQ:Ms:=
 (aG (iN "made" (mV 0) jH)
 (iN "failed" (mV 0) (jG aC)))
abbrev gW:Fn:=mFn 1 gQ
abbrev kY:Ms:=(iN "total" (mV 0)<|mV 1)
abbrev kZ:Fn:=mFn 2 kY
abbrev jN:Ms:=(iN "standing" (mV 0)<|mCB iK<|aA (mV 1) aC)
abbrev jO:Fn:=mFn 2 jN
abbrev jP:Ms:=(iA (aU<|aA (mV 4)<|aA (mV 5)<|aA (mV 6) aC) (mUn (aO "made")<|mV 0)<|mV 3)
abbrev mS:Ms:=
 (aG (iN "made" (mV 0) jH)
 (aG (fF (aY (mV 1)) (gTp 4 (gCn (gN 3) (gCn (gN 4) (gCn (gN 5) (gCn (gN 6) gNl))))) jP)
 (iN "failed" (mV 0) (mCB iK (aA (mV 2) aC)))))
abbrev iZ:Fn:=mFn 7 mS
abbrev fJ:Ms:=(iN "total" (mV 0)<|q_ 0)
abbrev jZ:Fn:=mFn 1 fJ
abbrev eS:Ms:=(iN "standing" (mV 0)<|jG aC)
abbrev jA:Fn:=mFn 1 eS
abbrev rY:Ms:=
 (aG (cB (aT (Zl (mV 0) (mC (.str "count"))))
  (aX<|lN "Count" 0 jZ aC)
  cJ)
 (aG (cB (aT (Zl (mV 0) (mC (.str "choice"))))
  (aX<|lN "Choice" 0 jA aC)
  cJ)
 (aG (cB (aT (Zl (mV 0) (mC (.str "bag"))))
  oF
  cJ)
 (aG (cB (aT (Zl (mV 0) (mC (.str "text"))))
  oF
  cJ)
 (aX (mC .non))))))
abbrev rZ:Fn:=mFn 1 rY
abbrev dY:Ms:=
 (aG (aP 3 (bO 1 rZ (aA (mV 2) aC)))
 (cB (aT (aB oP (mV 3) (mC .non)))
  (iA (mV 3) (mUn (aO "leaves")<|mV 0)<|mV 1)
  cJ))
abbrev bU:Fn:=mFn 4 dY
abbrev AM:Str->C_ Fn:=λ(z:Str)=>if z=("Tree" : Str) then a_ iZ else(λ_=>b_) z
abbrev eG:Str->C_ Fn:=λ(z:Str)=>if z=("Folding" : Str) then a_ bU else(λ_=>b_) z
abbrev fK:Str->C_ Fn:=λ(z:Str)=>if z=("Count" : Str) then a_ kZ else(λ(z:Str)=>if z=("Choice" : Str) then a_ jO else(λ_=>b_) z) z
abbrev cY:Ms:=
 (aG (lQ (bF "add_leaf" 2 eG (mV 0) (aA (mV 4) (aA (mV 5) aC))))
  (cB (aT (aB fH (mV 4) (mUn (aO "leaves") (mV 0))))
   (lQ<|bF "fill" 1 fK (k_ (mUn (aO "leaves")<|mV 0)<|mV 4)<|aA (mV 8) aC)
   cJ))
abbrev dZ:Ms:=
 (aG (rK (mV 1) (gTp 2 (gCn (gN 2) (gCn (gN 3) gNl))))
 (aG (iN "tree" (mV 0) (lN "Tree" 0 gW aC))
 (aG (lQ (bF "fill" 2 AM (mUn (aO "tree") (mV 0)) (aA (aW [b_] (aY (mV 2)) (gN 0) gM (mSl (mV 0) iJ (mP (q_ 4)))) (aA (mV 3) aC))))
 (aG (iN "leaves" (mV 0) jH)
 (fF (aY (mV 2)) (gTp 5 (gCn (gN 4) (gCn (gN 5) (gCn (gN 6) (gCn (gN 7) (gCn (gN 8) gNl)))))) cY)))))
abbrev bH:Fn:=mFn 9 dZ
abbrev nO:Str->C_ Fn:=λ(z:Str)=>if z=("Count" : Str) then a_ cG else(λ(z:Str)=>if z=("Choice" : Str) then a_ dO else(λ(z:Str)=>if z=("Folding" : Str) then a_ cX else(λ_=>b_) z) z) z
abbrev Dw:Ms:=(aX<|bF "told" 0 nO (lN "Folding" 1 bH<|aA (mV 0) aC) aC)
abbrev Dx:Fn:=mFn 1 Dw
abbrev lF:Ms:=
 (aG (aP 2 (k_ (mV 1) (q_ 2)))
 (cB (aT (Zl (k_ (mV 2) (q_ 0)) (mC (.str "add"))))
  (Ek "total" (mV 0)<|k_ (mV 2)<|q_ 2)
  cJ))
abbrev eT:Fn:=mFn 3 lF
abbrev pJ:Ms:=
 (cB (aT (Zl (mV 2) (k_ (mV 1) (q_ 0))))
   (aX<|aB vLe (k_ (mV 1)<|q_ 1)<|mV 3)
   cJ)
abbrev wM:Ms:=
 (aG (fF (aY (mV 0)) (gTp 2 (gCn (gN 2) (gCn (gN 3) gNl))) pJ)
 (aX (mC (.bl false))))
abbrev kA:Fn:=mFn 4 wM
abbrev jQ:Ms:=
 (aG (rK (mV 1) (gTp 3 (gCn (gN 2) (gCn (gN 3) (gCn (gN 4) gNl)))))
 (cB (aT (Zl (k_ (mV 4) (q_ 0)) (mC (.str "choose"))))
  (aG (aP 5 (aW [b_,a_ 3] (aY (mUn (aO "standing") (mV 0))) (gN 0) (zI (aT (bO 2 kA (aA (mV 1) (aA (k_ (mV 0) (q_ 0)) aC))))) (mV 0)))
  (iN "standing" (mV 0) (ZC (mV 5) (jG (aA (aU (aA (mV 2) (aA (k_ (mV 4) (q_ 2)) aC))) aC)))))
  cJ))
abbrev dR:Fn:=mFn 6 jQ
abbrev lG:Ms:=(aX<|Zl (bF "kind_of" 1 aQ (mV 0)<|aA (mV 1) aC)<|mIf (aT<|mCB D9<|aA (mV 2)<|aA (mC<|.ty "str") aC) (mC<|.str "map")<|mC<|.str "row")
abbrev eU:Fn:=mFn 3 lG
abbrev wN:Ms:=
 (aG (rK (mV 0) (gTp 2 (gCn (gN 2) (gCn (gN 3) gNl))))
 (aG (rK (mV 1) (gTp 2 (gCn (gN 4) (gCn (gN 5) gNl))))
 (aX (ZC (mV 2) (aU (aA (aU (aA (mV 3) (aA (mV 4) (aA (mV 5) (aA (q_ 0) aC))))) aC))))))
abbrev wO:Fn:=mFn 6 wN
abbrev pK:Ms:=(aX<|mIf (aT<|mCB D9<|aA (mV 0)<|aA (mC<|.ty "str") aC) (mV 0)<|bO 2 wO<|aA (mV 0)<|aA (mV 1) aC)
abbrev lH:Fn:=mFn 2 pK
abbrev wQ:Str->C_ Fn:=λ(z:Str)=>if z=("Tree" : Str) then a_ eU else(λ_=>b_) z
abbrev fM:Ms:=
 (aG (rK (mV 2) (gTp 4 (gCn (gN 3) (gCn (gN 4) (gCn (gN 5) (gCn (gN 6) gNl))))))
 (aG (cB (zI (aT (bF "takes" 2 wQ (mV 0) (aA (mV 5) (aA (mV 6) aC)))))
  oF
  cJ)
 (aG (iA (aU (aA (mV 4) (aA (mV 5) (aA (bO 2 lH (aA (mV 6) (aA (mV 1) aC))) aC)))) (mUn (aO "made") (mV 0)) (mV 1))
 (aX (mC (.str "done"))))))
abbrev fN:Fn:=mFn 7 fM
abbrev lI:Str->C_ Fn:=λ(z:Str)=>if z=("Tree" : Str) then a_ fN else(λ_=>b_) z
abbrev mT:Ms:=
 (aG (rK (mV 1) (gTp 3 (gCn (gN 2) (gCn (gN 3) (gCn (gN 4) gNl)))))
 (aG (cB (aT (Zl (k_ (mV 4) (q_ 0)) (mC (.str "make"))))
  (aX<|bF "hear_make" 2 lI (mV 0)<|aA (mV 2)<|aA (mV 4) aC)
  cJ)
 (aG oF
 (aG oF
 oF))))
abbrev gH:Fn:=mFn 5 mT
abbrev eV:Str->C_ Fn:=λ(z:Str)=>if z=("Count" : Str) then a_ eT else(λ(z:Str)=>if z=("Choice" : Str) then a_ dR else(λ(z:Str)=>if z=("Tree" : Str) then a_ gH else(λ_=>b_) z) z) z
abbrev dH:Ms:=
 (aG (aP 2 (bF "hear" 1 eV (mUn (aO "tree") (mV 0)) (aA (mV 1) aC)))
 (aG (aP 3 (k_ (mV 1) (q_ 2)))
 (aG (cB (Bx (aT (Zl (k_ (mV 3) (q_ 0)) (mC (.str "make")))) (aT (Zl (mV 2) (mC (.str "done")))))
  (lQ<|bF "add_leaf" 2 eG (mV 0)<|aA (k_ (mV 1)<|q_ 0)<|aA (k_ (mV 3)<|q_ 1) aC)
  cJ)
 (aX (mV 2)))))
abbrev dI:Fn:=mFn 4 dH
abbrev pL:Ms:=(aX<|mUn (vGd [("add","count"),("choose","choice"),("put","bag"),("take","bag"),("write","text"),("cut","text"),("mark","text"),("clear","text")])<|mV 0)
abbrev iS:Fn:=mFn 1 pL
abbrev lJ:Str->C_ Fn:=λ(z:Str)=>if z=("Folding" : Str) then a_ dI else(λ_=>b_) z
abbrev eX:Ms:=
 (aG (aP 2 (k_ (mV 1) (q_ 2)))
 (aG (cB (aT (aB fH (k_ (mV 2) (q_ 0)) (aU (aA (mC (.str "make")) (aA (mC (.str "move")) (aA (mC (.str "drop")) aC))))))
  (aX<|bF "hear_tree" 1 lJ (mV 0)<|aA (mV 1) aC)
  cJ)
 (aG (cB (aT (aB eO (k_ (mV 2) (q_ 0)) (aU (aA (mC (.str "back")) (aA (mC (.str "settle")) aC)))))
  (aG (cB (aT (aB Bz (bF "kind_of" 1 aQ (mUn (aO "tree") (mV 0)) (aA (k_ (mV 2) (q_ 1)) aC)) (bO 1 iS (aA (k_ (mV 2) (q_ 0)) aC))))
   oF
   cJ)
  (lQ (bF "hear" 1 eV (k_ (mUn (aO "leaves") (mV 0)) (k_ (mV 2) (q_ 1))) (aA (mV 1) aC))))
  cJ)
 (aX (mC (.str "done"))))))
abbrev cA:Fn:=mFn 3 eX
abbrev gY:Ms:=(aX<|mUn (aO "total")<|mV 0)
abbrev dW:Fn:=mFn 1 gY
abbrev fO:Ms:=(aX<|mCB iK<|aA (mUn (aO "standing")<|mV 0) aC)
abbrev dG:Fn:=mFn 1 fO
abbrev eC:Str->C_ Fn:=λ(z:Str)=>if z=("Count" : Str) then a_ dW else(λ(z:Str)=>if z=("Choice" : Str) then a_ dG else(λ_=>b_) z) z
abbrev cZ:Ms:=(aX<|mIf (aT<|aB fH (mV 1)<|mUn (aO "leaves")<|mV 0) (bF "content" 0 eC (k_ (mUn (aO "leaves")<|mV 0)<|mV 1) aC)<|mC .non)
abbrev bX:Fn:=mFn 2 cZ
abbrev mU:Ms:=(aX<|k_ (mV 0)<|q_ 0)
abbrev tG:Fn:=mFn 1 mU
abbrev mW:Ms:=(aX<|kM tG false<|rU true (nW bP dF<|mUn (aO "made")<|mV 0)<|aW [b_,b_] (mO true<|nW bP dF<|mUn (aO "made")<|mV 0) (gTp 2<|gCn (gN 0)<|gCn (gN 1) gNl) gM<|ZC (aU<|aA (mV 0) aC)<|mV 1)
abbrev jB:Fn:=mFn 1 mW
abbrev mX:Ms:=(aX<|mCB iK<|aA (mUn (aO "failed")<|mV 0) aC)
abbrev gI:Fn:=mFn 1 mX
abbrev AN:Str->C_ Fn:=λ(z:Str)=>if z=("Tree" : Str) then a_ gI else(λ_=>b_) z
abbrev uF:Str->C_ Fn:=λ(z:Str)=>if z=("Tree" : Str) then a_ jB else(λ_=>b_) z
abbrev fS:Str->C_ Fn:=λ(z:Str)=>if z=("Folding" : Str) then a_ bX else(λ_=>b_) z
abbrev iT:Ms:=(aX<|aU<|aA (aW [b_,a_ 0] (aY<|bF "rows" 0 uF (mUn (aO "tree")<|mV 0) aC) (gN 0) gM<|ZC (mV 0)<|aU<|aA (bF "content_of" 1 fS (mV 1)<|aA (k_ (mV 0)<|q_ 0) aC) aC)<|aA (bF "lost" 0 AN (mUn (aO "tree")<|mV 0) aC) aC)
abbrev eY:Fn:=mFn 1 iT
abbrev lK:Str->C_ Fn:=λ(z:Str)=>if z=("Count" : Str) then a_ eT else(λ(z:Str)=>if z=("Choice" : Str) then a_ dR else(λ(z:Str)=>if z=("Tree" : Str) then a_ gH else(λ(z:Str)=>if z=("Folding" : Str) then a_ cA else(λ_=>b_) z) z) z) z
abbrev AO:Str->C_ Fn:=λ(z:Str)=>if z=("Folding" : Str) then a_ eY else(λ_=>b_) z
abbrev wR:Ms:=(lQ<|bF "hear" 1 lK (mV 2)<|aA (mV 3) aC)
abbrev Dy:Ms:=
 (aG (aP 2 (lN "Folding" 1 bH (aA (mV 0) aC)))
 (aG (fF (aY (bO 1 iP (aA (mV 1) aC))) (gN 3) wR)
 (aX (bF "base" 0 AO (mV 2) aC))))
abbrev Dz:Fn:=mFn 4 Dy
abbrev AQ:Ms:=(aX<|aU<|aA (jG aC)<|aA (jG aC) aC)
abbrev uG:Fn:=mFn 0 AQ
abbrev sA:Ms:=(aX<|bO 1 Dx<|aA (bO 2 Dz<|aA (AG uG)<|aA (bO 1 iQ<|aA (mV 0) aC) aC) aC)
abbrev nP:Fn:=mFn 1 sA
abbrev qO:Ms:=
 (cB (aT (Zl (aW [b_,a_ 6,a_ 8] (aY (mSl (mV 6) (mP (ZC (mV 8) (q_ 1))) iJ)) (gN 0) (aT (bO 2 zZ (aA (mV 0) (aA (k_ (k_ (mV 1) (mV 2)) (q_ 0)) aC)))) (mV 0)) (jG aC)))
   (lQ<|mMt isL (onL cF) (mV 7)<|aA (k_ (k_ (k_ (mV 6)<|mV 8)<|q_ 2)<|q_ 2) aC)
   cJ)
abbrev Ih:Ms:=
 (aG (aP 1 (bO 2 nM (aA (mV 0) (aA (q_ 0) aC))))
 (aG (aP 2 (bO 2 AI (aA (mV 1) (aA (ZC (q_ 2) (aB dB (aB D2 (mV 1) (q_ 24)) (q_ 3))) aC))))
 (aG (aP 3 (bO 2 AK (aA (mSl (mV 0) (mP (q_ 1)) (mP (q_ 37))) (aA (mV 2) aC))))
 (aG (aP 4 (bO 1 iQ (aA (mV 3) aC)))
 (aG (aP 5 (mCB BA (aA (aW [b_] (aY (mV 4)) (gN 0) (aT (Zl (k_ (k_ (mV 0) (q_ 2)) (q_ 0)) (mC (.str "add")))) (k_ (k_ (mV 0) (q_ 2)) (q_ 2))) aC)))
 (aG (aP 6 (aW [b_] (aY (mV 4)) (gN 0) (aT (Zl (k_ (k_ (mV 0) (q_ 2)) (q_ 0)) (mC (.str "choose")))) (mV 0)))
 (aG (aP 7 (jG aC))
 (aG (fF (mF (aA (mCB mE (aA (mV 6) aC)) aC)) (gN 8) qO)
 (aG (aP 9 (mCB iK (aA (mV 3) aC)))
 (aG (cB (aT (Zl (aB dB (aB D2 (mV 1) (q_ 72)) (q_ 2)) (q_ 1)))
  (aP 9<|ZC (mUn tE<|mV 3)<|mSl (mV 3) iJ<|mP<|q_ 4)
  cJ)
 (aG (aP 10 (mCB iK (aA (mV 9) aC)))
 (aG (aP 11 (bO 1 nP (aA (mV 9) aC)))
 (aG (aP 12 (aU (aA (mC (.str "one")) (aA (aU (aA (k_ (mV 2) (q_ 0)) (aA (q_ 2) aC))) (aA (aU (aA (mC (.str "choice")) (aA (mUn gG (mV 7)) aC))) aC)))))
 (aX (zJ (aB FY (mV 11) (aU (aA (mC (.str "map")) (aA (jG (aA (mV 12) (aA (aU (aA (mC (.str "sum")) (aA (aU (aA (k_ (mV 2) (q_ 0)) (aA (q_ 1) aC))) (aA (aU (aA (mC (.str "count")) (aA (mV 5) aC))) aC)))) aC))) aC)))) (aB FV (mV 9) (mV 10)))))))))))))))))
abbrev Ii:Fn:=mFn 13 Ih
end
@[reducible]def Seen:=B_<|Str×Int
abbrev look:Seen->Str->Z2 0
 |[],_=>b_
 |p::r,h=>if p.1=h then a_ p.2 else look r h
def sC(p:Str×Int)(r:Seen)(h:Str):look (p::r) h=if p.1=h then a_ p.2 else look r h:=(rfl)
abbrev dput(kvs:Seen)(h:Str)(n:Int):Seen:=if(look kvs h).isSome then kvs.map (λp=>if p.1=h then(p.1,n) else p) else kvs++[(h,n)]
abbrev emb(kvs:Seen):B_ (Key×PV):=kvs.map λp=>(.inr p.1,.int p.2)
abbrev row(p:Str×Int):Zq 0:=[.inr p.1,.inl p.2]
abbrev sv(S:Seen):PV:=.tup<|S.map λp=>.tup [.str p.1,.int p.2]
def gJ(h:Str):∀kvs:Seen,aF (emb kvs) (.inr h)=(look kvs h).map PV.int
 |[]=>rfl
 |p::r=>by
  change aF ((Wa p.1,PV.int p.2)::emb r) (.inr h)=_
  unfold aF look;by_cases e:p.1=h
  ·rw[Z5 0,if_pos<|by rw[e]];rfl
  ·rw[Zp 0,if_neg<|l_ e];show gJ h r
def qP(kvs:Seen)(h:Str)(n:Int):bJ (emb kvs) (.inr h) (.int n)=emb (dput kvs h n):=by
 unfold bJ dput;rw[gJ];cases look kvs h with
 |none=>simp[emb]
 |some m=>
  simp only[YK,YF,if_true];unfold emb;rw[VF,VF];apply Wj;intro p _;by_cases e:p.1=h
  ·simp[e]
  ·simp[e]
variable{S:Seen}
def AR{h:Str}{n:Int}:(dput S h n).length<=S.length+1:=by unfold dput;split <;> simp
@[reducible]def C5:Str:="abcdefghijklmnopqrstuvwxyz"
def Ij:C5.cps.toList.length=26:=by decide +kernel
def A0:C5.length=26:=by decide +kernel
def Ik:∀i:Fin 26,C5.cps.toList[i.val]?=a_ (97+i.val):=by decide +kernel
variable{c:Nat}
def Il{x:Str}:(x++(⟨#[c]⟩:Str)).length=x.length+1:=by rw[Str.length_append];rfl
def Er{i:Int}(h0:0<=i)(h1:i<26):atI C5.cps.toList i=a_ (97+i.toNat):=by rw[K2 h0 (by rw[Ij];show h1)];show Ik ⟨i.toNat,⋯⟩
def app_list(x y:Str):(x++y).cps.toList=x.cps.toList++y.cps.toList:=PySem.W.KT.app_list x y
variable{j:Int}{z:Str}
def C6(h0:0<=j)(h1:j<=z.length):(WC z b_<|a_ j).cps.toList=z.cps.toList.take j.toNat:=by
 let ja:j<=z.cps.toList.length:=by simpa[XM] using h1
 let e:WC z b_ (a_ j)=⟨((z.cps.toList.drop 0).take (j-0).toNat).toArray⟩:=StrLaws.sliceText_to ⟨h0,ja⟩;rw[e];simp
def DA(h0:0<=j)(h1:j<=z.length):(WC z (a_ j) b_).cps.toList=z.cps.toList.drop j.toNat:=by
 let ja:j<=z.cps.toList.length:=by simpa[XM] using h1
 let e:=StrLaws.sliceText_from (x:=z) ⟨h0,ja⟩;let e':WC z (a_ j) b_=_:=e;rw[e']
 change List.take _ _=_
 rw[Xm];rw[Yu];omega
def len_list(z:Str):z.cps.toList.length=z.length:=by simp[XM]
abbrev pv(p:Str×Int):PV:=.tup [.str p.1,.int p.2]
def Im(S:Seen):sv S=.tup (S.map pv):=rfl
variable{h hX:PH}{o:MO}
def Es(x:O_ hX):O_ (hX.set h.length o):=λn o' e=>by let hn:=(SC.mp e).1;rw[VD ⋯];show x n o' e
abbrev cell(ns:Z8 0)(i:Nat):Int:=ns.getD i 0
set_option tactic.hygienic true in
def KA(ns:Z8 0)(i:Nat)(h:PH):nM [.fl<|Zv 0,.int i] h=.ok (.int<|cell ns i) h:=by
 let w:(nM [.fl<|Zv 0,.int i] h).W λp h'=>p=.int (cell ns i)/\h'=h:=by
  refine bG ?_;simp[rV,aD];split
  ·rename_i z;let z':i<ns.length:=⋯;let e:atI (Zv 0) (i:Int)=d_ (cell ns i):=kH (by simp[cell,z']);simp[e]
  ·rename_i z;rfl';have:ns.length<=i:=⋯;simp[cell,this]
 let⟨p,h',e,rfl,rfl⟩:=fX w;show e
inductive Kd where
 |settle
 |back (f l:Int)
 |other
deriving DecidableEq
@[reducible]def HD:=Int×Kd
abbrev reach(b:HD)(n:Int):Bool:=match b.2 with
 |.back f l=>decide (f<=n/\n<=l)
 |_=>false
abbrev hit(n:Int)(B:B_ HD):C_ HD:=B.find? λb=>reach b n
abbrev sD:B_ HD->B_ HD->B_ (HD×HD)
 |[],_=>[]
 |d::L,B=>match d.2,hit d.1 B with
  |.settle,_=>sD L []
  |_,a_ b=>(d,b)::sD L B
  |.back _ _,b_=>sD L (B++[d])
  |.other,b_=>sD L B
def A1(d:HD)(L B:B_ HD):sD (d::L) B=match d.2,hit d.1 B with
  |.settle,_=>sD L []
  |_,a_ b=>(d,b)::sD L B
  |.back _ _,b_=>sD L (B++[d])
  |.other,b_=>sD L B:=rfl
@[reducible]def KB(F:B_ HD):Prop:=F.Pairwise<|λa b=>b.1<a.1
abbrev tkH(F B:B_ HD)(n:Int):Prop:=∃x∈sD F B,x.1.1=n
section
variable{α:Type}[DecidableEq α]
abbrev ofH(h:α)(L:B_ (α×HD)):B_ HD:=(L.filter λx=>decide (x.1=h)).map (·.2)
abbrev run:B_ (α×HD)->(α->B_ HD)->B_ (α×HD×HD)
 |[],_=>[]
 |d::L,B=>match d.2.2,hit d.2.1 (B d.1) with
  |.settle,_=>run L λh=>if h=d.1 then[] else B h
  |_,a_ b=>(d.1,d.2,b)::run L B
  |.back _ _,b_=>run L λh=>if h=d.1 then B h++[d.2] else B h
  |.other,b_=>run L B
def wU(d:α×HD)(L:B_ (α×HD))(B:α->B_ HD):run (d::L) B=match d.2.2,hit d.2.1 (B d.1) with
  |.settle,_=>run L λh=>if h=d.1 then[] else B h
  |_,a_ b=>(d.1,d.2,b)::run L B
  |.back _ _,b_=>run L λh=>if h=d.1 then B h++[d.2] else B h
  |.other,b_=>run L B:=rfl
set_option tactic.hygienic true in
def lL(h:α):∀(L:B_ (α×HD))(B:α->B_ HD),((run L B).filter λx=>decide (x.1=h)).map (·.2)=sD (ofH h L) (B h)
 |[],_=>rfl
 |d::L,B=>by
  unfold ofH;by_cases e:d.1=h
  ·subst e;rw[V6,if_pos<|decide_eq_true rfl,Vd];rw[wU,A1];split
   ·rw[lL d.1 L];simp[ofH]
   ·rename_i b e1 e2;rw[V6,if_pos<|decide_eq_true rfl,Vd,lL d.1 L];rfl
   ·rename_i e1 e2;rw[lL d.1 L];simp[ofH]
   ·rename_i e1 e2;rw[lL d.1 L];simp[ofH]
  ·rw[V6,if_neg<|l_ e];let e':h≠d.1:=λz=>e z.symm;rw[wU];split
   ·rw[lL h L];simp[ofH,e']
   ·rw[V6,if_neg<|l_ e,lL h L];rfl
   ·rw[lL h L];simp[ofH,e']
   ·rw[lL h L];rfl
abbrev Tk(L:B_ (α×HD))(h:α)(n:Int):Prop:=∃x∈run L (λ_=>[]),x.1=h/\x.2.1.1=n
def NA{L:B_ (α×HD)}{h:α}{n:Int}:Tk L h n↔tkH (ofH h L) [] n:=by
 unfold Tk tkH;rw[<-lL h L λ_=>[]];constructor
 ·rintro⟨x,hx,rfl,rfl⟩;show⟨x.2,Vl.mpr ⟨x,V2.mpr ⟨hx,by simp⟩,rfl⟩,rfl⟩
 ·rintro⟨y,hy,rfl⟩;let⟨x,hx,rfl⟩:=Vl.mp hy;let⟨h1,h2⟩:=V2.mp hx;show⟨x,h1,l_ h2,rfl⟩
end
structure Dd where
 nm:Str×Int
 seen:Seen
 kd:Kd
 act:B_ PV
abbrev dP(d:Dd):PV:=.tup [pv d.nm,ZN 0,.tup d.act]
abbrev word:Kd->Str
 |.settle=>"settle"
 |.back _ _=>"back"
 |.other=>"other"
abbrev WfA:Kd->Y4 0->Prop
 |.settle,a=>a=[.str "settle"]
 |.back f l,a=>a=[.str "back",.int f,.int l]
 |.other,a=>∃w r,a=.str w::r/\w≠"settle" /\ w≠"back"
structure Wf(d:Dd):Prop where
 len:d.seen.length<=100
 act:WfA d.kd d.act
 pl:d.act.all (PV.pl 37)=true
abbrev hdD(d:Dd):HD:=(d.nm.2,d.kd)
abbrev tri(d:Dd):Str×HD:=(d.nm.1,hdD d)
abbrev tot(S:Seen):Int:=(S.map (·.2)).sum
abbrev kyL(d:Dd):Zq 0:=[.inl<|1+tot d.seen,.inr d.nm.1,.inl d.nm.2]
def dP0{d:Dd}:vIx (dP d) (.int 0) h=.ok (pv d.nm) h:=by unfold dP;simp
def dP1{d:Dd}:vIx (dP d) (.int 1) h=.ok (ZN 0) h:=by unfold dP;simp
def dP2{d:Dd}:vIx (dP d) (.int 2) h=.ok (.tup d.act) h:=by unfold dP;simp
variable{p:Str×Int}
def pv0:vIx (pv p) (.int 0) h=.ok (.str p.1) h:=by unfold pv;simp
def pv1:vIx (pv p) (.int 1) h=.ok (.int p.2) h:=by unfold pv;simp
def iU{q:Str×Int}(e:pv p=pv q):p=q:=by unfold pv at e;let e':=PV.tup.inj e;simp at e';show Prod.ext e'.1 e'.2
def Lq:(PV.tup [.str p.1,.int p.2]).ky 6=true:=rfl
def Ip(d:Dd)(hS:d.seen.length<=100)(h:PH)(Q:PV->PH->Prop)(k:∀h',O_ h'->Q (.int<|1+tot d.seen) h'):(AL [dP d] h).W Q:=by
 refine bG ?_;let hc:=FC (js:=[b_]) (tg:=gN 0) (tst:=gM) (elt:=k_ (mV 0)<|q_ 1) (m:=k_ (mV 0)<|q_ 1) (δ:=[a_<|dP d]) (h:=h) (h1:=h) (ys:=d.seen) (emb:=pv)
  (λq=>d_ q.2) (by simp[dP1,Im]) ⋯ (λq hq=>⟨_,rfl,λh3 _=>⟨rfl,by simp[cQ,pv1]⟩⟩)
 let es:d.seen.filterMap (λq=>a_<|PV.int q.2)=(d.seen.map (·.2)).map PV.int:=by rw[filterMap_some,VF];rfl
 rw[es]at hc;let gs:(h++[MO.lst ((d.seen.map (·.2)).map PV.int)])[h.length]?=a_ (.lst ((d.seen.map (·.2)).map PV.int)):=aE;change (uE [a_<|dP d] h).W _;unfold uE;rw[Hn,E9,Ll,Rs.bind_ok,N1,Ho,hc];simp only[Rs.bind_ok,JY,BB gs,Fz,vO];show k _<|F_ _
def KC(d:Dd)(hS:d.seen.length<=100)(h:PH)(Q:PV->PH->Prop)(k:∀h',O_ h'->Q (tP<|kyL d) h'):(Dv [dP d] h).W Q:=by
 refine bG ?_;unfold Du;rw[aD];simp[dP0];refine⟨[a_<|dP d,a_<|.str d.nm.1,d_ d.nm.2],by simp[pv],?_⟩;rfl';simp;refine Ip d hS _ _ λh' hx=>?_
 try simp
 show k h' hx
abbrev ent(d:Dd):PV×PV:=(pv d.nm,dP d)
def C7(p:Str×Int):∀es:B_ Dd,(aF (es.map ent)<|pv p).isSome=true↔p∈es.map (·.nm)
 |[]=>by simp[aF]
 |d::es=>by
  rw[Vd,Vd,U5]
  change(aF ((pv d.nm,dP d)::es.map ent)<|pv p).isSome=true↔_
  unfold aF;by_cases e:d.nm=p
  ·rw[if_pos<|by rw[e]];simp[e]
  ·rw[if_neg<|λz=>e<|iU z,C7 p es];constructor
   ·show .inr
   ·rintro(z|z)
    ·show(e z.symm).elim
    ·show z
variable{es:B_ Dd}
def KD{d:Dd}(hu:∀x∈es,x.nm=d.nm->x=d):bJ (es.map ent) (pv d.nm) (dP d)=(if d.nm∈es.map (·.nm) then es else es++[d]).map ent:=by
 unfold bJ;let hl:=C7 d.nm es;by_cases e:d.nm∈es.map (·.nm)
 ·rw[Z5 0,if_pos<|hl.mpr e,VF];apply Wj;intro x hx
  change(if(ent x).1=pv d.nm then((ent x).1,dP d) else ent x)=ent x
  by_cases z:(ent x).1=pv d.nm
  ·rw[if_pos z];have:=hu x hx<|iU z;subst this;rfl
  ·rw[if_neg z]
 ·rw[Zp 0,if_neg<|λz=>e<|hl.mp z,VP];rfl
def KF(xs:B_ Dd):tT (xs.map kyL)=true:=by
 cases xs with
 |nil=>rfl
 |cons a r=>rw[Vd];unfold tT;rw[VA];refine⟨rfl,Vs.mpr λz hz=>?_⟩;let⟨q,_,rfl⟩:=Vl.mp hz;rfl
def C8{β:Type}(f:Dd->β)(hf:∀a b,f a=f b->a.nm=b.nm):∀{xs:B_ Dd},(xs.map (·.nm)).Nodup->(xs.map f).Nodup:=λ{xs} h=>by unfold List.Nodup at*;rw[VZ] at*;show h.imp λf6 e=>f6<|hf _ _ e
def Iq(a b:Dd)(e:kyL a=kyL b):a.nm=b.nm:=by unfold kyL at e;simp at e;show Prod.ext e.2.1 e.2.2
variable{n:Nat}
def mY(x:O_ hX)(hn:h.length<=n):O_ (hX.set n o):=λm o' e=>by have:=(SC.mp e).1;rw[VD ⋯];show x m o' e
@[reducible]def eZ(os:B_ Dd):Prop:=os.Pairwise<|λa b=>bI (kyL b) (kyL a)=false
set_option tactic.hygienic true in
def AS(U ds:B_ Dd)(hU:∀d∈ds,d∈U)(hlU:U.length<=63)(hw:∀d∈ds,Wf d)(hl:ds.length<=1000)(hu:∀d∈ds,∀e∈ds,d.nm=e.nm->d=e)(n:Nat)(h:PH)(g:h[n]?=a_ (.lst<|ZX 0))(Q:PV->PH->Prop)
  (k:∀os l h',O_ h'->h.length<=l->h'[l]?=a_ (.lst<|os.map dP)->(os.map (·.nm)).Nodup->(∀d,d∈os↔d∈ds)->eZ os->Q (.ref l) h'):(iP [.ref n] h).W Q:=by
 refine bG ?_;unfold pC;rw[aD];simp;let x0:O_ (h++[MO.dK []]):=F_ _;let g0:bD (h++[MO.dK []]) h.length=a_ (([]:B_ Dd).map ent):=Ef aE;generalize h++[MO.dK []]=hA at x0 g0;rfl';rw[aD];refine oR (n:=n) (xs:=ZX 0) (h1:=hA) (λq δ h'=>∃es:B_ Dd,O_ h'/\bD h' h.length=a_ (es.map ent)/\(es.map (·.nm)).Nodup/\(∀d,d∈es↔d∈ds.take q)/\es.length<=q/\∃x2,δ=[c_ n,Zu 0,x2]) (by simp) (x0 _ _ g) ⟨[],x0,g0,by simp,by simp,by simp,_,rfl⟩ ?_ ?_ ?_
 ·rintro q δ h' hq ⟨es,x,_⟩;show x _ _ g
 ·rintro q y δ h' hy ⟨es,x,t,nd,mem,le,x2,rfl⟩;rw[Vf]at hy;let⟨d,hd,rfl⟩:=Vn.mp hy;let fu:q<ds.length:=(SC.mp hd).1;let my:ds.take (q+1)=ds.take q++[d]:=by rw[WS,hd];rfl
  let cy:d∈ds:=VE hd;let f9:∀e∈es,e∈ds:=λe he=>List.mem_of_mem_take<|(mem e).mp he;refine⟨_,rfl,?_⟩;let hp:rO (.ref h.length) (pv d.nm) (dP d) h'=a_ (h'.set h.length<|.dD<|bJ (es.map ent) (pv d.nm)<|dP d):=Dp t Lq (by rw[U2];omega);rw[KD λe he z=>hu e (f9 e he) d cy z]at hp;let hh:∃o,h'[h.length]?=a_ o:=let ⟨o,g,_⟩:=aZ t;⟨o,g⟩;let⟨o,ho⟩:=hh;unfold kR;simp[dP0];refine⟨_,hp,Es x,_,nL<|aS ho,?_,?_,?_⟩
  ·split
   ·show nd
   ·rename_i z;rw[VP,Xg];refine⟨nd,by simp,λa ha b hb e=>?_⟩;rw[List.map_singleton,Va]at hb;subst hb e;show z<|l_ ha
  ·intro e;rw[my];split
   ·rename_i z;rw[mem e,Vx,Va];constructor
    ·show .inl
    ·rintro(z'|rfl)
     ·show z'
     ·let⟨e',jo,en⟩:=Vl.mp (show e.nm∈es.map (·.nm) by simpa using z)
      have:=hu e' (f9 e' jo) e cy en;subst this;show(mem e').mp jo
   ·rw[Vx,Vx,mem e]
  ·split
   ·omega
   ·simp;omega
 ·rintro δ h' ⟨es,x,t,nd,mem,le,x2,rfl⟩;let hle:es.length<=63:=by
   let h1:(es.map (·.nm)).length<=(U.map (·.nm)).length:=XZ nd λp hp=>by let⟨d,hd,rfl⟩:=Vl.mp hp;show Vl.mpr ⟨d,hU d<|List.mem_of_mem_take<|(mem d).mp hd,rfl⟩
   simp at h1;omega
  let⟨o,ho,yr,_⟩:=aZ t;rfl';simp[yr,Kh t];let x1:Ext h' (h'++[MO.vw 1 h.length]):=F_ _;let ei:jJ (.ref h'.length) (h'++[MO.vw 1 h.length])=a_ (es.map dP):=by rw[BU aE<|bZ x1 t,VF];rfl
  generalize h'++[MO.vw 1 h.length]=h2 at x1 ei;let o9:∀d,d∈es↔d∈ds:=λd=>by rw[mem d,U2,Xo]
  refine Ei (key:=kyL) (emb:=dP) (S:=shape [.inl 0,.inr "",.inl 0]) ei ⋯ (KF es) (λ_ _=>rfl) (C8 kyL Iq nd) (λd hd h Q kk=>KC d (hw d<|(o9 d).mp hd).len h Q kk) λos h3 x3 hp ho=>?_;refine k os h3.length _ ((x.trans x1).trans<|x3.trans<|F_ _) (VO x.len<|VO x1.len x3.len) aE ((hp.map _).nodup_iff.mpr nd) (λd=>(hp.mem_iff).trans<|o9 d) ho
def tH(ds:B_ Dd)(hw:∀d∈ds,Wf d)(hl:ds.length<=63)(hu:∀d∈ds,∀e∈ds,d.nm=e.nm->d=e)(n:Nat)(h:PH)(g:h[n]?=a_ (.lst<|ZX 0))(Q:PV->PH->Prop)
  (k:∀os l h',O_ h'->h'[l]?=a_ (.lst<|os.map dP)->(os.map (·.nm)).Nodup->(∀d,d∈os↔d∈ds)->eZ os->Q (.ref l) h'):(iP [.ref n] h).W Q:=by
 show AS ds ds (λ_ h=>h) hl hw ⋯ hu n h g Q λos l h' a _ b c d e=>k os l h' a b c d e
abbrev lk{β:Type}:B_ (Str×β)->Str->C_ β
 |[],_=>b_
 |p::r,w=>if p.1=w then a_ p.2 else lk r w
abbrev dpt{β:Type}(R:B_ (Str×β))(w:Str)(m:β):B_ (Str×β):=if(lk R w).isSome then R.map (λp=>if p.1=w then(p.1,m) else p) else R++[(w,m)]
abbrev em{β:Type}(f:β->PV)(R:B_ (Str×β)):B_ (Key×PV):=R.map λp=>(.inr p.1,f p.2)
def Et{β:Type}(f:β->PV)(w:Str):∀R:B_ (Str×β),aF (em f R) (.inr w)=(lk R w).map f
 |[]=>rfl
 |p::r=>by
  change aF ((Wa p.1,f p.2)::em f r) (.inr w)=_
  unfold aF lk;by_cases e:p.1=w
  ·rw[Z5 0,if_pos<|by rw[e]];rfl
  ·rw[Zp 0,if_neg<|l_ e];show Et f w r
def Lr{β:Type}(f:β->PV)(R:B_ (Str×β))(w:Str)(m:β):bJ (em f R) (.inr w) (f m)=em f (dpt R w m):=by
 unfold bJ dpt;rw[Et];cases lk R w with
 |none=>simp[em]
 |some z=>
  simp only[YK,YF,if_true];unfold em;rw[VF,VF];apply Wj;intro p _;by_cases e:p.1=w
  ·simp[e]
  ·simp[e]
def Ir{β:Type}(w:Str)(m:β)(x:Str):∀R:B_ (Str×β),lk (R.map λp=>if p.1=w then(p.1,m) else p) x=if x=w then(lk R x).map (λ_=>m) else lk R x
 |[]=>by simp[lk]
 |p::r=>by
  rw[Vd];let ih:=Ir w m x r;by_cases e:p.1=w
  ·rw[Z5 0];unfold lk;dsimp only;by_cases z:p.1=x
   ·rw[if_pos z,if_pos z,if_pos<|z.symm.trans e];rfl
   ·rw[if_neg z,if_neg z,ih]
  ·rw[Zp 0];unfold lk;by_cases z:p.1=x
   ·rw[if_pos z,if_pos z,if_neg<|λq=>e<|z.trans q]
   ·rw[if_neg z,if_neg z,ih]
def Iu{β:Type}(w:Str)(m:β)(x:Str):∀R:B_ (Str×β),lk (R++[(w,m)]) x=match lk R x with|some y=>a_ y|none=>if x=w then a_ m else b_
 |[]=>by
  change(if w=x then a_ m else b_)=if x=w then a_ m else b_
  by_cases e:w=x
  ·rw[Z5 0,if_pos e.symm]
  ·rw[Zp 0,if_neg λz=>e z.symm]
 |p::r=>by
  rw[Yv];unfold lk;by_cases z:p.1=x
  ·rw[if_pos z,if_pos z]
  ·rw[if_neg z,if_neg z,Iu w m x r]
def DB{β:Type}(R:B_ (Str×β))(w:Str)(m:β)(x:Str):lk (dpt R w m) x=if x=w then a_ m else lk R x:=by
 unfold dpt;cases e:lk R w with
 |none=>
  rw[if_neg<|by simp,Iu];by_cases z:x=w
  ·subst z;rw[e,YS 0]
  ·rw[if_neg z];cases lk R x <;> simp[z]
 |some y=>
  rw[if_pos<|by simp,Ir];by_cases z:x=w
  ·subst z;rw[YS 0,YS 0,e];rfl
  ·rw[if_neg z,if_neg z]
variable{w:Str}
def KG{β:Type}{R:B_ (Str×β)}{m:β}:(dpt R w m).length<=R.length+1:=by unfold dpt;split <;> simp
abbrev nmL(d:Dd):Zq 0:=[.inr d.nm.1,.inl d.nm.2]
def KH(xs:B_ Dd):tT (xs.map nmL)=true:=by
 cases xs with
 |nil=>rfl
 |cons a r=>rw[Vd];unfold tT;rw[VA];refine⟨rfl,Vs.mpr λz hz=>?_⟩;let⟨q,_,rfl⟩:=Vl.mp hz;rfl
def NB(a b:Dd)(e:nmL a=nmL b):a.nm=b.nm:=by unfold nmL at e;simp at e;show Prod.ext e.1 e.2
def KI(d:Dd)(h:PH)(Q:PV->PH->Prop)(k:Q (pv d.nm) h):(nN [dP d] h).W Q:=by refine bG ?_;simp[rX,dP0];show k
@[reducible]def DC(n:Int)(bs:B_ Dd):C_ Dd:=bs.find? λb=>reach (hdD b) n
set_option tactic.hygienic true in
def Iv(n:Int)(bs:B_ Dd)(hb:∀b∈bs,Wf b/\∃f l,b.kd=.back f l)(hz:bs.length<=100)(m:Nat)(h:PH)(g:h[m]?=a_ (.lst<|bs.map dP))(Q:PV->PH->Prop)(k:Q (match DC n bs with|some b=>pv b.nm|none=>.non) h):(pE [.int n,.ref m] h).W Q:=by
 refine bG ?_;unfold pD;rw[aD];refine oR (n:=m) (xs:=bs.map dP) (h1:=h) (λq δ h'=>h'=h/\(∀b∈bs.take q,reach (hdD b) n=false)/\∃x2 x3 x4 x5,δ=[d_ n,c_ m,x2,x3,x4,x5]) (by simp) g ⟨rfl,by simp,_,_,_,_,rfl⟩ ?_ ?_ ?_
 ·rintro q δ h' hq ⟨rfl,_⟩;show g
 ·rintro q y δ h' hy ⟨rfl,nr,x2,x3,x4,x5,rfl⟩;rw[Vf]at hy;let⟨d,hd,rfl⟩:=Vn.mp hy;let fu:q<bs.length:=(SC.mp hd).1;let⟨wf,f,l,ek⟩:=hb d<|VE hd;let ea:d.act=[.str "back",.int f,.int l]:=by have:=wf.act;rw[ek]at this;show this
  let er:reach (hdD d) n=decide (f<=n/\n<=l):=by
   unfold reach
   change(match d.kd with|.back f l=>decide (f<=n/\n<=l)|_=>false)=_
   rw[ek]
  let split1:bs=bs.take q++d::bs.drop (q+1):=by let e1:bs.drop q=d::bs.drop (q+1):=drop_cons hd;rw[<-e1,List.take_append_drop]
  refine⟨_,rfl,?_⟩;unfold kT;rw[aD];simp[dP2,ea];rfl';simp[dP0];let fin:f<=n->n<=l->Q (pv d.nm) h':=λh1 h2=>by
   have:DC n bs=a_ d:=by
    unfold DC;rw[split1,List.find?_append,List.find?_eq_none.mpr (λb hb=>by rw[nr b hb];decide),List.find?_cons_of_pos (by rw[show reach (hdD d) n=decide (f<=n/\n<=l) from er];show decide_eq_true ⟨h1,h2⟩)]
    rfl
   rw[this]at k;show k
  let u7:¬ (f<=n/\n<=l)->∀b∈bs.take (q+1),reach (hdD b) n=false:=λz b hb=>by
   rw[WS,hd,Vx]at hb;rcases hb with hb|hb
   ·show nr b hb
   ·rw[show(a_ d).toList=[d] from rfl,Va]at hb
    subst hb;rw[er];show decide_eq_false z
  split
  ·rename_i z1;split
   ·rename_i z2;show fin z1 z2
   ·rename_i z2;show u7 λz=>z2 z.2
  ·rename_i z1;show u7 λz=>z1 z.1
 ·rintro δ h' ⟨rfl,nr,x2,x3,x4,x5,rfl⟩;rw[U2,Xo]at nr;have:DC n bs=b_:=List.find?_eq_none.mpr λb hb=>by rw[nr b hb];decide
  rw[this]at k;rfl';simp;show k
abbrev tk(x:Str×HD×HD):PV×PV:=(pv (x.1,x.2.1.1),pv (x.1,x.2.2.1))
def AU(p:Str×Int):∀T:B_ (Str×HD×HD),(aF (T.map tk)<|pv p).isSome=true ↔ ∃x∈T,x.1=p.1/\x.2.1.1=p.2
 |[]=>by simp[aF]
 |y::T=>by
  rw[Vd]
  change(aF ((pv (y.1,y.2.1.1),pv (y.1,y.2.2.1))::T.map tk)<|pv p).isSome=true↔_
  unfold aF;by_cases e:(y.1,y.2.1.1)=p
  ·rw[if_pos<|by rw[e]];constructor
   ·intro _;show⟨y,UV,by rw[<-e],by rw[<-e]⟩
   ·intro _;rfl
  ·rw[if_neg<|λz=>e<|iU z,AU p T];constructor
   ·rintro⟨x,hx,q⟩;show⟨x,U4 _ hx,q⟩
   ·rintro⟨x,hx,q1,q2⟩;rcases U5.mp hx with rfl|hx
    ·show(e<|Prod.ext q1 q2).elim
    ·show⟨x,hx,q1,q2⟩
def KJ(n:Int)(bs:B_ Dd):hit n (bs.map hdD)=(DC n bs).map hdD:=by unfold hit DC;rw[List.find?_map];rfl
def KL{d:Dd}(w:Wf d):∃x r,d.act=.str x::r/\(x="settle" ↔ d.kd=.settle)/\(x="back" ↔ ∃f l,d.kd=.back f l):=by
 let h:=w.act;cases e:d.kd with
 |settle=>rw[e]at h;show⟨"settle",[],h,by simp,by simp;decide⟩
 |back f l=>rw[e]at h;show⟨"back",_,h,by simp;decide,by simp⟩
 |other=>rw[e]at h;let⟨x,r,e1,n1,n2⟩:=h;show⟨x,r,e1,by simp[n1],by simp[n2]⟩
@[reducible]def Iw(L:B_ Dd):Prop:=L.Pairwise<|λa b=>bI (nmL a) (nmL b)=false
structure BOk(sl lb:Nat)(q:Nat)(h':PH)(R:B_ (Str×Nat))(Bd:Str->B_ Dd):Prop where
 at':∀w m,lk R w=some m->h'[m]?=some (.lst ((Bd w).map dP))/\lb<m/\m≠sl
 no:∀w,lk R w=none->Bd w=[]
 inj:∀w w' m,lk R w=some m->lk R w'=some m->w=w'
 back:∀w,∀b∈Bd w,b.nm.1=w/\Wf b/\∃f l,b.kd=.back f l
 len:∀w,(Bd w).length<=q
 lenR:R.length<=q
variable{Bd:Str->B_ Dd}{h' h2:PH}{lb sl:Nat}
def BOk.get{q:Nat}{R:B_ (Str×Nat)}(b:BOk sl lb q h' R Bd)(e:Ext h' h2):BOk sl lb q h2 R Bd:=⟨λw m z=>let ⟨a,c,d⟩:=b.at' w m z;⟨e _ _ a,c,d⟩,b.no,b.inj,b.back,b.len,b.lenR⟩
def BOk.up{q:Nat}{R:B_ (Str×Nat)}(b:BOk sl lb q h' R Bd):BOk sl lb (q+1) h' R Bd:=⟨b.at',b.no,b.inj,b.back,λw=>XS<|b.len w,XS b.lenR⟩
def BOk.aside{q:Nat}{R:B_ (Str×Nat)}(b:BOk sl lb q h' R Bd)(hn:n<=lb):BOk sl lb q (h'.set n o) R Bd:=⟨λw m z=>let ⟨a,c,d⟩:=b.at' w m z;⟨by rw[VD ⋯];show a,c,d⟩,b.no,b.inj,b.back,b.len,b.lenR⟩
def BOk.skip{q:Nat}{R:B_ (Str×Nat)}(b:BOk sl lb q h' R Bd)(hn:∀x,lk R x≠a_ n):BOk sl lb q (h'.set n o) R Bd:=⟨λw m z=>let ⟨a,c,d⟩:=b.at' w m z;⟨by rw[VD (λe:n=m=>hn w<|e▸z)];show a,c,d⟩,b.no,b.inj,b.back,b.len,b.lenR⟩
def BOk.put{q m:Nat}{R:B_ (Str×Nat)}{bs:B_ Dd}(b:BOk sl lb q h' R Bd)(hm:h'[m]?=a_ (.lst<|bs.map dP))(h1:lb<m)(h2:m≠sl)(hf:∀x,lk R x≠a_ m)(hb:∀b∈bs,b.nm.1=w/\Wf b/\∃f l,b.kd=.back f l)(hl:bs.length<=q+1):BOk sl lb (q+1) h' (dpt R w m) (λx=>if x=w then bs else Bd x) where
 at':=λx m' z=>by
  rw[DB]at z;by_cases e:x=w
  ·rw[Z5 0]at z⊢;cases z
   show⟨hm,h1,h2⟩
  ·rw[Zp 0]at z⊢;show b.at' x m' z
 no:=λx z=>by
  rw[DB]at z;by_cases e:x=w
  ·rw[Z5 0]at z;cases z
  ·rw[Zp 0]at z⊢;show b.no x z
 inj:=λx y m' z1 z2=>by
  rw[DB]at z1 z2;by_cases e1:x=w <;> by_cases e2:y=w
  ·rw[e1,e2]
  ·rw[if_pos e1]at z1;rw[if_neg e2]at z2;cases z1;show(hf y z2).elim
  ·rw[if_neg e1]at z1;rw[if_pos e2]at z2;cases z2;show(hf x z1).elim
  ·rw[if_neg e1]at z1;rw[if_neg e2]at z2;show b.inj x y m' z1 z2
 back:=λx y hy=>by
  by_cases e:x=w
  ·simp only[Z5 0]at hy;rw[e];show hb y hy
  ·simp only[Zp 0]at hy;show b.back x y hy
 len:=λx=>by
  by_cases e:x=w
  ·simp only[Z5 0];show hl
  ·simp only[Zp 0];show XS<|b.len x
 lenR:=VO KG<|Nat.succ_le_succ b.lenR
def BOk.grow{q m:Nat}{R:B_ (Str×Nat)}{d:Dd}(b:BOk sl lb q h' R Bd)(hm:lk R d.nm.1=a_ m)(hw:Wf d)(hk:∃f l,d.kd=.back f l):
  BOk sl lb (q+1) (h'.set m<|.lst<|(Bd d.nm.1++[d]).map dP) R (λx=>if x=d.nm.1 then Bd d.nm.1++[d] else Bd x) where
 at':=λx m' z=>by
  let⟨a,c,e⟩:=b.at' x m' z;by_cases ew:x=d.nm.1
  ·subst ew;rw[hm]at z;cases z;rw[YS 0];show⟨aS a,c,e⟩
  ·rw[if_neg ew,VD (λzz:m=m'=>ew<|b.inj _ _ m' z<|zz▸hm)];show⟨a,c,e⟩
 no:=λx z=>by
  by_cases e:x=d.nm.1
  ·rw[e,hm]at z;cases z
  ·rw[Zp 0];show b.no x z
 inj:=b.inj
 back:=λx y hy=>by
  by_cases e:x=d.nm.1
  ·simp only[Z5 0]at hy;rcases Vx.mp hy with hy|hy
   ·rw[e];show b.back _ y hy
   ·rw[Va.mp hy];show⟨e.symm,hw,hk⟩
  ·simp only[Zp 0]at hy;show b.back x y hy
 len:=λx=>by
  by_cases e:x=d.nm.1
  ·simp only[Z5 0];rw[WG];show Nat.succ_le_succ<|b.len _
  ·simp only[Zp 0];show XS<|b.len x
 lenR:=XS b.lenR
abbrev TI(h:PH)(n sl:Nat)(L:B_ Dd)(q:Nat)(δ:Ev)(h':PH):Prop:=∃T R Bd,O_ h'/\h'[sl]?=a_ (.lst<|L.map dP)/\bD h' h.length=a_ (T.map tk)/\h'[h.length+1]?=a_ (.dK<|em PV.ref R)/\BOk sl (h.length+1) q h' R Bd/\T.length<=q/\(∀x∈T,(x.1,x.2.1.1)∈(L.take q).map (·.nm))/\
   run (L.map tri) (λ_=>[])=T++run ((L.drop q).map tri) (λw=>(Bd w).map hdD)/\∃x3 x4 x5 x6 x7,δ=[c_ n,Zu 0,c_<|h.length+1,x3,x4,x5,x6,x7]
def FZ(os:B_ Dd)(hw:∀d∈os,Wf d)(hl:os.length<=63)(nd:(os.map (·.nm)).Nodup)(n:Nat)(h:PH)(g:h[n]?=a_ (.lst<|os.map dP))(Q:PV->PH->Prop)
  (k:∀L l h',O_ h'->L.Perm os->Iw L->bD h' l=a_ ((run (L.map tri) λ_=>[]).map tk)->Q (.ref l) h'):(wL [.ref n] h).W Q:=by
 refine bG ?_;unfold wK;rw[aD];simp;rfl';rw[aD];simp;let x0:O_ (h++[MO.dK [],MO.dK []]):=F_ _;let gt:bD (h++[MO.dK [],MO.dK []]) h.length=a_ (([]:B_ (Str×HD×HD)).map tk):=Ef (by simp);let gb:(h++[MO.dK [],MO.dK []])[h.length+1]?=a_ (.dK<|em PV.ref []):=by simp[em]
 generalize h++[MO.dK [],MO.dK []]=hA at x0 gt gb;rfl';rw[aD];let gA:=x0 _ _ g
 -- the sort comes first
 let S6:(jK nN true (.ref n) hA).W λp h2=>∃L h3,p=.ref h3.length/\h2=h3++[.lst<|L.map dP]/\Ext hA h3/\L.Perm os/\Iw L:=Ei (key:=nmL) (emb:=dP) (S:=shape [.inr "",.inl 0]) (wB gA) ⋯ (KH os) (λ_ _=>rfl) (C8 nmL NB nd) (λd hd h Q kk=>KI d h Q<|kk h<|Ext.refl h) λL h3 x3 hp ho=>⟨L,h3,rfl,rfl,x3,hp,ho⟩;let⟨p,h2,e2,L,h3,rfl,rfl,x3,hp,hf⟩:=fX S6;let hlA:h.length+1<hA.length:=(SC.mp gb).1;let ye:hA.length<=h3.length:=x3.len;let x1:O_ (h3++[.lst<|L.map dP]):=x0.trans<|x3.trans<|F_ _;let Ss:=bZ (x3.trans<|Ext.app h3 [.lst<|L.map dP]) gt;let Sr:=(x3.trans<|Ext.app h3 [.lst<|L.map dP]) _ _ gb;let gs:(h3++[.lst<|L.map dP])[h3.length]?=a_ (.lst<|L.map dP):=aE;let n4:h.length+1<h3.length:=⋯;generalize h3.length=sl at e2 gs n4;generalize h3++[.lst<|L.map dP]=hB at e2 x1 Ss Sr gs;let Up:∀d∈L,Wf d:=λd hd=>hw d<|hp.mem_iff.mp hd;let u2:(L.map (·.nm)).Nodup:=(hp.map _).nodup_iff.mpr nd;let hlL:L.length<=63:=by rw[hp.length_eq];show hl
 refine oR (n:=sl) (xs:=L.map dP) (h1:=hB) (TI h n sl L) ?_ gs ?_ ?_ ?_ ?_
 ·simp[e2]
 ·show⟨[],[],λ_=>[],x1,gs,Ss,Sr,⟨λw m z=>(by cases z),λ_ _=>rfl,λw w' m z=>(by cases z),λw b hb=>(by cases hb),λ_=>Vr _,Vr _⟩,Vr _,λx hx=>(by cases hx),by simp,_,_,_,_,_,rfl⟩
 ·rintro q δ h' hq ⟨T,R,Bd,x,g1,_⟩;show g1
 ·rintro q y δ h' hy ⟨T,R,Bd,x,g1,g2,g3,b,lT,nT,hr,x3,x4,x5,x6,x7,rfl⟩;rw[Vf]at hy;let⟨d,u4,rfl⟩:=Vn.mp hy;let fu:q<L.length:=(SC.mp u4).1;let vb:L.drop q=d::L.drop (q+1):=drop_cons u4;let my:L.take (q+1)=L.take q++[d]:=by rw[WS,u4];rfl
  let wf:=Up d<|VE u4;let⟨wd,r,ea,es,eb⟩:=KL wf;rw[vb,Vd,wU]at hr;let iu:d.nm∉(L.take q).map (·.nm):=λz=>by
   let e1:L.map (·.nm)=(L.take q).map (·.nm)++(d::L.drop (q+1)).map (·.nm):=by rw[<-VP,<-vb,List.take_append_drop]
   rw[e1,Xg]at u2;show u2.2.2 _ z _ (by simp) rfl
  let sj:∀x∈T,(x.1,x.2.1.1)∈(L.take<|q+1).map (·.nm):=λx hx=>by rw[my,VP];show Ws _<|nT x hx
  refine⟨_,rfl,?_⟩;unfold pF;rw[aD];simp[dP0];refine⟨[c_ n,Zu 0,c_<|h.length+1,a_<|dP d,a_<|.str d.nm.1,d_ d.nm.2,x6,x7],by simp[pv],?_⟩;rfl';rw[aD];simp[dP2,ea];rfl';rw[aD];let qi:h.length+1<h'.length:=(SC.mp g3).1;let UP:sl<h'.length:=(SC.mp g1).1;by_cases c1:wd="settle"
  ·let ek:=es.mp c1;simp[c1,aD];let y1:Ext h' (h'++[MO.lst []]):=F_ _;let y2:(h'++[MO.lst []])[h'.length]?=a_ (.lst<|([]:B_ Dd).map dP):=aE;generalize h'++[MO.lst []]=h2 at y1 y2;let z0:=y1 _ _ g3;let jz:rO (.ref<|h.length+1) (.str d.nm.1) (.ref h'.length) h2=a_ (h2.set (h.length+1)<|.dK<|em PV.ref<|dpt R d.nm.1 h'.length):=by rw[Ee z0 (by unfold em;rw[U2];have:=b.lenR;omega),Lr]
   let b1:=((b.get y1).put (w:=d.nm.1) (bs:=[]) y2 qi ⋯ (λx z=>by have:=(SC.mp (b.at' x _ z).1).1;omega) (λb hb=>by cases hb) (Vr _)).aside (n:=h.length+1) (o:=.dK<|em PV.ref<|dpt R d.nm.1 h'.length)<|U1 _
   let x2:O_ (h2.set (h.length+1)<|.dK<|em PV.ref<|dpt R d.nm.1 h'.length):=mY (x.trans y1) ⋯;let Te:(h2.set (h.length+1)<|.dK<|em PV.ref<|dpt R d.nm.1 h'.length)[sl]?=a_ (.lst<|L.map dP):=aJ (y1 _ _ g1) ⋯;let⟨o,ho,_,hh⟩:=aZ<|bZ y1 g2;let SM:=hh _<|aJ (n:=h.length+1) (m:=h.length) (o':=.dK<|em PV.ref<|dpt R d.nm.1 h'.length) ho ⋯;refine⟨_,jz,now ?_⟩;simp;refine⟨T,_,_,x2,Te,SM,aS z0,b1,⋯,sj,?_,_,_,_,_,_,rfl⟩;rw[hr,show(tri d).2.2=.settle from ek]
   simp only;congr 2;funext w
   change(if w=d.nm.1 then[] else(Bd w).map hdD)=_
   by_cases e:w=d.nm.1
   ·rw[Z5 0,Z5 0];rfl
   ·rw[Zp 0,Zp 0]
  ·let ek:d.kd≠.settle:=λz=>c1<|es.mpr z;simp[c1];rfl';rw[aD]
   -- what the hand has so far
   let y1:Ext h' (h'++[MO.lst []]):=F_ _;let y2:(h'++[MO.lst []])[h'.length]?=a_ (.lst<|([]:B_ Dd).map dP):=aE;let yr:bP (.ref<|h.length+1) h'=true:=mI g3;let dr:=qJ (x:=d.nm.1) (z:=.ref h'.length)<|y1 _ _ g3;simp[yr];generalize h'++[MO.lst []]=h2 at y1 y2 dr;rw[Et]at dr;let b1:=b.get y1;let UG:∃m,(((lk R d.nm.1).map PV.ref).getD<|.ref h'.length)=.ref m/\h2[m]?=a_ (.lst<|(Bd d.nm.1).map dP):=by
    cases e:lk R d.nm.1 with
    |some m=>exact⟨m,rfl,(b1.at' _ _ e).1⟩
    |none=>exact⟨h'.length,rfl,by rw[b.no _ e];show y2⟩
   let⟨m,TR,UK⟩:=UG;rw[TR]at dr;simp[dr];refine Iv d.nm.2 (Bd d.nm.1) (λz hz=>(b.back _ z hz).2) (by have:=b.len d.nm.1;omega) m h2 UK _ ?_;let hh:=KJ d.nm.2<|Bd d.nm.1;let jl:=y1 _ _ g1;let rm:=bZ y1 g2;let um:=y1 _ _ g3;let wb:=x.trans y1;cases eh:DC d.nm.2 (Bd d.nm.1) with
   |some z=>
    rw[eh]at hh;simp only[eh];rfl';let UD:z.nm.1=d.nm.1:=(b.back _ z<|List.mem_of_find?_eq_some eh).1;let jz:rO (.ref h.length) (pv d.nm) (pv z.nm) h2=a_ (h2.set h.length<|.dD<|bJ (T.map tk) (pv d.nm)<|pv z.nm):=Dp rm Lq (by rw[U2];omega);let vj:bJ (T.map tk) (pv d.nm) (pv z.nm)=(T++[(d.nm.1,hdD d,hdD z)]).map tk:=by
     unfold bJ;rw[if_neg (λzz=>by let⟨x,hx,e1,e2⟩:=(AU d.nm T).mp zz;show iu (by have:=nT x hx;rw[e1,e2]at this;show this)),VP]
     congr 1;let e3:pv z.nm=pv (d.nm.1,z.nm.2):=by rw[<-UD]
     show[(pv d.nm,pv z.nm)]=[(pv (d.nm.1,d.nm.2),pv (d.nm.1,z.nm.2))]
     rw[e3]
    rw[vj]at jz;let⟨o,ho,_,_⟩:=aZ rm;let nz:rJ (pv z.nm)=false:=rfl;simp[nz,dP0];refine⟨_,jz,T++[(d.nm.1,hdD d,hdD z)],R,Bd,mY wb<|U1 _,aJ jl ⋯,nL<|aS ho,aJ um ⋯,(b1.aside ⋯).up,by simp;omega,?_,?_,_,_,_,_,_,rfl⟩
    ·intro x hx;rcases Vx.mp hx with hx|hx
     ·show sj x hx
     ·rw[Va.mp hx,my,VP];show Vb _ (by simp[hdD])
    ·rw[hr];let e1:hit (tri d).2.1 ((Bd (tri d).1).map hdD)=a_ (hdD z):=hh;rw[Yp];congr 1
     change(match d.kd,hit d.nm.2 ((Bd d.nm.1).map hdD) with|.settle,_=>_|_,a_ b=>_|.back _ _,b_=>_|.other,b_=>_)=_
     rw[hh];cases m6:d.kd with
     |settle=>exact(ek m6).elim
     |back f l=>rfl
     |other=>rfl
   |none=>
    rw[eh]at hh;simp only[eh];rfl';simp;by_cases c2:wd="back"
    ·let⟨f,l,m6⟩:=eb.mp c2;let w9:bP (.ref<|h.length+1) h2=true:=mI um;simp[c2,w9];let z1:Ext h2 (h2++[MO.lst []]):=F_ _;let z2:(h2++[MO.lst []])[h2.length]?=a_ (.lst<|([]:B_ Dd).map dP):=aE;let cj:h'.length<=h2.length:=y1.len;generalize h2++[MO.lst []]=h4 at z1 z2;let y6:=z1 _ _ um;let nq:=Kj (x:=d.nm.1) (z:=.ref h2.length) y6 (by unfold em;rw[U2];have:=b.lenR;omega);rw[Et]at nq;let Su:=wb.trans z1;let nj:run (L.map tri) (λ_=>[])=T++run ((L.drop<|q+1).map tri) (λw=>(if w=d.nm.1 then Bd d.nm.1++[d] else Bd w).map hdD):=by
      rw[hr];congr 1
      change(match d.kd,hit d.nm.2 ((Bd d.nm.1).map hdD) with|.settle,_=>_|_,a_ b=>_|.back _ _,b_=>_|.other,b_=>_)=_
      rw[hh,m6]
      change run _ _=run _ _
      congr 1;funext w
      change(if w=d.nm.1 then(Bd w).map hdD++[hdD d] else(Bd w).map hdD)=_
      by_cases e:w=d.nm.1
      ·rw[Z5 0,Z5 0,e,VP];rfl
      ·rw[Zp 0,Zp 0]
     cases e:lk R d.nm.1 with
     |some m'=>rw[e]at nq;let b4:=b1.get z1;let⟨q1,q2,q3⟩:=b4.at' _ _ e;simp[nq,iE q1];let sk:=dX (p:=dP d) q1 (by rw[U2];have:=b.len d.nm.1;omega);let b5:=b4.grow e wf ⟨f,l,m6⟩;rw[show(Bd d.nm.1).map dP++[dP d]=(Bd d.nm.1++[d]).map dP by simp]at sk;rw[sk,vO];let⟨o,ho,_,vm⟩:=aZ<|bZ z1 rm;show⟨T,R,_,mY Su ⋯,aJ (z1 _ _ jl) ⋯,vm _<|aJ ho ⋯,aJ y6 ⋯,b5,⋯,sj,nj,_,_,_,_,_,rfl⟩
     |none=>
      rw[e]at nq;simp at nq;rw[Lr]at nq;let q1:(h4.set (h.length+1)<|.dK<|em PV.ref<|dpt R d.nm.1 h2.length)[h2.length]?=a_ (.lst<|([]:B_ Dd).map dP):=aJ z2 ⋯;simp[nq,iE q1];let sk:=dX (p:=dP d) q1 (by simp);rw[show(([]:B_ Dd).map dP++[dP d])=[d].map dP from rfl]at sk
      rw[sk,vO];let nox:∀x,lk R x≠a_ h2.length:=λx z=>by have:=(SC.mp (b1.at' x _ z).1).1;omega
      let b6:=((b1.get z1).aside (n:=h.length+1) (o:=.dK<|em PV.ref<|dpt R d.nm.1 h2.length)<|U1 _).skip (n:=h2.length) (o:=.lst<|[d].map dP) nox;let b7:=b6.put (w:=d.nm.1) (bs:=[d]) (m:=h2.length) (aS q1) ⋯ ⋯ nox (λy hy=>by rw[Va.mp hy];show⟨rfl,wf,f,l,m6⟩) (by simp);let eB:Bd d.nm.1=[]:=b.no _ e;rw[eB]at nj;let⟨o,ho,_,vm⟩:=aZ<|bZ z1 rm;refine⟨T,_,_,mY (mY Su ⋯) ⋯,aJ (aJ (z1 _ _ jl) ⋯) ⋯,vm _<|aJ (aJ ho ⋯) ⋯,aJ (aS y6) ⋯,b7,⋯,sj,nj,_,_,_,_,_,rfl⟩
    ·let m6:d.kd=.other:=by
      cases z:d.kd with
      |settle=>exact(ek z).elim
      |back f l=>exact(c2<|eb.mpr ⟨f,l,z⟩).elim
      |other=>rfl
     simp[c2];refine⟨T,R,Bd,wb,jl,rm,um,b1.up,⋯,sj,?_,_,_,_,_,_,rfl⟩;rw[hr];congr 1
     change(match d.kd,hit d.nm.2 ((Bd d.nm.1).map hdD) with|.settle,_=>_|_,a_ b=>_|.back _ _,b_=>_|.other,b_=>_)=_
     rw[hh,m6];rfl
 ·rintro δ h' ⟨T,R,Bd,x,g1,g2,g3,b,lT,nT,hr,x3,x4,x5,x6,x7,rfl⟩;rfl';simp;let vn:run (L.map tri) (λ_=>[])=T:=by
   rw[hr,U2,List.drop_length]
   change T++[]=T
   rw[WZ]
  show k L h.length h' x hp hf (by rw[vn];show g2)
def KM{p q:Dd}(h:bI (nmL p) (nmL q)=false)(e:p.nm.1=q.nm.1)(n:p.nm≠q.nm):q.nm.2<p.nm.2:=by
 unfold nmL at h;let n2:p.nm.2≠q.nm.2:=λz=>n<|Prod.ext e z;let h1:bI [.inr p.nm.1,.inl p.nm.2] [.inr q.nm.1,.inl q.nm.2]=decide (p.nm.2<q.nm.2):=by unfold bI;rw[if_pos<|by rw[e]];unfold bI;rw[if_neg<|λz=>n2<|Sum.inl.inj z];rfl
 rw[h1]at h;have:=of_decide_eq_false h;omega
variable{L:B_ Dd}
def Eu{x:HD}:x∈ofH w (L.map tri) ↔ ∃d∈L,d.nm.1=w/\hdD d=x:=by
 unfold ofH;rw[Vl];constructor
 ·rintro⟨y,hy,rfl⟩;let⟨h1,h2⟩:=V2.mp hy;let⟨d,hd,rfl⟩:=Vl.mp h1;show⟨d,hd,of_decide_eq_true h2,rfl⟩
 ·rintro⟨d,hd,e,rfl⟩;show⟨tri d,V2.mpr ⟨Vl.mpr ⟨d,hd,rfl⟩,decide_eq_true e⟩,rfl⟩
set_option tactic.hygienic true in
def C9{w:Str}:∀{L:B_ Dd},(L.map (·.nm)).Nodup->Iw L->KB (ofH w<|L.map tri)
 |[],_,_=>.nil
 |d::L,nd,hf=>by
  replace hf:=Vp.mp hf
  rw[Vd,Wh]at nd;let ih:=C9 (w:=w) nd.2 hf.2;unfold ofH;rw[Vd,V6];split
  ·rename_i z;rw[Vd];refine Vp.mpr ⟨λx hx=>?_,ih⟩;let⟨e,he,e1,rfl⟩:=Eu.mp hx;let e2:d.nm.1=w:=of_decide_eq_true z;show KM (hf.1 e he) (e2.trans e1.symm) λzz=>nd.1<|Vl.mpr ⟨e,he,zz.symm⟩
  ·show ih
variable{G:B_ HD}
def Iy{F:B_ HD}(hF:KB F)(hG:KB G)(h:∀x,x∈F↔x∈G):F=G:=by
 let nF:F.Nodup:=hF.imp λh e=>by rw[e]at h;omega
 let nG:G.Nodup:=hG.imp λh e=>by rw[e]at h;omega
 refine XX (le:=λa b:HD=>b.1<a.1) (λa b _ _ h1 h2=>absurd h1 ⋯) hF hG<|(List.perm_ext_iff_of_nodup nF nG).mpr h
def qQ{α:Type}(c:α->Bool)(f:α->PV):∀xs:B_ α,xs.filterMap (λx=>if c x=true then a_ (f x) else b_)=(xs.filter c).map f
 |[]=>rfl
 |x::xs=>by rw[V1,V6];cases e:c x <;> simp[qQ c f xs]
structure tJ(ds out:B_ Dd)(F:Str->B_ HD):Prop where
 nd:(out.map (·.nm)).Nodup
 fall:∀w,KB (F w)
 mem:∀w x,x∈F w ↔ ∃d∈ds,d.nm.1=w/\hdD d=x
 out:∀d,d∈out↔d∈ds/\¬ tkH (F d.nm.1) [] d.nm.2
def AV(ds:B_ Dd)(hw:∀d∈ds,Wf d)(hl:ds.length<=63)(hu:∀d∈ds,∀e∈ds,d.nm=e.nm->d=e)(n:Nat)(h:PH)(g:h[n]?=a_ (.lst<|ZX 0))(Q:PV->PH->Prop)
  (k:∀out F l h',O_ h'->h.length<=l->h'[l]?=a_ (.lst<|out.map dP)->tJ ds out F->eZ out->Q (.ref l) h'):(iQ [.ref n] h).W Q:=by
 refine bG ?_;unfold pG;rw[aD];simp;refine tH ds hw hl hu n h g _ λos l h1 x1 g1 nd mem rk=>?_
 try simp
 rfl';rw[aD];simp;let SK:os.length<=ds.length:=by
  let h1:(os.map (·.nm)).length<=(ds.map (·.nm)).length:=XZ nd λp hp=>by let⟨d,hd,rfl⟩:=Vl.mp hp;show Vl.mpr ⟨d,(mem d).mp hd,rfl⟩
  simpa using h1
 refine FZ os (λd hd=>hw d<|(mem d).mp hd) ⋯ nd l h1 g1 _ λL t h2 x2 hp hf ht=>?_
 try simp
 rfl';let g2:=x2 _ _ g1;let hc:=dN (js:=[b_,a_ 2]) (tg:=gN 0) (tst:=aT<|aB eO (k_ (mV 0)<|q_ 0)<|mV 1) (elt:=mV 0) (m:=mV 1) (δ:=[c_ n,c_ l,c_ t]) (h:=h2) (h1:=h2) (n:=l) (ys:=os) (emb:=dP)
  (λd=>if(!(aF ((run (L.map tri) λ_=>[]).map tk) (pv d.nm)).isSome)=true then a_ (dP d) else b_) (by simp) g2 ⋯ (λd hd=>⟨_,rfl,λh3 hx=>by
   let hn:eO (pv d.nm) (.ref t) h3=.ok (.bl<|!(aF ((run (L.map tri) λ_=>[]).map tk)<|pv d.nm).isSome) h3:=FI (bZ hx ht) rfl;cases e:(aF ((run (L.map tri) λ_=>[]).map tk)<|pv d.nm).isSome with
   |true=>rw[e]at hn;simp[cQ,dP0,hn]
   |false=>rw[e]at hn;simp[cQ,dP0,hn]⟩)
 rw[qQ (λd=>!(aF ((run (L.map tri) λ_=>[]).map tk)<|pv d.nm).isSome) dP]at hc;simp[hc];let u2:(L.map (·.nm)).Nodup:=(hp.map _).nodup_iff.mpr nd;refine k _ (λw=>ofH w<|L.map tri) _ _ ((x1.trans x2).trans<|F_ _) (VO x1.len x2.len) aE ⟨?_,λw=>C9 u2 hf,λw x=>?_,λd=>?_⟩ ?_
 ·show(X9.map _).nodup nd
 ·rw[Eu];constructor
  ·rintro⟨d,hd,q⟩;show⟨d,(mem d).mp<|hp.mem_iff.mp hd,q⟩
  ·rintro⟨d,hd,q⟩;show⟨d,hp.mem_iff.mpr<|(mem d).mpr hd,q⟩
 ·rw[V2,mem d,<-NA];have:=AU d.nm<|run (L.map tri) λ_=>[];cases e:aF ((run (L.map tri) λ_=>[]).map tk) (pv d.nm) with
  |none=>rw[e]at this;show and_congr Iff.rfl ⟨λ_ z=>(by let q:=this.mpr z;cases q),λ_=>rfl⟩
  |some p=>rw[e]at this;show and_congr Iff.rfl ⟨λz=>(by cases z),λz=>(z<|this.mp rfl).elim⟩
 ·show rk.sublist X9
def tK(ds:B_ Dd)(hw:∀d∈ds,Wf d)(hl:ds.length<=63)(hu:∀d∈ds,∀e∈ds,d.nm=e.nm->d=e)(n:Nat)(h:PH)(g:h[n]?=a_ (.lst<|ZX 0))(Q:PV->PH->Prop)
  (k:∀out F l h',O_ h'->h'[l]?=a_ (.lst<|out.map dP)->tJ ds out F->eZ out->Q (.ref l) h'):(iQ [.ref n] h).W Q:=by
 show AV ds hw hl hu n h g Q λout F l h' a _ b c d=>k out F l h' a b c d
def NC(u v:B_ Nat)(x:Nat):(u++[x]++v)[u.length]?=a_ x:=by simp
def Q3{α:Type}{xs:B_ α}:eL xs (a_ 1) b_=xs.tail:=by
 unfold eL HT.sIx;cases xs with
 |nil=>rfl
 |cons a r=>simp
abbrev XI(c many:Int)(h:PH)(q:Nat)(δ:Ev)(h':PH):Prop:=∃(xs:Z8 0)(n:Int),O_ h'/\h'[h.length]?=a_ (.lst<|Z1 0)/\xs.length=q/\(∀x∈xs,0<=x/\x<2147483647)/\0<=n/\n<2147531918/\∃x4,δ=[d_ c,d_ many,Zu 0,d_ n,x4]
def A2(c:Int)(many:Nat)(hm:many<=100)(h:PH)(Q:PV->PH->Prop)(k:∀(xs:Z8 0) l h',O_ h'->h'[l]?=a_ (.lst<|Z1 0)->xs.length=many->(∀x∈xs,0<=x/\x<2147483647)->Q (.ref l) h'):(mQ [.int c,.int many] h).W Q:=by
 refine bG ?_;unfold wJ;rw[aD];simp;let x0:O_ (h++[MO.lst []]):=F_ _;let g0:(h++[MO.lst []])[h.length]?=a_ (.lst<|([]:Z8 0).map PV.int):=aE;generalize h++[MO.lst []]=hA at x0 g0;rfl';rw[aD];simp(disch:=omega);let hn:0<=c%2147483647+48271/\c%2147483647+48271<2147531918:=⋯;generalize c%2147483647+48271=n0 at hn;rfl';rw[aD];refine Hr (j:=(many:Int)+1) (XI c many h) ?_ ⋯ ⟨[],n0,x0,g0,rfl,(λx hx=>by cases hx),hn.1,hn.2,_,rfl⟩ ?_ ?_
 ·simp
 ·rintro i δ h' hi ⟨xs,n,x,g,lx,bx,n1,n2,x4,rfl⟩;unfold pB;rw[aD];simp(disch:=omega);let hb:0<=(n*n+48271*n+(i:Int))%2147483647/\(n*n+48271*n+(i:Int))%2147483647<2147483647:=⟨YI _ ⋯,Int.emod_lt_of_pos _ ⋯⟩;generalize (n*n+48271*n+(i:Int))%2147483647=n' at hb;rfl';let ap:=dX (p:=.int n') g (by rw[U2];omega);rw[show Z1 0++[.int n']=(xs++[n']).map PV.int by simp]at ap;simp[iE g];rw[ap,vO];refine⟨xs++[n'],n',Es x,aS g,by simp[lx],λz hz=>?_,hb.1,⋯,_,rfl⟩;rcases Vx.mp hz with hz|hz
  ·show bx z hz
  ·rw[Va.mp hz];show hb
 ·rintro δ h' ⟨xs,n,x,g,lx,bx,n1,n2,x4,rfl⟩;rfl';simp only[Hn,N2,Po,Ft,Fs,Rs.bind_ok,Pv,Ll,JZ,Df,uA g,Q3,vO];rw[<-List.map_tail];show k xs.tail _ _ (x.trans<|F_ _) aE (by rw[List.length_tail,lx];omega) λz hz=>bx z<|List.mem_of_mem_tail hz
def Iz(zs:Zf 0):(YM "" zs).length=(zs.map XM).sum:=by
 let e0:(Vh "").cps=#[]:=rfl;let key:∀(zs:Zf 0)(acc:Zb 0),((zs.foldl (λacc p=>acc++(Vh "").cps++p.cps) acc).size)=acc.size+(zs.map XM).sum:=by
  intro zs
  induction zs with
  |nil=>intro acc;simp
  |cons z zs ih=>intro acc;rw[List.foldl_cons,ih,Vd,List.sum_cons,e0];simp[XM];omega
 unfold YM
 change((zs.drop 1).foldl (λacc p=>acc++(Vh "").cps++p.cps) (zs.headD Str.empty).cps).size=_
 rw[key];cases zs with
 |nil=>rfl
 |cons z zs=>simp[XM]
def IA(zs:Zf 0):Kr "" zs=(zs.map XM).sum:=by
 unfold Kr;let key:∀(zs:Zf 0)(n:Nat),zs.foldl (λa p=>a+p.length+("" : Str).length) n=n+(zs.map XM).sum:=by
  intro zs
  induction zs with
  |nil=>intro n;simp
  |cons z zs ih=>intro n;rw[List.foldl_cons,ih,Vd,List.sum_cons];have:("" : Str).length=0:=rfl;omega
 rw[List.foldl_toArray];rw[key];omega
def Ew:∀zs:Zf 0,wD (Z0 0)=a_ zs
 |[]=>rfl
 |z::zs=>by rw[Vd];unfold wD;rw[Ew zs];rfl
variable{zs:Zf 0}
def KN(g:h[n]?=a_ (.lst<|Z0 0))(h1:∀z∈zs,z.length=1)(h2:2<=zs.length)(h3:zs.length<=1000):∃w:Str,wF (.str "") [.ref n] h=.ok (.str w) h/\w.length=zs.length:=by
 let hs:(zs.map XM).sum=zs.length:=by
  clear g h2 h3
  induction zs with
  |nil=>rfl
  |cons z zs ih=>rw[Vd,List.sum_cons,h1 z UV,ih λy hy=>h1 y (U4 _ hy),VI];omega
 let ej:jnd "" zs=YM "" zs:=by
  match zs,h2 with
  |_::_::_,_=>rfl
 let hw:(jnd "" zs).length=zs.length:=by rw[ej,Iz,hs]
 refine⟨jnd "" zs,?_,hw⟩;let el:bT h n=a_ (Z0 0):=by simp[bT,g]
 let hz:(zs.length<=U9):=by rw[iD];omega
 unfold wF;simp only[el,Ew];rw[if_pos ⟨by rw[IA,hs];show hz,by rw[hw];show hz⟩]
def Ru{α:Type}{xs:B_ α}:eL xs b_ (a_ 8)=xs.take 8:=by
 unfold eL HT.sIx;simp
 try omega
def nQ(h0:0<=j)(h1:j<=z.length):(WC z b_<|a_ j).length=j.toNat:=by rw[<-len_list,C6 h0 h1,VT,len_list];show Nat.min_eq_left<|Int.toNat_le.mpr h1
variable{i:Nat}
def sE{xs:Z8 0}(h:i<xs.length):atI (Z1 0) (i:Int)=a_ (.int xs[i]):=kH (by simp[h])
def IB(c:Int)(m:Nat)(h3:m<=6)(h:PH)(Q:PV->PH->Prop)(k:∀(hs:Zf 0)(l:Nat)(h':PH),h'[l]?=a_ (.lst<|hs.map PV.str)->hs.length=m->hs.Nodup->Q (.ref l) h'):(AI [.int c,.int m] h).W Q:=by
 refine bG ?_;unfold AH;rw[aD];simp;rfl';rw[aD];simp;refine A2 c 10 ⋯ h _ λxs lx hA xA gA len bx=>?_
 try simp
 rfl';rw[aD]
 -- the stem
 let n4:=uA (lo:=b_) (hi:=a_ 8) gA;rw[Ru,<-YJ]at n4;let gB:(hA++[MO.lst<|(xs.take 8).map PV.int])[hA.length]?=a_ (.lst<|(xs.take 8).map PV.int):=aE;let xB:Ext hA (hA++[MO.lst<|(xs.take 8).map PV.int]):=F_ _;generalize hA.length=lb at n4 gB;generalize hA++[MO.lst<|(xs.take 8).map PV.int]=hB at n4 gB xB;let hc:=dN (js:=[b_,a_ 2]) (tg:=gN 0) (tst:=gM) (elt:=k_ (mV 1)<|aB dB (mV 0)<|q_ 26) (m:=mSl (mV 3) iJ<|mP<|q_ 8) (δ:=[d_ c,d_ m,a_<|.str C5,c_ lx,b_,b_]) (h:=hA) (h1:=hB) (n:=lb) (ys:=xs.take 8) (emb:=PV.int)
  (λx=>a_ (.str ⟨#[97+(x%26).toNat]⟩)) (by simp[n4]) gB (by rw[VT];omega) (λx hx=>⟨_,rfl,λh3 _=>⟨rfl,by
   let hl:=Er (i:=x%26) ⋯ ⋯;let hv:vIx (.str C5) (.int<|x%26) h3=.ok (.str ⟨#[97+(x%26).toNat]⟩) h3:=by rw[K1 (by rw[A0];omega),hl];rfl
   simp(disch:=omega) [cQ,hv]⟩⟩)
 let e1:(xs.take 8).filterMap (λx=>a_<|PV.str ⟨#[97+(x%26).toNat]⟩)=((xs.take 8).map λx=>(⟨#[97+(x%26).toNat]⟩:Str)).map PV.str:=by rw[filterMap_some,VF];rfl
 rw[e1]at hc;let RN:∀z∈(xs.take 8).map (λx=>(⟨#[97+(x%26).toNat]⟩:Str)),z.length=1:=λz hz=>by let⟨x,_,rfl⟩:=Vl.mp hz;rfl
 let wz:((xs.take 8).map λx=>(⟨#[97+(x%26).toNat]⟩:Str)).length=8:=by rw[U2,VT];omega
 generalize (xs.take 8).map (λx=>(⟨#[97+(x%26).toNat]⟩:Str))=zs at hc RN wz;let gC:(hB++[MO.lst<|Z0 0])[hB.length]?=a_ (.lst<|Z0 0):=aE;let xC:Ext hB (hB++[MO.lst<|Z0 0]):=F_ _;generalize hB.length=lc at hc gC;generalize hB++[MO.lst<|Z0 0]=hC at hc gC xC;let⟨w,ew,lw⟩:=KN gC RN ⋯ ⋯;let Us:Ks (.str ("" : Str)) hA=true:=rfl;simp[Us,hc,ew];let gX:hC[lx]?=a_ (.lst<|Z1 0):=xC _ _<|xB _ _ gA;let a8:atI (Z1 0) 8=a_ (.int xs[8]):=sE (i:=8) ⋯;let a9:atI (Z1 0) 9=a_ (.int xs[9]):=sE (i:=9) ⋯;let b8:=bx xs[8]<|V5 _;let b9:=bx xs[9]<|V5 _;generalize xs[8]=x8 at a8 b8;generalize xs[9]=x9 at a9 b9;rfl';rw[aD];simp(disch:=omega);split
 ·let j9:=BD (js:=[b_,a_ 4,a_ 3]) (tg:=gN 0) (tst:=gM) (elt:=mSl (mV 1) iJ<|mP<|ZC (q_ 1)<|aB dB (ZC (mV 0)<|k_ (mV 2)<|q_ 8)<|q_ 8) (ms:=aA (mV 1) aC)
   (δ:=[d_ c,d_ m,a_<|.str C5,c_ lx,a_<|.str w,b_]) (h:=hC) (h1:=hC) (j:=m) (λi=>a_<|.str<|WC w b_<|a_<|1+((i:Int)+x8)%8) (by simp) ⋯
   (λi hi=>⟨_,rfl,λh3 hx=>⟨rfl,by simp(disch:=omega) [cQ,cO<|hx _ _ gX,a8]⟩⟩)
  simp[j9];have:=k ((Vi m).map λ(i:Nat)=>WC w b_<|a_<|1+((i:Int)+x8)%8) hC.length (hC++[.lst<|((Vi m).map λ(i:Nat)=>WC w b_<|a_<|1+((i:Int)+x8)%8).map PV.str]) aE (by simp) (by unfold List.Nodup;rw[VZ];refine(List.pairwise_lt_range (n:=m)).imp_of_mem λ{a b} ha hb wm e=>?_;let hb':=Xd.mp hb;let ha':=Xd.mp ha;let e':=congrArg XM e;rw[nQ ⋯ ⋯,nQ ⋯ ⋯]at e';omega)
  rw[VF]at this;show this
 ·rfl';rw[aD];simp(disch:=omega) [cO gX,a8];let l1:=nQ (z:=w) (j:=1+x8%8) ⋯ ⋯;generalize WC w b_ (a_<|1+x8%8)=z at l1;rfl';rw[aD];simp(disch:=omega) [cO gX,a9];let yc:0<=x9%(z.length:Int)/\x9%(z.length:Int)<z.length:=⟨YI _ ⋯,Int.emod_lt_of_pos _ ⋯⟩;generalize x9%(z.length:Int)=at' at yc;let q1:=nQ (z:=z) yc.1 ⋯;let s2:=DA (z:=z) (j:=at'+1) ⋯ ⋯;let q2:(WC z (a_<|at'+1) b_).length=z.length-(at'+1).toNat:=by rw[<-len_list,s2,Yu,len_list]
  let qu:=A0;let j9:=BD (js:=[b_,a_ 4,a_ 2,a_ 5,a_ 3]) (tg:=gN 0) (tst:=gM) (elt:=ZC (ZC (mSl (mV 1) iJ<|mP<|mV 3)<|k_ (mV 2)<|aB dB (ZC (aB D2 (k_ (mV 4)<|mC<|PV.int 9)<|mC<|PV.int 8)<|aB Bv (mC<|PV.int 5)<|mV 0)<|mC<|PV.int 26)<|mSl (mV 1) (mP<|ZC (mV 3)<|mC<|PV.int 1) iJ) (ms:=aA (mV 1) aC)
   (δ:=[d_ c,d_ m,a_<|.str C5,c_ lx,a_<|.str z,d_ at']) (h:=hC) (h1:=hC) (j:=m) (λi=>a_<|.str<|WC z b_ (a_ at')++(⟨#[97+((x9/8+5*(i:Int))%26).toNat]⟩:Str)++WC z (a_<|at'+1) b_) (by simp) ⋯
   (λi hi=>⟨_,rfl,λh3 hx=>⟨rfl,by
    let j9:=Er (i:=(x9/8+5*(i:Int))%26) ⋯ ⋯;let q3:(⟨#[97+((x9/8+5*(i:Int))%26).toNat]⟩:Str).length=1:=rfl;let q4:(WC z b_ (a_ at')++(⟨#[97+((x9/8+5*(i:Int))%26).toNat]⟩:Str)).length=at'.toNat+1:=by rw[Il,q1]
    simp(disch:=omega) [cQ,j9,cO (hx _ _ gX),a9]⟩⟩)
  rfl';simp[j9];have:=k ((Vi m).map λ(i:Nat)=>WC z b_ (a_ at')++(⟨#[97+((x9/8+5*(i:Int))%26).toNat]⟩:Str)++WC z (a_ (at'+1)) b_) hC.length (hC++[.lst (((Vi m).map λ(i:Nat)=>WC z b_ (a_ at')++(⟨#[97+((x9/8+5*(i:Int))%26).toNat]⟩:Str)++WC z (a_ (at'+1)) b_).map PV.str)]) aE (by simp) (by
   unfold List.Nodup;rw[VZ];refine(List.pairwise_lt_range (n:=m)).imp_of_mem λ{a b} ha hb wm e=>?_;let hb':=Xd.mp hb;let ha':=Xd.mp ha;let s1:=C6 (z:=z) yc.1 ⋯;let e':=congrArg (λx=>x.cps.toList[at'.toNat]?) e;simp only[app_list,s1,s2]at e';let lt:(List.take at'.toNat z.cps.toList).length=at'.toNat:=by rw[VT,len_list];omega
   let f:∀b:Nat,(List.take at'.toNat z.cps.toList++[b]++List.drop (at'+1).toNat z.cps.toList)[at'.toNat]?=a_ b:=λb=>by
    have:=NC (List.take at'.toNat z.cps.toList) (List.drop (at'+1).toNat z.cps.toList) b
    rwa[lt]at this
   let e2:a_ (97+((x9/8+5*(a:Int))%26).toNat)=a_ (97+((x9/8+5*(b:Int))%26).toNat):=(f _).symm.trans (e'.trans (f _));let e3:=Vq e2;omega)
  rw[VF]at this;show this
variable{ys:B_ Dd}
def wV{xs:B_ Dd}(hx:eZ xs)(hy:eZ ys)(nx:(xs.map (·.nm)).Nodup)(ny:(ys.map (·.nm)).Nodup)(hu:∀d∈xs,∀e∈xs,d.nm=e.nm->d=e)(h:∀d,d∈xs↔d∈ys):xs=ys:=by let n1:xs.Nodup:=(VZ.mp nx).imp λh e=>h (by rw[e]);let n2:ys.Nodup:=(VZ.mp ny).imp λh e=>h (by rw[e]);refine XX (le:=λa b:Dd=>bI (kyL b) (kyL a)=false) (λa b ha hb h1 h2=>?_) hx hy<|(List.perm_ext_iff_of_nodup n1 n2).mpr h;show hu a ha b ((h b).mpr hb)<|Iq _ _<|pZ rfl h2 h1
def nR{ds:B_ Dd}(nd:(ds.map (·.nm)).Nodup):∀d∈ds,∀e∈ds,d.nm=e.nm->d=e:=by
 induction ds with
 |nil=>intro d hd;cases hd
 |cons x r ih=>
  rw[Vd,Wh]at nd;intro d hd e he z;rcases U5.mp hd with rfl|h2
  ·rcases U5.mp he with rfl|h3
   ·rfl
   ·show(nd.1<|Vl.mpr ⟨e,h3,z.symm⟩).elim
  ·rcases U5.mp he with rfl|h3
   ·show(nd.1<|Vl.mpr ⟨d,h2,z⟩).elim
   ·show ih nd.2 d h2 e h3 z
@[reducible]def Nm:=Str×Int
@[reducible]def root:Nm:=("",0)
set_option tactic.hygienic true in
def Ex:∀{F B:B_ HD}{x:HD×HD},x∈sD F B->(x.2∈B\/x.2∈F)/\reach x.2 x.1.1=true
 |[],_,_,h=>nomatch h
 |d::L,B,x,h=>by
  let up:∀{B':B_ HD},(∀b∈B',b∈B\/b=d)->x∈sD L B'->(x.2∈B\/x.2∈d::L)/\reach x.2 x.1.1=true:=λhb h=>by
   let⟨a,b⟩:=Ex h;refine⟨?_,b⟩;rcases a with a|a
   ·rcases hb _ a with z|z
    ·show .inl z
    ·show .inr (by rw[z];show UV)
   ·show .inr (U4 _ a)
  rw[A1]at h;split at h
  ·show up (λ_ z=>(List.not_mem_nil z).elim) h
  ·rename_i b e2 _;rcases U5.mp h with rfl|h
   ·let m:=List.mem_of_find?_eq_some e2;show⟨.inl m,by simpa using List.find?_some e2⟩
   ·show up (λ_ z=>.inl z) h
  ·show up (λb z=>by rcases Vx.mp z with z|z;show .inl z;show .inr<|Va.mp z) h
  ·show up (λ_ z=>.inl z) h
abbrev mk1(w0:Str):Dd:=⟨(w0,1),[],.other,[.str "make",.str "count",Y9 0,.str "sum"]⟩
abbrev mk2(w0:Str):Dd:=⟨(w0,2),[(w0,1)],.other,[.str "make",.str "choice",Y9 0,.str "one"]⟩
inductive A6 where
 |add (v:Int)
 |cho (v:Int)
 |oth
abbrev D6(w0:Str)(d:Dd):A6->Prop
 |.add v=>d.act=[.str "add",pv (w0,1),.int v]
 |.cho v=>d.act=[.str "choose",pv (w0,2),.int v]
 |.oth=>d.kd≠.other
structure Ok6(w0:Str)(d:Dd):Prop where
 wf:Wf d
 act:∃a,D6 w0 d a
 st:2<=tot d.seen
 nm:1<=d.nm.2
 h0:d.nm.1=w0->3<=d.nm.2
 sn:(d.seen.map (·.1)).Nodup
 bk:d.nm.1=w0->∀f l,d.kd=.back f l->3<=f
structure R6(w0:Str)(rest:B_ Dd):Prop where
 ok:∀d∈rest,Ok6 w0 d
 nd:(rest.map (·.nm)).Nodup
def Ls(w0:Str):Wf (mk1 w0)/\Wf (Z3 0):=by refine⟨⟨by simp[mk1],⟨_,_,rfl,by decide +kernel,by decide +kernel⟩,rfl⟩,⟨by simp[mk2],⟨_,_,rfl,by decide +kernel,by decide +kernel⟩,rfl⟩⟩
variable{w0:Str}
def R6.all_nd{rest:B_ Dd}(r:R6 w0 rest):((mk1 w0::Z3 0::rest).map (·.nm)).Nodup:=by
 rw[Vd,Vd,Wh,Wh];refine⟨λz=>?_,λz=>?_,r.nd⟩
 ·rcases U5.mp z with z|z
  ·have:(1:Int)=2:=(Prod.ext_iff.mp z).2;omega
  ·let⟨d,hd,e⟩:=Vl.mp z;let h1:d.nm.1=w0:=by rw[e];rfl
   let h2:d.nm.2=1:=by rw[e];rfl
   have:=(r.ok d hd).h0 h1;omega
 ·let⟨d,hd,e⟩:=Vl.mp z;let h1:d.nm.1=w0:=by rw[e];rfl
  let h2:d.nm.2=2:=by rw[e];rfl
  have:=(r.ok d hd).h0 h1;omega
def R6.all_wf{rest:B_ Dd}(r:R6 w0 rest):∀d∈mk1 w0::Z3 0::rest,Wf d:=λd hd=>by
 rcases U5.mp hd with rfl|hd
 ·show(Ls w0).1
 ·rcases U5.mp hd with rfl|hd
  ·show(Ls w0).2
  ·show(r.ok d hd).wf
def DD{a b:Dd}(h:1+tot a.seen<1+tot b.seen):bI (kyL b) (kyL a)=false:=by
 let n:¬ tot b.seen=tot a.seen:=⋯;simp[kyL,bI,keyLt,n];omega
variable{F:Str->B_ HD}{out:B_ Dd}
set_option tactic.hygienic true in
def IC{rest ds:B_ Dd}(r:R6 w0 rest)(m:∀d,d∈ds↔d∈mk1 w0::Z3 0::rest)(fo:tJ ds out F)(br:eZ out):∃R,out=mk1 w0::Z3 0::R/\(∀d∈R,d∈rest)/\R6 w0 R:=by
 let nt:∀n:Int,n<=2->¬ tkH (F w0) [] n:=λn hn ⟨x,hx,e⟩=>by
  let⟨a,b⟩:=Ex hx;let a:=a.resolve_left<|λz=>nomatch z;let⟨d,hd,h1,h2⟩:=(fo.mem w0 x.2).mp a;rw[<-h2,e]at b;let hr:∃f l,d.kd=.back f l/\f<=n:=by
   unfold reach hdD at b;dsimp only at b;split at b
   ·rename_i f l ek;show⟨f,l,ek,(of_decide_eq_true b).1⟩
   ·cases b
  let⟨f,l,ek,hf⟩:=hr;rcases U5.mp ((m d).mp hd) with rfl|hd
  ·cases ek
  ·rcases U5.mp hd with rfl|hd
   ·cases ek
   ·have:=(r.ok d hd).bk h1 f l ek;omega
 let i1:mk1 w0∈out:=(fo.out _).mpr ⟨(m _).mpr<|by simp,nt 1 ⋯⟩;let i2:Z3 0∈out:=(fo.out _).mpr ⟨(m _).mpr<|by simp,nt 2 ⋯⟩;letI R:=out.filter λd=>decide (d.nm≠(w0,1)/\d.nm≠(w0,2));let hR:∀d,d∈R↔d∈out/\d.nm≠(w0,1)/\d.nm≠(w0,2):=λd=>by
  change d∈List.filter _ _↔_
  rw[V2];simp
 let inr:∀d∈R,d∈rest:=λd hd=>by
  let⟨h1,h2,h3⟩:=(hR d).mp hd;rcases U5.mp ((m d).mp ((fo.out d).mp h1).1) with rfl|h
  ·show(h2 rfl).elim
  ·rcases U5.mp h with rfl|h
   ·show(h3 rfl).elim
   ·show h
 let S3:(R.map (·.nm)).Nodup:=(List.Sublist.map _ X9).nodup fo.nd;let r2:R6 w0 R:=⟨λd hd=>r.ok d<|inr d hd,S3⟩;refine⟨R,?_,inr,r2⟩;let hu:=nR fo.nd;refine wV br ?_ fo.nd r2.all_nd (λd hd e he=>hu d hd e he) λd=>?_
 ·refine Vp.mpr ⟨λd hd=>?_,Vp.mpr ⟨λd hd=>?_,List.Pairwise.sublist X9 br⟩⟩
  ·rcases U5.mp hd with rfl|hd
   ·show DD (by simp[mk1,mk2,tot])
   ·show DD (by have:=(r2.ok d hd).st;simp[mk1,tot];unfold tot at this;omega)
  ·show DD (by have:=(r2.ok d hd).st;simp[mk2,tot];unfold tot at this;omega)
 ·rw[U5,U5,hR];constructor
  ·intro h;by_cases e1:d.nm=(w0,1)
   ·show .inl (hu d h _ i1 e1)
   ·by_cases e2:d.nm=(w0,2)
    ·show .inr (.inl<|hu d h _ i2 e2)
    ·show .inr (.inr ⟨h,e1,e2⟩)
  ·rintro(rfl|rfl|h)
   ·show i1
   ·show i2
   ·show h.1
variable{F':Str->B_ HD}{hl:B_ Dd}
def G0{ds mz:B_ Dd}(m:∀d,d∈hl↔d∈ds)(nd:(ds.map (·.nm)).Nodup)(fo:tJ ds out F)(mq:tJ hl mz F')(br:eZ out)(xm:eZ mz):mz=out:=by
 let eF:∀w,F' w=F w:=λw=>Iy (mq.fall w) (fo.fall w) λx=>by rw[mq.mem,fo.mem];show exists_congr λd=>and_congr_left λ_=>m d
 refine wV xm br mq.nd fo.nd (λd hd e he=>nR mq.nd d hd e he) λd=>?_;rw[mq.out,fo.out,eF,m]
abbrev cvB(S:Seen)(nm:Nm):Bool:=match look S nm.1 with
 |some n=>decide (nm.2<=n)
 |none=>false
abbrev sel:B_ Dd->B_ Dd
 |[]=>[]
 |c::r=>if(r.all λe=>!Zd 0)=true then c::sel r else sel r
def wW(c:Dd)(r:B_ Dd):sel (c::r)=if(r.all λe=>!Zd 0)=true then c::sel r else sel r:=rfl
def ID(C:B_ Dd)(d:Dd):sel (C++[d])=(sel C).filter (λc=>!ZJ c.nm)++[d]:=by
 induction C with
 |nil=>rfl
 |cons c r ih=>
  rw[Yv,wW,wW,ih,List.all_append];by_cases h:(r.all λe=>!Zd 0)=true
  ·rw[if_pos h,h,V6];cases hc:ZJ c.nm <;> simp[hc]
  ·rw[if_neg h,if_neg (by simp only[VA];show λz=>h z.1)]
def Ey{β:Type}(g:Dd->β):∀C:B_ Dd,(Vi C.length).filterMap (λi=>match C[i]? with|some c=>if((C.drop<|i+1).all λe=>!Zd 0)=true then a_ (g c) else b_|none=>b_)=(sel C).map g
 |[]=>rfl
 |c::r=>by
  rw[VI,Yb,V1,List.filterMap_map];have:=Ey g r;simp only[Yq,Wn,List.drop_succ_cons]at this⊢;rw[this,wW];simp only[List.getElem?_cons_zero,Nat.zero_add,List.drop_succ_cons,List.drop_zero]
  by_cases h:(r.all λe=>!Zd 0)=true
  ·rw[if_pos h,if_pos h];rfl
  ·rw[if_neg h,if_neg h]
def Q4{R:B_ Dd}(r:R6 w0 R):∃f:Dd->A6,∀d∈R,D6 w0 d (f d):=by
 classical
 refine⟨λd=>if e:∃a,D6 w0 d a then e.choose else .oth,λd hd=>?_⟩;let e:=(r.ok d hd).act;simp only[dif_pos e];show e.choose_spec
abbrev isC:A6->Bool
 |.cho _=>true
 |_=>false
abbrev vC:A6->Int
 |.cho v=>v
 |.add v=>v
 |.oth=>0
abbrev isA:A6->Bool
 |.add _=>true
 |_=>false
abbrev st6(f:Dd->A6)(s:Int×B_ (Nm×Int))(d:Dd):Int×B_ (Nm×Int):=match f d with
 |.add v=>(s.1+v,s.2)
 |.cho v=>(s.1,(s.2.filter λr=>!ZJ r.1)++[(d.nm,v)])
 |.oth=>s
abbrev bQ(f:Dd->A6)(R:B_ Dd):Int×B_ (Nm×Int):=R.foldl (st6 f) (0,[])
variable{f:Dd->A6}
def sF{R:B_ Dd}{d:Dd}:bQ f (R++[d])=st6 f (bQ f R) d:=by unfold bQ;rw[List.foldl_append];rfl
def snoc_ind{α:Type}{P:B_ α->Prop}(h0:P [])(hs:∀xs x,P xs->P (xs++[x]))(xs:B_ α):P xs:=by
 have:∀ys:B_ α,P ys.reverse:=λys=>by
  induction ys with
  |nil=>exact h0
  |cons y ys ih=>rw[List.reverse_cons];show hs _ _ ih
 let h:=this xs.reverse;rwa[List.reverse_reverse]at h
def IE(f:Dd->A6)(R:B_ Dd):(bQ f R).1=((R.filter λd=>isA<|f d).map λd=>vC<|f d).sum:=by refine snoc_ind (P:=λR=>(bQ f R).1=((R.filter λd=>isA<|f d).map λd=>vC<|f d).sum) rfl (λR d ih=>?_) R;rw[sF,List.filter_append,VP,List.sum_append,<-ih];unfold st6;cases e:f d <;> simp[isA,vC,e]
def Ca(f:Dd->A6)(R:B_ Dd):(bQ f R).2=(sel<|R.filter λd=>isC<|f d).map λd=>(d.nm,vC<|f d):=by
 refine snoc_ind (P:=λR=>(bQ f R).2=(sel<|R.filter λd=>isC<|f d).map λd=>(d.nm,vC<|f d)) rfl (λR d ih=>?_) R;rw[sF,List.filter_append];unfold st6;cases e:f d with
 |add v=>simp[isC,e];show ih
 |oth=>simp[isC,e];show ih
 |cho v=>
  have:List.filter (λd=>isC<|f d) [d]=[d]:=by simp[isC,e]
  rw[this,ID,VP];dsimp only;rw[ih,List.filter_map];simp[vC,e,Yq]
def wX(f:Dd->A6)(R:B_ Dd):(bQ f R).2.length<=R.length:=by
 rw[Ca,U2];let h1:∀C:B_ Dd,(sel C).length<=C.length:=λC=>by
  induction C with
  |nil=>exact U1 _
  |cons c r ih=>
   unfold sel;split
   ·rw[VI,VI];omega
   ·rw[VI];omega
 show VO (h1 _)<|W5 _ _
variable{Q:PV->PH->Prop}{cn:Str}{h1:PH}{ms:Ma}{ps:Y4 0}{δ:Ev}
def wY{f:Fn}(e:ms δ h=.ok ps h1)(l:ps.length=n)(w:(f (.ref h1.length::ps)<|h1++[.ins cn []]).W λv h2=>v=.non/\Q (.ref h1.length) h2):(lN cn n f ms δ h).W Q:=by let⟨v,h2,e2,rfl,q⟩:=fX w;rw[mN,e,Rs.bind_ok,if_pos l,e2,Rs.bind_ok];dsimp only;rw[vO];show q
set_option tactic.hygienic true in
def cL{κ:Type}[DecidableEq κ](kvs:B_ (κ×PV))(k:κ)(p:PV)(k':κ):aF (bJ kvs k p) k'=if k'=k then a_ p else aF kvs k':=by
 let m:∀kvs:B_ (κ×PV),aF (kvs.map λkv=>if kv.1=k then(kv.1,p) else kv) k'=if k'=k then(Y1 k).map (λ_=>p) else Y1 k':=λkvs=>by
  induction kvs with
  |nil=>simp[aF]
  |cons x r ih=>
   let⟨a,y⟩:=x;rw[Vd];by_cases e:a=k
   ·subst e;simp only[if_pos,aF];rw[ih];by_cases c:k'=a
    ·subst c;simp
    ·let c2:¬ a=k':=λz=>c z.symm;simp[c,c2]
   ·simp only[Zp 0,aF];rw[ih];by_cases c:k'=k
    ·subst c;simp[e]
    ·simp[c]
 let a:∀kvs:B_ (κ×PV),Y1 k=b_->aF (kvs++[(k,p)]) k'=if k'=k then a_ p else aF kvs k':=λkvs=>by
  induction kvs with
  |nil=>
   intro _;by_cases c:k'=k
   ·simp[aF,c]
   ·let c2:¬ k=k':=λz=>c z.symm;simp[aF,c,c2]
  |cons x r ih=>
   let⟨a,y⟩:=x;intro e;unfold aF at e;split at e
   ·cases e
   ·rename_i c;rw[Yv];unfold aF;rw[ih e];by_cases q:k'=k
    ·subst q;simp[c]
    ·simp[q]
 unfold bJ;split
 ·rename_i c;rw[m];let⟨v,e⟩:=Option.isSome_iff_exists.mp c;rw[e];rfl
 ·rename_i c;show a kvs<|l_ c
def Ez{κ:Type}[DecidableEq κ](kvs:B_ (κ×PV))(k:κ)(p:PV):(bJ kvs k p).length<=kvs.length+1:=by unfold bJ;split <;> simp
variable{xs:Y4 0}
def nU(e:h[n]?=a_ (.lst xs)):iK [.ref n] h=.ok (.ref h.length) (h++[.lst xs]):=by
 have:aM h n=a_ xs:=by simp[aM,e]
 unfold iK;simp only[this]
variable{kvs:B_ (PV×PV)}
def mZ{p:PV}(e:bD h n=a_ kvs)(hk:(PV.tup xs).ky 6=true)(hl:Y1 (.tup xs)=a_ p):vAt (.ref n) (.tup xs) h=.ok p h:=by
 let k1:(PV.tup xs).isKt=true:=hk;have:lV (.tup xs) (.ref n) h=a_ (Y1<|.tup xs):=by simp only[lV,k1,if_true,e,YK]
 unfold vAt;rw[this,hl]
def AW(e:h[n]?=a_ (.dK [])):bD h n=a_ []:=by unfold bD;rw[e]
abbrev Kp1(l:Nat)(h h':PH):Prop:=∀(i:Nat) o,i≠l->h[i]?=a_ o->h'[i]?=a_ o
variable{hY:PH}{l:Nat}
def Kp1.ext(x:O_ hX)(k:Kp1 l hX hY)(hl:h.length<=l):O_ hY:=λi o e=>k i o (by have:=(SC.mp e).1;omega)<|x i o e
def Kp1.set:Kp1 l h (h.set l o):=λi ob hi e=>aJ e<|Wu hi
def Kp1.tr(x:Kp1 l h hX)(k:Kp1 l hX hY):Kp1 l h hY:=λi o hi e=>k i o hi<|x i o hi e
def Kp1.of(x:O_ hX):Kp1 l h hX:=λi o _ e=>x i o e
def IF(g:h[l]?=a_ (.ins "Tree" []))(k:∀x y h',Kp1 l h h'->h'[l]?=a_ (.ins "Tree" [("made",x),("failed",y)])->Q .non h'):(gW [.ref l] h).W Q:=by refine bG ?_;unfold gQ;rw[aD];simp;let g1:=Ext.app h [MO.dK []] _ _ g;refine⟨_,cK g1<|by simp,?_⟩;let k1:Kp1 l h ((h++[MO.dK []]).set l<|MO.ins "Tree"<|gO "made" (.ref h.length) []):=(Kp1.of<|F_ _).tr Kp1.set;let g2:=aS (o':=MO.ins "Tree"<|gO "made" (.ref h.length) []) g1;generalize (h++[MO.dK []]).set l (MO.ins "Tree"<|gO "made" (.ref h.length) [])=hA at k1 g2;rfl';simp;let g3:=Ext.app hA [MO.lst []] _ _ g2;refine⟨_,cK g3<|by simp[gO],?_⟩;show k _ _ _ (k1.tr<|(Kp1.of<|F_ _).tr Kp1.set)<|aS g3
abbrev rwN(r:Nm×Int):PV:=.tup [pv r.1,.int r.2]
inductive Ct where
 |n (v:Int)
 |l (R:B_ (Nm×Int))
abbrev Ct.kd:Ct->Str
 |.n _=>"count"
 |.l _=>"choice"
abbrev qR(h:PH)(c:Nat):Ct->Prop
 |.n v=>h[c]?=a_ (.ins "Count" [("total",.int v)])
 |.l R=>∃s,h[c]?=a_ (.ins "Choice" [("standing",.ref s)])/\h[s]?=a_ (.lst<|R.map rwN)/\R.length<=100
abbrev CtV(h:PH)(v:PV):Ct->Prop
 |.n i=>v=.int i
 |.l R=>∃s,v=.ref s/\h[s]?=a_ (.lst<|R.map rwN)/\R.length<=100
def qR.keep{t:Ct}(f:qR h c t)(ki:∀(i:Nat) cn fs,h[i]?=a_ (.ins cn fs)->h'[i]?=a_ (.ins cn fs))(kl:∀(i:Nat) xs,h[i]?=a_ (.lst xs)->h'[i]?=a_ (.lst xs)):qR h' c t:=by
 cases t with
 |n v=>exact ki _ _ _ f
 |l R=>let⟨s,a,b,l⟩:=f;show⟨s,ki _ _ _ a,kl _ _ b,l⟩
def qR.ext{t:Ct}(f:qR h c t)(x:O_ h'):qR h' c t:=f.keep (λ_ _ _ e=>x _ _ e) λ_ _ e=>x _ _ e
def CtV.ext{v:PV}{t:Ct}(f:CtV h v t)(kl:∀(i:Nat) xs,h[i]?=a_ (.lst xs)->h'[i]?=a_ (.lst xs)):CtV h' v t:=by
 cases t with
 |n v=>exact f
 |l R=>let⟨s,a,b,l⟩:=f;show⟨s,a,kl _ _ b,l⟩
structure Th where
 nm:Nm
 sp:Str
 ct:Ct
abbrev fC(t:Th):PV:=.tup [.str t.ct.kd,Y9 0,.str t.sp]
abbrev gZ(t:Th):PV×PV:=(pv t.nm,fC t)
abbrev eJ(t:Th):PV:=.tup [pv t.nm,.str t.ct.kd,Y9 0,.str t.sp]
abbrev nA(z:Th×PV):PV:=.tup [pv z.1.nm,.str z.1.ct.kd,Y9 0,.str z.1.sp,z.2]
def jC(t:bD h n=a_ kvs)(g:h[n]?=a_ (.lst xs)):False:=by simp[bD,g]at t
def fB{fs:B_ (Str×PV)}(t:bD h n=a_ kvs)(g:h[n]?=a_ (.ins cn fs)):False:=by simp[bD,g]at t
def uH(t:bD h n=a_ kvs)(k:∀o,h[n]?=a_ o->h'[n]?=a_ o):bD h' n=a_ kvs:=by let⟨o,ho,_,hh⟩:=aZ t;show hh _<|k o ho
structure TA(h:PH)(lt lm lf:Nat)(T:B_ (PV×PV)):Prop where
 ins:h[lt]?=some (.ins "Tree" [("made",.ref lm),("failed",.ref lf)])
 made:bD h lm=some T
 fail:h[lf]?=some (.lst [])
variable{T:B_ (PV×PV)}{lf lm:Nat}
def TA.ext{lt:Nat}(t:TA h lt lm lf T)(x:O_ h'):TA h' lt lm lf T:=⟨x _ _ t.ins,bZ x t.made,x _ _ t.fail⟩
def TA.fm{lt:Nat}(t:TA h lt lm lf T):aO "made" (.ref lt) h=.ok (.ref lm) h:=dC t.ins rfl
def TA.ff{lt:Nat}(t:TA h lt lm lf T):aO "failed" (.ref lt) h=.ok (.ref lf) h:=dC t.ins rfl
variable{ts:B_ Th}
def KO{p:Nm}(hn:∀t∈ts,t.nm≠p):aF (ts.map gZ) (pv p)=b_:=by
 induction ts with
 |nil=>rfl
 |cons t ts ih=>rw[Vd];unfold aF gZ;rw[if_neg<|λz=>hn t UV (iU z)];show ih λt ht=>hn t (U4 _ ht)
def Cb{t:Th}(hn:∀u∈ts,u.nm≠t.nm):bJ (ts.map gZ) (pv t.nm) (fC t)=(ts++[t]).map gZ:=by unfold bJ;rw[KO hn];simp[gZ]
def EA(nd:(ts.map (·.nm)).Nodup){q:Nat}{t:Th}(e:ts[q]?=a_ t):ts.take (q+1)=ts.take q++[t]/\∀u∈ts.take q,u.nm≠t.nm:=by
 let e1:ts.take (q+1)=ts.take q++[t]:=by rw[WS,e];rfl
 refine⟨e1,λu hu z=>?_⟩;rw[<-List.take_append_drop (q+1) ts,e1,VP,VP,Xg,Xg]at nd;show nd.1.2.2 u.nm (Vl.mpr ⟨u,hu,rfl⟩) t.nm (by simp) z
variable{lr lx:Nat}{x:PV}
def KQ(nd:(ts.map (·.nm)).Nodup)(hl:ts.length<=100){y:PV}(g:h[l]?=a_ (.ins "Tree" [("made",x),("failed",y)]))(gr:h[lr]?=a_ (.lst<|ts.map eJ))(gx:h[lx]?=a_ (.lst []))(k:∀lm lf h',Kp1 l h h'->h.length<=lm->h.length<=lf->TA h' l lm lf (ts.map gZ)->Q .non h'):(iZ [.ref l,.ref lr,.ref lx] h).W Q:=by
 let nr:lr≠l:=λz=>by subst z;rw[g]at gr;cases gr
 let nx:lx≠l:=λz=>by subst z;rw[g]at gx;cases gx
 let qu:=(SC.mp g).1;let vf:=(SC.mp gr).1;let hlx:=(SC.mp gx).1;refine bG ?_;unfold mS;rw[aD];simp;let g1:=Ext.app h [MO.dK []] _ _ g;refine⟨_,cK g1<|by simp,?_⟩;let k1:Kp1 l h ((h++[MO.dK []]).set l<|MO.ins "Tree"<|gO "made" (.ref h.length) [("made",x),("failed",y)]):=(Kp1.of<|F_ _).tr Kp1.set;let g2:((h++[MO.dK []]).set l<|MO.ins "Tree"<|gO "made" (.ref h.length) [("made",x),("failed",y)])[l]?=a_ (.ins "Tree" [("made",.ref h.length),("failed",y)]):=aS g1;let t2:bD ((h++[MO.dK []]).set l<|MO.ins "Tree"<|gO "made" (.ref h.length) [("made",x),("failed",y)]) h.length=a_ ((ts.take 0).map gZ):=AW<|aJ aE ⋯;generalize (h++[MO.dK []]).set l (MO.ins "Tree"<|gO "made" (.ref h.length) [("made",x),("failed",y)])=hA at k1 g2 t2;rfl';rw[aD];refine oR (n:=lr) (xs:=ts.map eJ) (h1:=hA) (λq δ h'=>Kp1 l h h'/\h'[l]?=a_ (.ins "Tree" [("made",.ref h.length),("failed",y)])/\bD h' h.length=a_ ((ts.take q).map gZ)/\∃x3 x4 x5 x6,δ=[c_ l,c_ lr,c_ lx,x3,x4,x5,x6]) (by simp) (k1 _ _ nr gr) ⟨k1,g2,t2,_,_,_,_,rfl⟩ ?_ ?_ ?_
 ·rintro q δ h' hq ⟨k2,_⟩;show k2 _ _ nr gr
 ·rintro q y' δ h' hy ⟨k2,g3,t3,x3,x4,x5,x6,rfl⟩;rw[Vf]at hy;let⟨t,ht,rfl⟩:=Vn.mp hy;refine⟨[c_ l,c_ lr,c_ lx,a_<|pv t.nm,a_<|.str t.ct.kd,a_<|Y9 0,a_<|.str t.sp],by simp[eJ],?_⟩;let hp:fZ (.ref h.length) (pv t.nm) (fC t) h'=a_ (h'.set h.length<|.dD<|bJ ((ts.take q).map gZ) (pv t.nm)<|fC t):=uD t3 rfl (by rw[U2,VT];omega);let hq:=(SC.mp ht).1;let⟨e1,e2⟩:=EA nd ht;rw[Cb e2,<-e1]at hp;let⟨o,ho,_,_⟩:=aZ t3;unfold jP;let fm:aO "made" (.ref l) h'=.ok (.ref h.length) h':=dC g3 rfl;simp[fm];refine⟨_,hp,?_,?_,?_⟩
  ·show λi ob hi e=>aJ (k2 i ob hi e) (by have:=(SC.mp e).1;omega)
  ·show aJ g3 ⋯
  ·rw[<-YJ];show nL<|aS ho
 ·rintro δ h' ⟨k2,g3,t3,x3,x4,x5,x6,rfl⟩;rw[U2,Xo]at t3;rfl';let wj:=k2 _ _ nx gx;simp[nU wj];let g4:=Ext.app h' [MO.lst []] _ _ g3;let cj:=(SC.mp g3).1;let⟨o,ho,_,hh⟩:=aZ t3;let ye:=(SC.mp ho).1;refine⟨_,cK g4<|by simp,?_⟩;show k h.length h'.length _ (k2.tr<|(Kp1.of<|F_ _).tr Kp1.set) (U1 _) ⋯ ⟨aS g4,hh _<|aJ (F_ _ _ _ ho) ⋯,aJ aE ⋯⟩
abbrev Ct.zero:Ct->Ct
 |.n _=>.n 0
 |.l _=>.l []
def nHC:¬ (Vh "Choice")=Vh "Count" := by decide +kernel
def nhc:¬ (Vh "choice")=Vh "count" := by decide +kernel
def KR(ct:Ct)(k:∀h',O_ h'->qR h' h.length ct.zero->Q (.ref h.length) h'):(rZ [.str ct.kd] h).W Q:=by
 refine bG ?_;unfold rY;rw[aD,bV];cases ct with
 |n v=>simp[-mN,Ct.kd];refine wY (ps:=[]) (h1:=h) rfl rfl ?_;refine bG ?_;unfold fJ;let g:(h++[MO.ins "Count" []])[h.length]?=a_ (.ins "Count" []):=aE;simp;refine⟨_,cK g<|by simp,?_⟩;show k _ ((F_ _).setN<|U1 _)<|aS g
 |l R=>simp[-mN,Ct.kd,nhc];rfl';rw[aD,bV];simp[-mN];refine wY (ps:=[]) (h1:=h) rfl rfl ?_;refine bG ?_;unfold eS;let g:(h++[MO.ins "Choice" []])[h.length]?=a_ (.ins "Choice" []):=aE;let x0:O_ (h++[MO.ins "Choice" []]):=F_ _;generalize h++[MO.ins "Choice" []]=hA at g x0;let lA:=(SC.mp g).1;simp;let x1:Ext hA (hA++[MO.lst []]):=F_ _;let g1:=x1 _ _ g;refine⟨_,cK g1<|by simp,?_⟩;show k _ ((x0.trans x1).setN<|U1 _) ⟨hA.length,aS g1,aJ aE ⋯,by simp⟩
variable{ll:Nat}
def IG{lt:Nat}{p:Nm}(ct:Ct)(fo:h[l]?=a_ (.ins "Folding" [("tree",.ref lt),("leaves",.ref ll)]))(tl:bD h ll=a_ kvs)(lk:kvs.length<=100)(k:∀h',Kp1 ll h h'->qR h' h.length ct.zero->bD h' ll=a_ (bJ kvs (pv p)<|.ref h.length)->Q .non h'):(bU [.ref l,pv p,.str ct.kd] h).W Q:=by refine bG ?_;unfold dY;rw[aD];simp;refine KR ct λh1 x1 f1=>?_;rfl';let fl:aO "leaves" (.ref l) h1=.ok (.ref ll) h1:=dC (x1 _ _ fo) rfl;let t1:=bZ x1 tl;let hp:fZ (.ref ll) (pv p) (.ref h.length) h1=a_ (h1.set ll<|.dD<|bJ kvs (pv p)<|.ref h.length):=uD t1 rfl ⋯;let⟨o,ho,_,_⟩:=aZ tl;let nn:oP (.ref h.length) .non h1=.ok (.bl true) h1:=rfl;simp[nn,fl];show⟨_,hp,k _ (λi o hi e=>aJ (x1 _ _ e)<|Wu hi) (f1.keep (λi cn fs e=>aJ e (λz=>by subst z;show fB t1 e)) λi xs e=>aJ e (λz=>by subst z;show jC t1 e))<|nL<|aS<|x1 _ _ ho⟩
abbrev LV(a0:Nat)(h:PH)(ll:Nat)(ts:B_ Th):Prop:=∃kvs,bD h ll=a_ kvs/\kvs.length<=ts.length/\(∀t∈ts,∃c,a0<=c/\Y1 (pv t.nm)=c_ c/\qR h c t.ct)/\∀p,(∀t∈ts,t.nm≠p)->Y1 (pv p)=b_
structure FB(h:PH)(a0 l lt lm lf ll:Nat)(ts:B_ Th):Prop where
 fo:h[l]?=some (.ins "Folding" [("tree",.ref lt),("leaves",.ref ll)])
 ta:TA h lt lm lf (ts.map gZ)
 lv:LV a0 h ll ts
 ne:ll≠lm
 lo:a0<=l/\a0<=lt/\a0<=lm/\a0<=lf/\a0<=ll
variable{a0:Nat}
def LV.ext(v:LV a0 h ll ts)(x:O_ h'):LV a0 h' ll ts:=by let⟨kvs,t,a,b,c⟩:=v;show⟨kvs,bZ x t,a,λt ht=>let ⟨c,l,e,f⟩:=b t ht;⟨c,l,e,f.ext x⟩,c⟩
def FB.ext{lt:Nat}(f:R_ ts)(x:O_ h'):FB h' a0 l lt lm lf ll ts:=⟨x _ _ f.fo,f.ta.ext x,f.lv.ext x,f.ne,f.lo⟩
def FB.ft{lt:Nat}(f:R_ ts):aO "tree" (.ref l) h=.ok (.ref lt) h:=dC f.fo rfl
def FB.fl{lt:Nat}(f:R_ ts):aO "leaves" (.ref l) h=.ok (.ref ll) h:=dC f.fo rfl
def LV.put{t:Th}(hc:a0<=c)(tl:bD h ll=a_ kvs)(lk:kvs.length<=ts.length)(b:∀t∈ts,∃c,a0<=c/\Y1 (pv t.nm)=c_ c/\qR h c t.ct)(no:∀p,(∀t∈ts,t.nm≠p)->Y1 (pv p)=b_)(new:∀u∈ts,u.nm≠t.nm)(fr:∀(i:Nat) o,i≠ll->h[i]?=a_ o->h'[i]?=a_ o)(UC:bD h' ll=a_ (bJ kvs (pv t.nm)<|.ref c))(f:qR h' c t.ct):LV a0 h' ll (ts++[t]):=by
 refine⟨_,UC,?_,λu hu=>?_,λp hp=>?_⟩
 ·have:=Ez kvs (pv t.nm)<|.ref c;simp;omega
 ·rw[cL];rcases Vx.mp hu with hu|hu
  ·rw[if_neg<|λz=>new u hu<|iU z];let⟨c,l,e,f⟩:=b u hu;show⟨c,l,e,f.keep (λi cn fs e=>fr _ _ (λz=>by subst z;show fB tl e) e) λi xs e=>fr _ _ (λz=>by subst z;show jC tl e) e⟩
  ·rw[Va.mp hu,YS 0];show⟨c,hc,rfl,f⟩
 ·rw[cL,if_neg<|λz=>hp t (by simp) (iU z).symm];show no p λu hu=>hp u<|Ws _ hu
def tfC:fK "Count" = a_ kZ:=by simp[fK]
def tfH:fK "Choice" = a_ jO:=by simp[fK,nHC]
def IH{t:Ct}{v:PV}(f:qR h c t.zero)(cv:CtV h v t):∃cn fs fn,h[c]?=a_ (.ins cn fs)/\fs.lookup ("fill" : Str)=b_/\fK cn=a_ fn/\∀Q:PV->PH->Prop,(∀h',Kp1 c h h'->qR h' c t->Q .non h')->(fn [.ref c,v] h).W Q:=by
 cases t with
 |n i=>obtain rfl:v=.int i:=cv;let g:h[c]?=a_ (.ins "Count" [("total",.int 0)]):=f;refine⟨_,_,_,g,rfl,tfC,λQ k=>?_⟩;refine bG ?_;unfold kY;simp;refine⟨_,cK g<|by simp,?_⟩;show k _ Kp1.set<|aS g
 |l R=>let⟨s,rfl,gs,lR⟩:=cv;let⟨s0,g,_,_⟩:=f;refine⟨_,_,_,g,rfl,tfH,λQ k=>?_⟩;refine bG ?_;unfold jN;simp[nU gs];let x1:O_ (h++[MO.lst<|R.map rwN]):=F_ _;let hl:=(SC.mp g).1;refine⟨_,cK (x1 _ _ g)<|by simp,?_⟩;show k _ ((Kp1.of x1).tr Kp1.set) ⟨h.length,aS<|x1 _ _ g,aJ aE ⋯,lR⟩
variable{h0:PH}
def Cc{zs:B_ (Th×PV)}(nd:((zs.map (·.1)).map (·.nm)).Nodup)(hz:zs.length<=60)(x0:Ext h0 h)(g:h[h0.length]?=a_ (.ins "Folding" []))(gr:h[lr]?=a_ (.lst<|zs.map nA))(gx:h[lx]?=a_ (.lst []))(cz:∀z∈zs,CtV h z.2 z.1.ct)(k:∀lt lm lf ll h',Ext h0 h'->FB h' h0.length h0.length lt lm lf ll (zs.map (·.1))->Q .non h'):(bH [.ref h0.length,.tup [.ref lr,.ref lx]] h).W Q:=by
 let nr:lr≠h0.length:=λz=>by subst z;rw[g]at gr;cases gr
 let nx:lx≠h0.length:=λz=>by subst z;rw[g]at gx;cases gx
 let qu:=(SC.mp g).1;refine bG ?_;unfold dZ;rw[aD];simp;rfl';rw[aD,Nl];refine wY (ps:=[]) (h1:=h) rfl rfl ?_;let g0:(h++[MO.ins "Tree" []])[h.length]?=a_ (.ins "Tree" []):=aE;refine IF g0 λx y h1 k1 g1=>⟨rfl,?_⟩;let x1:O_ h1:=Kp1.ext (F_ _) k1<|U1 _;simp;refine⟨_,cK (x1 _ _ g)<|by simp,?_⟩;let k2:Kp1 h0.length h (h1.set h0.length<|MO.ins "Folding"<|gO "tree" (.ref h.length) []):=(Kp1.of x1).tr Kp1.set;let f2:(h1.set h0.length<|MO.ins "Folding"<|gO "tree" (.ref h.length) [])[h0.length]?=a_ (.ins "Folding" [("tree",.ref h.length)]):=aS<|x1 _ _ g;let t2:(h1.set h0.length<|MO.ins "Folding"<|gO "tree" (.ref h.length) [])[h.length]?=a_ _:=aJ g1 ⋯;generalize h1.set h0.length (MO.ins "Folding"<|gO "tree" (.ref h.length) [])=h2 at k2 f2 t2;rfl';rw[aD];let r2:=k2 _ _ nr gr;let hc:=dN (m:=mV 2) (js:=[b_]) (tg:=gN 0) (tst:=gM) (elt:=mSl (mV 0) iJ<|mP<|q_ 4) (δ:=[q0i 0,a_<|.tup [.ref lr,.ref lx],c_ lr,c_ lx,b_,b_,b_,b_,b_]) (h:=h2) (h1:=h2) (n:=lr) (ys:=zs) (emb:=nA) (λz=>a_<|eJ z.1) (by simp) r2 ⋯
  (λt _=>⟨[a_<|nA t],by simp[cQ],λh _=>⟨rfl,by simp[nA,eJ,eL,HT.sIx]⟩⟩)
 rw[filterMap_some,show zs.map (λz=>eJ z.1)=(zs.map (·.1)).map eJ by rw[VF];rfl]at hc;let x3:Ext h2 (h2++[MO.lst ((zs.map (·.1)).map eJ)]):=F_ _;let r3:(h2++[MO.lst ((zs.map (·.1)).map eJ)])[h2.length]?=a_ (.lst ((zs.map (·.1)).map eJ)):=aE;let TZ:=(SC.mp t2).1;generalize h2.length=l4 at hc r3 TZ;generalize h2++[MO.lst ((zs.map (·.1)).map eJ)]=h3 at hc r3 x3;let mf:=aN "fill" 2 AM (aA (aW [b_] (aY<|mV 2) (gN 0) gM<|mSl (mV 0) iJ<|mP<|q_ 4)<|aA (mV 3) aC) [q0i 0,a_<|.tup [.ref lr,.ref lx],c_ lr,c_ lx,b_,b_,b_,b_,b_] h2 (mUn (aO "tree")<|mV 0) iZ (by have:aO "tree" (.ref h0.length) h2=.ok (.ref h.length) h2:=dC f2 rfl;simp[this]) t2 (by simp[AM]) rfl;rw[Lk,mf];simp[hc];refine KQ nd (by rw[U2];omega) (x3 _ _ t2) r3 (x3 _ _<|k2 _ _ nx gx) λlm lf h4 k4 lm4 lf4 t4=>?_;let l3:=(SC.mp r3).1;let k5:Kp1 h0.length h h4:=λi o hi e=>k4 i o (by have:=(SC.mp e).1;omega)<|x3 _ _<|k2 i o hi e;let UZ:h4[h0.length]?=a_ (.ins "Folding" [("tree",.ref h.length)]):=k4 _ _ ⋯ (x3 _ _ f2);let⟨o,ho,_,RW⟩:=aZ t4.made;let lmh:=(SC.mp ho).1;let lfh:=(SC.mp t4.fail).1;let lth:=(SC.mp t4.ins).1;rfl';rw[aD];simp;let x5:Ext h4 (h4++[MO.dK []]):=F_ _;let Sd:=x5 _ _ UZ;refine⟨_,cK Sd<|by simp,?_⟩;let k6:Kp1 h0.length h ((h4++[MO.dK []]).set h0.length<|MO.ins "Folding"<|gO "leaves" (.ref h4.length) [("tree",.ref h.length)]):=k5.tr<|(Kp1.of x5).tr Kp1.set;let jv:∀(i:Nat) o,i≠h0.length->(h4++[MO.dK []])[i]?=a_ o->((h4++[MO.dK []]).set h0.length<|MO.ins "Folding"<|gO "leaves" (.ref h4.length) [("tree",.ref h.length)])[i]?=a_ o:=λi o hi e=>aJ e<|Wu hi;let vq:((h4++[MO.dK []]).set h0.length<|MO.ins "Folding"<|gO "leaves" (.ref h4.length) [("tree",.ref h.length)])[h0.length]?=a_ (.ins "Folding" [("tree",.ref h.length),("leaves",.ref h4.length)]):=aS Sd;let t6:TA ((h4++[MO.dK []]).set h0.length<|MO.ins "Folding"<|gO "leaves" (.ref h4.length) [("tree",.ref h.length)]) h.length lm lf ((zs.map (·.1)).map gZ):=⟨jv _ _ ⋯ (x5 _ _ t4.ins),RW _<|jv _ _ ⋯ (x5 _ _ ho),jv _ _ ⋯ (x5 _ _ t4.fail)⟩;let v6:LV h0.length ((h4++[MO.dK []]).set h0.length<|MO.ins "Folding"<|gO "leaves" (.ref h4.length) [("tree",.ref h.length)]) h4.length ((zs.map (·.1)).take 0):=⟨[],AW<|jv _ _ ⋯ aE,by simp,by simp,λ_ _=>rfl⟩;generalize (h4++[MO.dK []]).set h0.length (MO.ins "Folding"<|gO "leaves" (.ref h4.length) [("tree",.ref h.length)])=h6 at k6 vq t6 v6;rfl';let dm:lm≠h4.length:=⋯
 let ds:h0.length≠h4.length/\h.length≠h4.length/\lf≠h4.length:=⋯;let lo:h0.length<=h.length/\h0.length<=lm/\h0.length<=lf/\h0.length<=h4.length:=⋯;let SQ:h.length<h4.length:=⋯;generalize h4.length=ll at vq v6 dm ds lo SQ;refine oR (n:=lr) (xs:=zs.map nA) (h1:=h6) (λq δ h'=>Kp1 h0.length h h'/\h'[h0.length]?=a_ (.ins "Folding" [("tree",.ref h.length),("leaves",.ref ll)])/\TA h' h.length lm lf ((zs.map (·.1)).map gZ)/\LV h0.length h' ll ((zs.map (·.1)).take q)/\∃x4 x5 x6 x7 x8,δ=[q0i 0,a_<|.tup [.ref lr,.ref lx],c_ lr,c_ lx,x4,x5,x6,x7,x8]) (by simp) (k6 _ _ nr gr) ⟨k6,vq,t6,v6,_,_,_,_,_,rfl⟩ ?_ ?_ ?_
 ·rintro q δ h' hq ⟨k7,_⟩;show k7 _ _ nr gr
 ·rintro q y' δ h' hy ⟨k7,fo7,t7,v7,x4,x5,x6,x7,x8,rfl⟩;rw[Vf]at hy;let⟨z,ig,rfl⟩:=Vn.mp hy;refine⟨[q0i 0,a_<|.tup [.ref lr,.ref lx],c_ lr,c_ lx,a_<|pv z.1.nm,a_<|.str z.1.ct.kd,a_<|Y9 0,a_<|.str z.1.sp,a_ z.2],by simp[nA],?_⟩;let cv:CtV h' z.2 z.1.ct:=(cz z<|VE ig).ext λi xs e=>k7 _ _ (λw=>by subst w;rw[g]at e;cases e) e;let⟨kvs,tl,lk,b,no⟩:=v7;let⟨e1,e2⟩:=EA (ts:=zs.map (·.1)) nd (q:=q) (t:=z.1) (by rw[Vf,ig];rfl);let lq:((zs.map (·.1)).take q).length<=60:=by rw[VT,U2];omega
  let ma:=aN "add_leaf" 2 eG (aA (mV 4)<|aA (mV 5) aC) [q0i 0,a_<|.tup [.ref lr,.ref lx],c_ lr,c_ lx,a_<|pv z.1.nm,a_<|.str z.1.ct.kd,a_<|Y9 0,a_<|.str z.1.sp,a_ z.2] h' (mV 0) bU (by simp) fo7 (by simp[eG]) rfl;unfold cY;rw[aD,Lk,ma];simp;refine IG z.1.ct fo7 tl ⋯ λh8 k8 c8 t8=>?_;let TY:=k8 _ _ ds.1 fo7;let⟨o7,Tv,_,vv⟩:=aZ t7.made;let⟨oL,fg,_,_⟩:=aZ tl;let bL:=(SC.mp fg).1;let zb:aF (bJ kvs (pv z.1.nm)<|.ref h'.length) (pv z.1.nm)=c_ h'.length:=by rw[cL,YS 0]
  let hs:fH (pv z.1.nm) (.ref ll) h8=.ok (.bl true) h8:=by have:fH (pv z.1.nm) (.ref ll) h8=.ok (.bl (aF (bJ kvs (pv z.1.nm)<|.ref h'.length)<|pv z.1.nm).isSome) h8:=oW t8 rfl;rw[this,zb];rfl
  let va:vAt (.ref ll) (pv z.1.nm) h8=.ok (.ref h'.length) h8:=mZ t8 rfl zb;let fl:aO "leaves" (.ref h0.length) h8=.ok (.ref ll) h8:=dC TY rfl;let Tq:CtV h8 z.2 z.1.ct:=cv.ext λi xs e=>k8 _ _ (λw=>by subst w;show jC tl e) e;let⟨cn,fs,fn,gc,nl,tb,W⟩:=IH c8 Tq;rfl';let mf:=aN "fill" 1 fK (aA (mV 8) aC) [q0i 0,a_<|.tup [.ref lr,.ref lx],c_ lr,c_ lx,a_<|pv z.1.nm,a_<|.str z.1.ct.kd,a_<|Y9 0,a_<|.str z.1.sp,a_ z.2] h8 (k_ (mUn (aO "leaves")<|mV 0)<|mV 4) fn (by simp[fl,va]) gc tb nl;rw[bV];simp[fl,hs,mf];refine W _ λh9 k9 c9=>?_;let fr:∀(i:Nat) o,i≠ll->h'[i]?=a_ o->h9[i]?=a_ o:=λi o hi e=>k9 i o (by have:=(SC.mp e).1;omega)<|k8 i o hi e;let⟨o8,UL,_,vk⟩:=aZ t8;rw[<-YJ];refine⟨λi o hi e=>fr _ _ (by have:=(SC.mp e).1;omega)<|k7 _ _ hi e,fr _ _ ds.1 fo7,⟨fr _ _ ds.2.1 t7.ins,by rw[<-VF];show vv _<|fr _ _ dm Tv,fr _ _ ds.2.2 t7.fail⟩,?_⟩;rw[YJ,e1];show LV.put (by have:=(SC.mp fo7).1;omega) tl lk b no e2 fr (vk _<|k9 _ _ ⋯ UL) c9
 ·rintro δ h' ⟨k7,fo7,t7,v7,x4,x5,x6,x7,x8,rfl⟩;rw[U2,Xm (by rw[U2];show U1 _)]at v7;show k _ _ _ _ _ (Kp1.ext x0 k7<|U1 _) ⟨fo7,t7,v7,Wu dm,U1 _,lo.1,lo.2.1,lo.2.2.1,lo.2.2.2⟩
def G1(S:Seen)(nm:Str×Int)(h:PH):kA [sv S,pv nm] h=.ok (.bl<|match look S nm.1 with|some n=>decide (nm.2<=n)|none=>false) h:=by
 let w:(kA [sv S,pv nm] h).W λq h'=>q=.bl (match look S nm.1 with|some n=>decide (nm.2<=n)|none=>false)/\h'=h:=by
  refine bG ?_;unfold wM;rw[aD];refine N4 (xs:=S.map pv) (λq δ h'=>h'=h/\look (S.drop q) nm.1=look S nm.1/\∃x2 x3,δ=[a_<|sv S,a_<|pv nm,x2,x3]) (.inl<|by simp[Im]) ⟨rfl,rfl,_,_,rfl⟩ ?_ ?_
  ·rintro q x δ h' hx ⟨rfl,hk,x2,x3,rfl⟩;rw[Vf]at hx;let⟨p,hp,rfl⟩:=Vn.mp hx;let hd:S.drop q=p::S.drop (q+1):=by let⟨hl,e⟩:=SC.mp hp;rw[List.drop_eq_getElem_cons hl,e]
   rw[hd,sC]at hk;refine⟨_,by simp[pv];rfl,?_⟩;unfold pJ;by_cases e:p.1=nm.1
   ·rw[Z5 0]at hk;simp[pv,e];rw[<-hk]
   ·rw[Zp 0]at hk;simp[pv,e];show hk
  ·rintro δ h' ⟨rfl,hk,x2,x3,rfl⟩;rfl';rw[U2,List.drop_length]at hk;simp[<-hk,look]
 let⟨q,h',e,rfl,rfl⟩:=fX w;show e
abbrev Kb(a0:Nat)(h h':PH):Prop:=(∀(i:Nat) o,i<a0->h[i]?=a_ o->h'[i]?=a_ o)/\∀(i:Nat) xs,h[i]?=a_ (.lst xs)->h'[i]?=a_ (.lst xs)
def Kb.of(x:O_ h'):Kb a0 h h':=⟨λi o _ e=>x i o e,λi _ e=>x i _ e⟩
def Kb.trans(x:Kb a0 h h')(y:Kb a0 h' h2):Kb a0 h h2:=⟨λi o hi e=>y.1 i o hi<|x.1 i o hi e,λi o e=>y.2 i o<|x.2 i o e⟩
def EB(p q:Nm)(h:PH):vEq (pv p) (pv q) h=.ok (.bl<|decide (p=q)) h:=by
 rw[As rfl rfl];by_cases e:p=q
 ·simp[e]
 ·have:¬ pv p=pv q:=λz=>e<|iU z;simp[e,this]
def sG(lt:Nat)(h:PH):aI [.ref lt,Y9 0] h=.ok (.str "map") h:=by
 let w:(aI [.ref lt,Y9 0] h).W λq h'=>q=.str "map" /\ h'=h:=by refine bG ?_;unfold eQ;rw[aD,bV];let e:vEq (Y9 0) (.tup [.str "",.int 0]) h=.ok (.bl true) h:=EB root root h;simp[e]
 let⟨q,h',e,rfl,rfl⟩:=fX w;show e
variable{r:Th}
def sH{lt:Nat}(t:TA h lt lm lf T){p:Nm}(hp:p≠root)(e:aF T (pv p)=a_ (fC r)):aI [.ref lt,pv p] h=.ok (.str r.ct.kd) h:=by
 let w:(aI [.ref lt,pv p] h).W λq h'=>q=.str r.ct.kd/\h'=h:=by
  refine bG ?_;unfold eQ;rw[aD,bV];let e0:vEq (pv p) (.tup [.str "",.int 0]) h=.ok (.bl false) h:=by have:=EB p root h;rw[decide_eq_false hp]at this;show this
  let e1:fH (pv p) (.ref lm) h=.ok (.bl true) h:=by have:fH (pv p) (.ref lm) h=.ok (.bl (aF T<|pv p).isSome) h:=oW t.made rfl;rw[this,e];rfl
  let e2:vAt (.ref lm) (pv p) h=.ok (fC r) h:=mZ t.made rfl e;let e3:vIx (fC r) (.int 0) h=.ok (.str r.ct.kd) h:=by unfold fC;simp
  simp[e0];rfl';simp[t.fm,e1,e2,e3]
 let⟨q,h',e,rfl,rfl⟩:=fX w;show e
def DE{lt:Nat}(t:TA h lt lm lf T)(sp:Str):eU [.ref lt,Y9 0,.str sp] h=.ok (.bl true) h:=by
 let w:(eU [.ref lt,Y9 0,.str sp] h).W λq h'=>q=.bl true/\h'=h:=by refine bG ?_;unfold lG;let mk:=aN "kind_of" 1 aQ (aA (mV 1) aC) [c_ lt,a_<|Y9 0,a_<|.str sp] h (mV 0) aI (by simp) t.ins (by simp[aQ]) rfl;let e:vEq (.str "map") (.str "map") h=.ok (.bl true) h:=rfl;let i1:D9 [.str sp,.ty "str"] h=.ok (.bl true) h:=(rfl);simp[mk,sG,i1,e]
 let⟨q,h',e,rfl,rfl⟩:=fX w;show e
def G2(sp:Str)(p:PV)(h:PH):lH [.str sp,p] h=.ok (.str sp) h:=by
 let w:(lH [.str sp,p] h).W λq h'=>q=.str sp/\h'=h:=by refine bG ?_;unfold pK;let i1:D9 [.str sp,.ty "str"] h=.ok (.bl true) h:=(rfl);simp[i1]
 let⟨q,h',e,rfl,rfl⟩:=fX w;show e
def nTC:¬ (Vh "Tree")=Vh "Count" := by decide +kernel
def nTH:¬ (Vh "Tree")=Vh "Choice" := by decide +kernel
def tbT:eV "Tree" = a_ gH:=by simp[eV,nTC,nTH]
def tbC:eV "Count" = a_ eT:=by simp[eV]
def tbH:eV "Choice" = a_ dR:=by simp[eV,nHC]
def ND{d:Dd}:vIx (dP d) (.int 2) h=.ok (.tup d.act) h:=by unfold dP;simp
def EC{lt:Nat}(f:R_ ts)(ls:ts.length<=50){d:Dd}{t:Th}(en:d.nm=t.nm)(ea:d.act=[.str "make",.str t.ct.kd,Y9 0,.str t.sp])(ez:t.ct.zero=t.ct)(new:∀u∈ts,u.nm≠t.nm)(Q:PV->PH->Prop)(k:∀v h',Kb a0 h h'->FB h' a0 l lt lm lf ll (ts++[t])->Q v h'):(cA [.ref l,dP d] h).W Q:=by
 let ed:dP d=.tup [pv t.nm,ZN 0,.tup [.str "make",.str t.ct.kd,Y9 0,.str t.sp]]:=by unfold dP;rw[ea,en]
 refine bG ?_;unfold eX;rw[aD,ed];simp;rfl';rw[aD,bV];let in1:vIn (.str "make") (.tup [.str "make",.str "move",.str "drop"]) h=.ok (.bl true) h:=(rfl);let mh:=aN "hear_tree" 1 lJ (aA (mV 1) aC) ([c_ l,a_<|.tup [pv t.nm,ZN 0,.tup [.str "make",.str t.ct.kd,Y9 0,.str t.sp]],a_<|.tup [.str "make",.str t.ct.kd,Y9 0,.str t.sp]]) h (mV 0) dI (by simp) f.fo (by simp[lJ]) rfl;simp[in1,mh];refine bG ?_;unfold dH;rw[aD];let mt:=aN "hear" 1 eV (aA (mV 1) aC) [c_ l,a_<|.tup [pv t.nm,ZN 0,.tup [.str "make",.str t.ct.kd,Y9 0,.str t.sp]],b_,b_] h (mUn (aO "tree")<|mV 0) gH (by simp[f.ft]) f.ta.ins tbT rfl;simp[mt];refine bG ?_;unfold mT;rw[aD];simp;rfl';rw[aD,bV];let mm:=aN "hear_make" 2 lI (aA (mV 2)<|aA (mV 4) aC) ([c_ lt,a_<|.tup [pv t.nm,ZN 0,.tup [.str "make",.str t.ct.kd,Y9 0,.str t.sp]],a_<|pv t.nm,a_<|ZN 0,a_<|.tup [.str "make",.str t.ct.kd,Y9 0,.str t.sp]]) h (mV 0) fN (by simp) f.ta.ins (by simp[lI]) rfl;simp[mm];refine bG ?_;unfold fM;rw[aD];simp;rfl';rw[aD,bV];let mk:=aN "takes" 2 wQ (aA (mV 5)<|aA (mV 6) aC) [c_ lt,a_<|pv t.nm,a_<|.tup [.str "make",.str t.ct.kd,Y9 0,.str t.sp],a_<|.str "make",a_<|.str t.ct.kd,a_<|Y9 0,a_<|.str t.sp] h (mV 0) eU (by simp) f.ta.ins (by simp[wQ]) rfl;simp[mk,DE f.ta];rfl';rw[aD];let hp:fZ (.ref lm) (pv t.nm) (fC t) h=a_ (h.set lm<|.dD<|bJ (ts.map gZ) (pv t.nm)<|fC t):=uD f.ta.made rfl (by rw[U2];omega);rw[Cb new]at hp;let SF:fZ (.ref lm) (pv t.nm) (.tup [.str t.ct.kd,Y9 0,.str t.sp]) h=a_ (h.set lm<|.dD<|(ts++[t]).map gZ):=hp;let⟨o,ho,_,_⟩:=aZ f.ta.made;let d1:l≠lm:=λz=>by subst z;show fB f.ta.made f.fo
 let d2:lt≠lm:=λz=>by subst z;show fB f.ta.made f.ta.ins
 let d3:lf≠lm:=λz=>by subst z;show jC f.ta.made f.ta.fail
 let t1:TA (h.set lm<|.dD<|(ts++[t]).map gZ) lt lm lf ((ts++[t]).map gZ):=⟨aJ f.ta.ins<|Wu d2,nL<|aS ho,aJ f.ta.fail<|Wu d3⟩;let qq:(h.set lm<|.dD<|(ts++[t]).map gZ)[l]?=a_ (.ins "Folding" [("tree",.ref lt),("leaves",.ref ll)]):=aJ f.fo<|Wu d1;let kb1:Kb a0 h (h.set lm<|.dD<|(ts++[t]).map gZ):=⟨λi o hi e=>aJ e (by have:=f.lo;omega),λi xs e=>aJ e (λz=>by subst z;show jC f.ta.made e)⟩;let zw:∀(i:Nat) cn fs,h[i]?=a_ (.ins cn fs)->(h.set lm<|.dD<|(ts++[t]).map gZ)[i]?=a_ (.ins cn fs):=λi cn fs e=>aJ e (λz=>by subst z;show fB f.ta.made e);let⟨kvs,tl,lk,b,no⟩:=f.lv;let ug:bD (h.set lm<|.dD<|(ts++[t]).map gZ) ll=a_ kvs:=uH tl λo ho=>aJ ho<|Wu f.ne;let b1:∀t'∈ts,∃c,a0<=c/\Y1 (pv t'.nm)=c_ c/\qR (h.set lm<|.dD<|(ts++[t]).map gZ) c t'.ct:=λt' ht=>let ⟨c,l,e,g⟩:=b t' ht;⟨c,l,e,g.keep zw kb1.2⟩;generalize h.set lm (.dD<|(ts++[t]).map gZ)=h1 at SF t1 qq kb1 zw ug b1;simp[f.ta.fm,G2,SF];rfl';simp;rfl';rw[aD];simp;rfl';rw[aD,bV];let ma:=aN "add_leaf" 2 eG (aA (k_ (mV 1)<|q_ 0)<|aA (k_ (mV 3)<|q_ 1) aC) ([c_ l,a_<|.tup [pv t.nm,ZN 0,.tup [.str "make",.str t.ct.kd,Y9 0,.str t.sp]],a_<|.str "done",a_<|.tup [.str "make",.str t.ct.kd,Y9 0,.str t.sp]]) h1 (mV 0) bU (by simp) qq (by simp[eG]) rfl;simp[ma];refine IG t.ct qq ug ⋯ λh2 k2 c2 t2=>?_;rfl';simp;let d4:l≠ll:=λz=>by subst z;show fB tl f.fo
 let d5:lt≠ll:=λz=>by subst z;show fB tl f.ta.ins
 let d6:lf≠ll:=λz=>by subst z;show jC tl f.ta.fail
 rw[ez]at c2;refine k _ _ (kb1.trans ⟨λi o hi e=>k2 i o (by have:=f.lo;omega) e,λi xs e=>k2 i _ (λz=>by subst z;show jC ug e) e⟩) ⟨k2 _ _ d4 qq,⟨k2 _ _ d5 t1.ins,uH t1.made λo ho=>k2 _ _ (Wu f.ne) ho,k2 _ _ d6 t1.fail⟩,LV.put (by have:=(SC.mp qq).1;have:=f.lo;omega) ug lk b1 no new k2 t2 c2,f.ne,f.lo⟩
abbrev t1(w0:Str)(v:Int):Th:=⟨(w0,1),"sum",.n v⟩
abbrev t2(w0:Str)(R:B_ (Nm×Int)):Th:=⟨(w0,2),"one",.l R⟩
def n12(w0:Str):((w0,1):Nm)≠(w0,2):=λz=>by have:(1:Int)=2:=(Prod.ext_iff.mp z).2;omega
def nr1(w0:Str):((w0,1):Nm)≠root:=λz=>by have:(1:Int)=0:=(Prod.ext_iff.mp z).2;omega
def nr2(w0:Str):((w0,2):Nm)≠root:=λz=>by have:(2:Int)=0:=(Prod.ext_iff.mp z).2;omega
def ED(w0:Str)(v:Int)(R:B_ (Nm×Int)):aF ([YY v,YU R].map gZ) (pv (w0,1))=a_ (fC<|YY v):=YS 0
def EE(w0:Str)(v:Int)(R:B_ (Nm×Int)):aF ([YY v,YU R].map gZ) (pv (w0,2))=a_ (fC<|YU R):=by
 change(if pv (w0,1)=pv (w0,2) then _ else _)=_
 rw[if_neg<|λz=>n12 w0<|iU z];show YS 0
variable{R:B_ (Nm×Int)}{v:Int}
def II{p:Nm}(hp:∀t∈[t1 w0 v,YU R],t.nm≠p):(w0,1)≠p/\(w0,2)≠p:=⟨hp (YY v)<|by simp,hp (YU R)<|by simp⟩
def LV.two(x:LV a0 h ll [YY v,YU R]):∃kvs c1 c2 s,a0<=c1/\a0<=c2/\bD h ll=a_ kvs/\kvs.length<=2/\Y1 (pv (w0,1))=c_ c1/\Y1 (pv (w0,2))=c_ c2/\h[c1]?=a_ (.ins "Count" [("total",.int v)])/\h[c2]?=a_ (.ins "Choice" [("standing",.ref s)])/\h[s]?=a_ (.lst<|R.map rwN)/\R.length<=100/\∀p,(w0,1)≠p->(w0,2)≠p->Y1 (pv p)=b_:=by
 let⟨kvs,t,a,b,c⟩:=x;let⟨c1,l1,e1,f1⟩:=b (YY v) (by simp);let⟨c2,l2,e2,s,f2,f3,f4⟩:=b (YU R) (by simp);show⟨kvs,c1,c2,s,l1,l2,t,l_ a,e1,e2,f1,f2,f3,f4,λp h1 h2=>c p λu hu=>by
  simp at hu;rcases hu with rfl|rfl
  ·show h1
  ·show h2⟩
variable{s:Nat}
def LV.mk2{c1 c2:Nat}(l1:a0<=c1)(l2:a0<=c2)(t:bD h ll=a_ kvs)(a:kvs.length<=2)(e1:Y1 (pv (w0,1))=c_ c1)(e2:Y1 (pv (w0,2))=c_ c2)(f1:h[c1]?=a_ (.ins "Count" [("total",.int v)]))(f2:h[c2]?=a_ (.ins "Choice" [("standing",.ref s)]))(f3:h[s]?=a_ (.lst<|R.map rwN))(f4:R.length<=100)(c:∀p,(w0,1)≠p->(w0,2)≠p->Y1 (pv p)=b_):LV a0 h ll [YY v,YU R]:=by
 refine⟨kvs,t,l_ a,λu hu=>?_,λp hp=>c p (II hp).1 (II hp).2⟩;simp at hu;rcases hu with rfl|rfl
 ·show⟨c1,l1,e1,f1⟩
 ·show⟨c2,l2,e2,s,f2,f3,f4⟩
def NF(h:PH):iS [.str "add"] h=.ok (.str "count") h:=rfl
def NG(h:PH):iS [.str "choose"] h=.ok (.str "choice") h:=by
 let n1:¬ (Vh "add")=Vh "choose" := by decide +kernel
 let w:(iS [.str "choose"] h).W λq h'=>q=.str "choice" /\ h'=h:=by refine bG ?_;unfold pL;simp[vGd,wI,gdV,n1]
 let⟨q,h',e,rfl,rfl⟩:=fX w;show e
abbrev nx6(d:Dd)(s:Int×B_ (Nm×Int)):A6->Int×B_ (Nm×Int)
 |.add n=>(s.1+n,s.2)
 |.cho n=>(s.1,(s.2.filter λr=>!ZJ r.1)++[(d.nm,n)])
 |.oth=>s
def IJ{lt:Nat}(f:R_ [YY v,YU R])(lR:R.length<=90){d:Dd}(ok:Ok6 w0 d){a:A6}(da:D6 w0 d a)(Q:PV->PH->Prop)(k:∀u h',Kb a0 h h'->FB h' a0 l lt lm lf ll [YY (nx6 d (v,R) a).1,YU (nx6 d (v,R) a).2]->Q u h'):(cA [.ref l,dP d] h).W Q:=by
 refine bG ?_;unfold eX;let⟨kvs,c1,c2,s,u6,oj,tl,lk,e1,e2,g1,g2,g3,g4,no⟩:=f.lv.two;let⟨oL,fg,_,RZ⟩:=aZ tl;cases a with
 |oth=>
  let⟨_,wa,_⟩:=ok.wf;let ne:d.kd≠.other:=da;obtain⟨w,r,ea,i1,i2⟩:∃(w:Str)(r:Y4 0),d.act=.str w::r/\vIn (.str w) (.tup [.str "make",.str "move",.str "drop"]) h=.ok (.bl false) h/\rG (.str w) (.tup [.str "back",.str "settle"]) h=.ok (.bl false) h:=by
   cases hk:d.kd with
   |other=>exact(ne hk).elim
   |settle=>rw[hk]at wa;show⟨_,_,wa,(rfl),(rfl)⟩
   |back f l'=>rw[hk]at wa;show⟨_,_,wa,(rfl),(rfl)⟩
  let ew:atI d.act 0=a_ (.str w):=by rw[ea];show kH (i:=0) rfl
  rw[aD];simp[ND];rfl';rw[aD,bV];simp[ew,i1];rfl';rw[aD,bV];simp[ew,i2];rfl';simp;show k _ _ (Kb.of<|Ext.refl _) f
 |add n=>
  let ed:dP d=.tup [pv d.nm,ZN 0,.tup [.str "add",pv (w0,1),.int n]]:=by unfold dP;rw[show d.act=_ from da]
  rw[aD,ed];simp;rfl';rw[aD,bV];let i1:vIn (.str "add") (.tup [.str "make",.str "move",.str "drop"]) h=.ok (.bl false) h:=(rfl);let i2:rG (.str "add") (.tup [.str "back",.str "settle"]) h=.ok (.bl true) h:=(rfl);simp[i1];rfl';rw[aD,bV];let mk:=aN "kind_of" 1 aQ (aA (k_ (mV 2)<|q_ 1) aC) ([c_ l,a_<|.tup [pv d.nm,ZN 0,.tup [.str "add",pv (w0,1),.int n]],a_<|.tup [.str "add",pv (w0,1),.int n]]) h (mUn (aO "tree")<|mV 0) aI (by simp[f.ft]) f.ta.ins (by simp[aQ]) rfl;let kt:aI [.ref lt,pv (w0,1)] h=.ok (.str "count") h:=sH f.ta (nr1 w0)<|ED w0 v R;let ne:Bz (.str "count") (.str "count") h=.ok (.bl false) h:=by simp[Bz]
  simp[i2];rw[aD,bV];simp[mk,kt,NF,ne];rfl';let va:vAt (.ref ll) (pv (w0,1)) h=.ok (.ref c1) h:=mZ tl rfl e1;let mm:=aN "hear" 1 eV (aA (mV 1) aC) ([c_ l,a_<|.tup [pv d.nm,ZN 0,.tup [.str "add",pv (w0,1),.int n]],a_<|.tup [.str "add",pv (w0,1),.int n]]) h (k_ (mUn (aO "leaves")<|mV 0)<|k_ (mV 2)<|q_ 1) eT (by simp[f.fl,va]) g1 tbC rfl;simp[mm];refine bG ?_;unfold lF;rw[aD];simp;rfl';let q1:=qK g1;let q2:=cK (f:="total") (p:=.int<|v+n) g1 (by simp);let l1:Yf ("total" : Str) [(("total" : Str),PV.int v)]=d_ v:=rfl;simp[Ek,q1,Kl,l1,q2];rfl';simp;let fr:∀(i:Nat) o,h[i]?=a_ o->(∀fs,o≠.ins "Count" fs)->(h.set c1<|.ins "Count"<|gO "total" (.int<|v+n) [("total",.int v)])[i]?=a_ o:=λi o e hn=>aJ e (λz=>by subst z;rw[g1]at e;show hn _ (Vq e).symm);refine k _ _ ⟨λi o hi e=>aJ e ⋯,λi xs e=>fr _ _ e λfs z=>nomatch z⟩ ⟨fr _ _ f.fo λfs z=>?_,⟨fr _ _ f.ta.ins λfs z=>?_,uH f.ta.made λo ho=>aJ ho (λz=>by subst z;show fB f.ta.made g1),fr _ _ f.ta.fail λfs z=>nomatch z⟩,LV.mk2 u6 oj (RZ _<|aJ fg (λz=>by subst z;show fB tl g1)) lk e1 e2 (aS g1) (fr _ _ g2 λfs z=>?_) (fr _ _ g3 λfs z=>nomatch z) g4 no,f.ne,f.lo⟩
  ·show absurd (MO.ins.inj z).1 (by decide +kernel)
  ·show absurd (MO.ins.inj z).1 (by decide +kernel)
  ·show absurd (MO.ins.inj z).1 (by decide +kernel)
 |cho n=>
  let ed:dP d=.tup [pv d.nm,ZN 0,.tup [.str "choose",pv (w0,2),.int n]]:=by unfold dP;rw[show d.act=_ from da]
  rw[aD,ed];simp;rfl';rw[aD,bV];let i1:vIn (.str "choose") (.tup [.str "make",.str "move",.str "drop"]) h=.ok (.bl false) h:=(rfl);let i2:rG (.str "choose") (.tup [.str "back",.str "settle"]) h=.ok (.bl true) h:=(rfl);simp[i1];rfl';rw[aD,bV];let mk:=aN "kind_of" 1 aQ (aA (k_ (mV 2)<|q_ 1) aC) ([c_ l,a_<|.tup [pv d.nm,ZN 0,.tup [.str "choose",pv (w0,2),.int n]],a_<|.tup [.str "choose",pv (w0,2),.int n]]) h (mUn (aO "tree")<|mV 0) aI (by simp[f.ft]) f.ta.ins (by simp[aQ]) rfl;let kt:aI [.ref lt,pv (w0,2)] h=.ok (.str "choice") h:=sH f.ta (nr2 w0)<|EE w0 v R;let ne:Bz (.str "choice") (.str "choice") h=.ok (.bl false) h:=by simp[Bz]
  simp[i2];rw[aD,bV];simp[mk,kt,NG,ne];rfl';let va:vAt (.ref ll) (pv (w0,2)) h=.ok (.ref c2) h:=mZ tl rfl e2;let mm:=aN "hear" 1 eV (aA (mV 1) aC) ([c_ l,a_<|.tup [pv d.nm,ZN 0,.tup [.str "choose",pv (w0,2),.int n]],a_<|.tup [.str "choose",pv (w0,2),.int n]]) h (k_ (mUn (aO "leaves")<|mV 0)<|k_ (mV 2)<|q_ 1) dR (by simp[f.fl,va]) g2 tbH rfl;simp[mm];refine bG ?_;unfold jQ;rw[aD];simp;rfl';rw[bV];simp;rw[aD];let fs:aO "standing" (.ref c2) h=.ok (.ref s) h:=dC g2 rfl;let hc:=dN (m:=mUn (aO "standing")<|mV 0) (js:=[b_,a_ 3]) (tg:=gN 0) (tst:=zI<|aT<|bO 2 kA<|aA (mV 1)<|aA (k_ (mV 0)<|q_ 0) aC) (elt:=mV 0) (δ:=[c_ c2,a_<|.tup [pv d.nm,ZN 0,.tup [.str "choose",pv (w0,2),.int n]],a_<|pv d.nm,a_<|ZN 0,a_<|.tup [.str "choose",pv (w0,2),.int n],b_]) (h:=h) (h1:=h) (n:=s) (ys:=R) (emb:=rwN)
   (λr=>if ZJ r.1=true then b_ else a_ (rwN r)) (by simp[fs]) g3 ⋯
   (λr hr=>⟨[a_ (rwN r),a_ (ZN 0)],by simp[cQ],λh' _=>by
    let i0:vIx (rwN r) (.int 0) h'=.ok (pv r.1) h':=by unfold rwN;simp
    let cv:kA [ZN 0,pv r.1] h'=.ok (.bl (ZJ r.1)) h':=G1 d.seen r.1 h';cases hb:ZJ r.1 <;> rw[hb]at cv <;> simp[i0,cv]⟩)
  let ef:∀R:B_ (Nm×Int),R.filterMap (λr=>if ZJ r.1=true then b_ else a_ (rwN r))=(R.filter λr=>!ZJ r.1).map rwN:=λR=>by
   induction R with
   |nil=>rfl
   |cons r R ih=>rw[V1,ih,V6];cases cvB d.seen r.1 <;> simp
  rw[ef]at hc;let lU:(R.filter λr=>!ZJ r.1).length<=R.length:=W5 _ _;let kk:(∀u h',Kb a0 h h'->FB h' a0 l lt lm lf ll [YY v,YU<|(R.filter λr=>!ZJ r.1)++[(d.nm,n)]]->Q u h'):=k;clear k;generalize R.filter (λr=>!ZJ r.1)=U at hc lU kk;let gU:(h++[MO.lst<|U.map rwN])[h.length]?=a_ (.lst<|U.map rwN):=aE;let xU:O_ (h++[MO.lst<|U.map rwN]):=F_ _;let hlen:h.length<(h++[MO.lst<|U.map rwN]).length:=by simp
  generalize h++[MO.lst<|U.map rwN]=hU at hc gU xU hlen;simp[hc];rfl';let gN:(hU++[MO.lst [rwN (d.nm,n)]])[hU.length]?=a_ (.lst [rwN (d.nm,n)]):=aE;let xN:Ext hU (hU++[MO.lst [rwN (d.nm,n)]]):=F_ _;let eN:hU++[MO.lst [.tup [pv d.nm,.int n]]]=hU++[MO.lst [rwN (d.nm,n)]]:=rfl;simp;rw[eN];let pl:=zV (xN _ _ gU) gN (by simp;omega);generalize hU.length=ln2 at pl gN hlen;generalize hU++[MO.lst [rwN (d.nm,n)]]=hV at pl gN xN;let eP:U.map rwN++[rwN (d.nm,n)]=(U++[(d.nm,n)]).map rwN:=by simp
  rw[eP]at pl;let lP:(U++[(d.nm,n)]).length<=100:=by simp;omega
  generalize U++[(d.nm,n)]=P at pl lP kk;let gP:(hV++[MO.lst<|P.map rwN])[hV.length]?=a_ (.lst<|P.map rwN):=aE;let xP:Ext hV (hV++[MO.lst<|P.map rwN]):=F_ _;simp[pl];let xx:=(xU.trans xN).trans xP;generalize hV.length=lq at gP;generalize hV++[MO.lst<|P.map rwN]=hW at gP xx;refine⟨_,cK (xx _ _ g2)<|by simp,?_⟩;rfl';simp;let fr:∀(i:Nat) o,hW[i]?=a_ o->(∀fs,o≠.ins "Choice" fs)->(hW.set c2<|.ins "Choice"<|gO "standing" (.ref lq) [("standing",.ref s)])[i]?=a_ o:=λi o e hn=>aJ e (λz=>by subst z;rw[xx _ _ g2]at e;show hn _ (Vq e).symm);refine kk _ _ ⟨λi o hi e=>aJ (xx _ _ e) ⋯,λi xs e=>fr _ _ (xx _ _ e) λfs z=>nomatch z⟩ ⟨fr _ _ (xx _ _ f.fo) λfs z=>?_,⟨fr _ _ (xx _ _ f.ta.ins) λfs z=>?_,uH f.ta.made λo ho=>aJ (xx _ _ ho) (λz=>by subst z;show fB f.ta.made g2),fr _ _ (xx _ _ f.ta.fail) λfs z=>nomatch z⟩,LV.mk2 u6 oj (RZ _<|aJ (xx _ _ fg) (λz=>by subst z;show fB tl g2)) lk e1 e2 (fr _ _ (xx _ _ g1) λfs z=>?_) (aS<|xx _ _ g2) (fr _ _ gP λfs z=>nomatch z) lP no,f.ne,f.lo⟩
  ·show absurd (MO.ins.inj z).1 (by decide +kernel)
  ·show absurd (MO.ins.inj z).1 (by decide +kernel)
  ·show absurd (MO.ins.inj z).1 (by decide +kernel)
def KS{α:Type}{key:α->Zq 0}{x:α}:∀{ys:B_ α},(∀y∈ys,bI (key y) (key x)=false)->wA key x ys=x::ys
 |[],_=>rfl
 |y::ys,h=>by unfold wA;rw[h y UV];rfl
set_option tactic.hygienic true in
def wZ(e:bD h n=a_ kvs):∃o,h[n]?=a_ o/\tU (a_ o)=true/\kO o=a_ (kvs.map λkv=>.tup [kv.1,kv.2]):=by
 unfold bD at e;split at e
 ·rename_i k hk;cases e;show⟨_,hk,rfl,rfl⟩
 ·rename_i hk;cases e;show⟨_,hk,rfl,rfl⟩
 ·cases e
def KU{α:Type}{key:α->Zq 0}{f:Fn}{emb:α->PV}{xs:B_ α}(e:jJ x h=a_ (xs.map emb))(h1:xs.length<64)(h3:tT (xs.map key)=true)(h4:(xs.map key).Nodup)(hf:∀d∈xs,∀h(Q:PV->PH->Prop),(∀h',O_ h'->Q (tP<|key d) h')->(f [emb d] h).W Q)(k:∀h',O_ h'->Q (.ref h'.length) (h'++[.lst<|(jW key xs).map emb])):(jK f false x h).W Q:=by
 unfold jK;rw[e];dsimp only;rw[if_pos<|l_ h1];show Do (key:=key) xs [] h hf (BS h1 h3 h4) λh' hx=>k h' hx
variable{elt:Me}{g:PH->Bool}{js:B_ (C_ Nat)}{mi:Mi}{tg:Mg}
def KW(P:Nat->PV->PH->Prop)(mo:∀i v h h',O_ h'->P i v h->P i v h')(ms:∀i v h o,P i v h->P i v (h.set h1.length o))(e:mi δ h=.ok ⟨xs,g⟩ h1)(hg:∀h,Ext h1 h->g h=true)(hz:xs.length<=16777216)(step:∀i x,xs[i]?=a_ x->∃δ1,tg x (cQ js δ)=a_ δ1/\∀h,Ext h1 h->h1.length<h.length->∀Q:PV->PH->Prop,(∀v h',O_ h'->P i v h'->Q v h')->(elt δ1 h).W Q)(k:∀l h'(vs:Y4 0),Ext h1 h'->h1.length<=l->vs.length=xs.length->h'[l]?=a_ (.lst vs)->(∀i v,vs[i]?=a_ v->P i v h')->Q (.ref l) h'):(aW js mi tg gM elt δ h).W Q:=by
 unfold aW;rw[e,Rs.bind_ok];refine uB (λi h'=>Ext h1 h'/\∃vs:Y4 0,vs.length=i/\h'[h1.length]?=a_ (.lst vs)/\∀i v,vs[i]?=a_ v->P i v h') xs 0 _ ⟨F_ _,[],rfl,by simp,λi v hv=>by simp at hv⟩ (λi x h' _ hx hi=>?_) (λh' hi=>?_)
 ·let⟨x1,vs,lv,g1,ov⟩:=hi;let hx:xs[i]?=a_ x:=by simpa using hx
  let si:=(SC.mp hx).1;let⟨δ1,ht,hs⟩:=step i x hx;refine⟨hg _ x1,δ1,ht,?_⟩;let hY:gM δ1 h'=.ok true h':=rfl;rw[hY,vO,YS 0];refine hs h' x1 (SC.mp g1).1 _ λv h2 x2 pv=>?_;refine⟨_,x2 _ _ g1,⋯,(x1.trans x2).setN<|U1 _,vs++[v],by simp[lv],aS<|x2 _ _ g1,λj w hw=>?_⟩;rcases Nat.lt_trichotomy j vs.length with z|z|z
  ·rw[VR z]at hw;show ms _ _ _ _<|mo _ _ _ _ x2<|ov j w hw
  ·rw[z,Wq<|U1 _,Nat.sub_self]at hw;cases hw
   rw[z,lv];show ms _ _ _ _ pv
  ·rw[Wq ⋯]at hw;have:=(SC.mp hw).1;simp at this;omega
 ·let⟨x1,vs,lv,g1,ov⟩:=hi;rw[Nat.zero_add]at lv;show⟨hg _ x1,k _ _ vs x1 (U1 _) lv g1 ov⟩
abbrev yE(t:Th):Zq 0:=[.inr t.nm.1,.inl t.nm.2]
def Q5(w0:Str)(v:Int)(R:B_ (Nm×Int)):jW yE [YY v,YU R]=[YY v,YU R]:=by
 change wA yE (YY v) (wA yE (YU R) [])=_
 rw[show wA yE (YU R) []=[YU R] from rfl]
 refine KS λy hy=>?_;rw[Va.mp hy];simp[yE,t1,t2,bI,keyLt]
def Q6(w0:Str)(v:Int)(R:B_ (Nm×Int)):([YY v,YU R].map yE).Nodup:=by simp[yE,t1,t2]
def KY{lt:Nat}(t:TA h lt lm lf ([YY v,YU R].map gZ))(Q:PV->PH->Prop)(k:∀l h',O_ h'->h'[l]?=a_ (.lst<|[YY v,YU R].map eJ)->Q (.ref l) h'):(jB [.ref lt] h).W Q:=by
 let sr:=Q5 w0 v R;let nd:=Q6 w0 v R;let ln:[YY v,YU R].length=2:=rfl;let un:tT ([YY v,YU R].map yE)=true:=rfl;generalize [YY v,YU R]=ts at*;refine bG ?_;unfold mW;let⟨o,ho,hd,hi⟩:=wZ t.made;let⟨_,_,u9,_⟩:=aZ t.made;let ak:kO o=a_ (ts.map λy=>.tup [pv y.nm,fC y]):=by rw[hi,VF];rfl
 let e0:nW bP dF (mUn (aO "made")<|mV 0) [c_ lt] h=.ok (.ref h.length) (h++[.vw 0 lm]):=by simp[t.fm,u9,wG ho hd]
 let dv:(h++[MO.vw 0 lm])[lm]?=a_ o:=F_ _ _ _ ho;let hc:=FQ (js:=[b_,b_]) (tg:=gTp 2<|gCn (gN 0)<|gCn (gN 1) gNl) (tst:=gM) (elt:=ZC (aU<|aA (mV 0) aC)<|mV 1) (δ:=[c_ lt]) (h:=h) (ys:=ts) (emb:=λy=>.tup [pv y.nm,fC y]) (λy=>a_<|eJ y) e0 (BX aE dv ak) (by rw[ho];show hd) dv ⋯
  (λy hy=>⟨[a_ (pv y.nm),a_ (fC y)],by simp[cQ],λh=>⟨rfl,by
   have:aR (.tup [pv y.nm]) (fC y) h=.ok (eJ y) h:=by unfold fC eJ;rw[zL<|by simp];rfl
   simp[this]⟩⟩)
 rw[filterMap_some]at hc;let x1:O_ (h++[MO.vw 0 lm]++[MO.lst<|ts.map eJ]):=(F_ _).trans<|F_ _;let g1:(h++[MO.vw 0 lm]++[MO.lst<|ts.map eJ])[(h++[MO.vw 0 lm]).length]?=a_ (.lst<|ts.map eJ):=aE;generalize (h++[MO.vw 0 lm]).length=l1 at hc g1;generalize h++[MO.vw 0 lm]++[MO.lst<|ts.map eJ]=h1 at hc g1 x1;simp[hc];refine KU (key:=yE) (wB g1) ⋯ un nd (λd hd h Q kk=>?_) λh' x'=>?_
 ·refine bG ?_;unfold mU;have:vIx (eJ d) (.int 0) h=.ok (tP<|yE d) h:=by unfold eJ;simp;rfl
  simp[this];show kk h<|Ext.refl _
 ·rw[sr];show k _ _ (x1.trans<|x'.trans<|F_ _) aE
def tcC:eC "Count" = a_ dW:=by simp[eC]
def tcH:eC "Choice" = a_ dG:=by simp[eC,nHC]
abbrev CtN(n:Nat)(h:PH)(v:PV):Ct->Prop
 |.n i=>v=.int i
 |.l R=>∃s,n<s/\v=.ref s/\h[s]?=a_ (.lst<|R.map rwN)/\R.length<=100
def KZ{lt:Nat}(f:R_ ts){t:Th}(ht:t∈ts)(hn:n<h.length)(Q:PV->PH->Prop)(k:∀u h',O_ h'->CtN n h' u t.ct->Q u h'):(bX [.ref l,pv t.nm] h).W Q:=by
 refine bG ?_;unfold cZ;let⟨kvs,tl,_,b,_⟩:=f.lv;let⟨c,_,e,uw⟩:=b t ht;let hs:fH (pv t.nm) (.ref ll) h=.ok (.bl true) h:=by have:fH (pv t.nm) (.ref ll) h=.ok (.bl (Y1<|pv t.nm).isSome) h:=oW tl rfl;rw[this,e];rfl
 let va:vAt (.ref ll) (pv t.nm) h=.ok (.ref c) h:=mZ tl rfl e;cases et:t.ct with
 |n i=>rw[et]at uw k;let g:h[c]?=a_ (.ins "Count" [("total",.int i)]):=uw;let mm:=aN "content" 0 eC aC [c_ l,a_<|pv t.nm] h (k_ (mUn (aO "leaves")<|mV 0)<|mV 1) dW (by simp[f.fl,va]) g tcC rfl;simp[f.fl,hs,mm];refine bG ?_;unfold gY;have:aO "total" (.ref c) h=.ok (.int i) h:=dC g rfl;simp[this];show k _ _ (Ext.refl _) rfl
 |l R=>rw[et]at uw k;let⟨s,g,gs,lR⟩:=uw;let mm:=aN "content" 0 eC aC [c_ l,a_<|pv t.nm] h (k_ (mUn (aO "leaves")<|mV 0)<|mV 1) dG (by simp[f.fl,va]) g tcH rfl;simp[f.fl,hs,mm];refine bG ?_;unfold fO;have:aO "standing" (.ref c) h=.ok (.ref s) h:=dC g rfl;simp[this,nU gs];show k _ _ (F_ _) ⟨h.length,hn,rfl,aE,lR⟩
abbrev RwH(n:Nat)(ts:B_ Th)(i:Nat)(v:PV)(h:PH):Prop:=∃t u,ts[i]?=a_ t/\v=nA (t,u)/\CtN n h u t.ct
def CtN.ext{v:PV}{t:Ct}(f:CtN n h v t)(kl:∀(i:Nat) xs,n<i->h[i]?=a_ (.lst xs)->h'[i]?=a_ (.lst xs)):CtN n h' v t:=by
 cases t with
 |n v=>exact f
 |l R=>let⟨s,b,a,c,l⟩:=f;show⟨s,b,a,kl _ _ b c,l⟩
def IK{lt:Nat}(t:TA h lt lm lf T):gI [.ref lt] h=.ok (.ref h.length) (h++[.lst []]):=by
 let w:(gI [.ref lt] h).W λq h'=>q=.ref h.length/\h'=h++[.lst []]:=by refine bG ?_;unfold mX;simp[t.ff,nU t.fail]
 let⟨q,h',e,rfl,rfl⟩:=fX w;show e
def IL{lt:Nat}(f:R_ [YY v,YU R])(Q:PV->PH->Prop)(k:∀l1 l2 s h',O_ h'->h'[l1]?=a_ (.lst [nA (YY v,.int v),nA (YU R,.ref s)])->h'[s]?=a_ (.lst<|R.map rwN)->R.length<=100->h'[l2]?=a_ (.lst [])->Q (.tup [.ref l1,.ref l2]) h'):(eY [.ref l] h).W Q:=by
 refine bG ?_;unfold iT;let mr:=aN "rows" 0 uF aC [c_ l] h (mUn (aO "tree") (mV 0)) jB (by simp[f.ft]) f.ta.ins (by simp[uF]) rfl;let⟨_,h1,e1,l1,rfl,x1,g1⟩:=fX (KY f.ta (λu h'=>∃l,u=.ref l/\O_ h'/\h'[l]?=a_ (.lst ([YY v,YU R].map eJ))) λl h' x g=>⟨l,rfl,x,g⟩);let f1:=f.ext x1;let es:aY (bF "rows" 0 uF (mUn (aO "tree") (mV 0)) aC) [c_ l] h=.ok ⟨[YY v,YU R].map eJ,tS l1 ([YY v,YU R].map eJ)⟩ h1:=vS (by simp[mr,e1]) g1;let⟨_,h2,e2,lb,vs,rfl,x2,lv,g2,u5⟩:=fX (KW (js:=[b_,a_ 0]) (tg:=gN 0) (elt:=ZC (mV 0) (aU (aA (bF "content_of" 1 fS (mV 1) (aA (k_ (mV 0) (q_ 0)) aC)) aC))) (P:=RwH h1.length [YY v,YU R]) (λi u ha hb x ⟨t,w,a,b,c⟩=>⟨t,w,a,b,c.ext λi xs _ e=>x _ _ e⟩) (λi u ha o ⟨t,w,a,b,c⟩=>⟨t,w,a,b,c.ext λi xs hi e=>aJ e ⋯⟩) (Q:=λu h'=>∃l vs,u=.ref l/\Ext h1 h'/\vs.length=2/\h'[l]?=a_ (.lst vs)/\∀i w,vs[i]?=a_ w->RwH h1.length [YY v,YU R] i w h') es (vT g1) (by simp)
  (λi x hx=>by
   rw[Vf]at hx;let⟨y,hy,rfl⟩:=Vn.mp hx;refine⟨[a_<|eJ y,c_ l],by simp[cQ],λh3 x3 ye Q k=>?_⟩;let f3:=f1.ext x3;let i0:vIx (eJ y) (.int 0) h3=.ok (pv y.nm) h3:=by unfold eJ;simp
   let mc:=aN "content_of" 1 fS (aA (k_ (mV 0)<|q_ 0) aC) [a_<|eJ y,c_ l] h3 (mV 1) bX (by simp) f3.fo (by simp[fS]) rfl;simp[mc,i0];refine KZ f3 (VE hy) ye _ λc h4 x4 nc=>?_;let vp:aR (eJ y) (.tup [c]) h4=.ok (nA (y,c)) h4:=by unfold eJ nA;rw[zL<|by simp];rfl
   simp[vp];show k _ _ x4 ⟨y,c,hy,rfl,nc⟩)
  λl h' vs x _ lv g p=>⟨l,vs,rfl,x,lv,g,p⟩)
 match vs,lv,g2,u5 with
 |[a,b],_,g2,u5=>
  let⟨ta,ua,ea,rfl,ca⟩:=u5 0 a rfl;let⟨tb,ub,eb,rfl,cb⟩:=u5 1 b rfl;cases ea
  cases eb
  obtain rfl:ua=.int v:=ca;let⟨s,_,rfl,gs,lR⟩:=cb;let f2:=f1.ext x2;let ml:=aN "lost" 0 AN aC [c_ l] h2 (mUn (aO "tree")<|mV 0) gI (by simp[f2.ft]) f2.ta.ins (by simp[AN]) rfl;simp[e2,ml,IK f2.ta];show k _ _ _ _ ((x1.trans x2).trans<|F_ _) (F_ _ _ _ g2) (F_ _ _ _ gs) lR aE
abbrev ts6(w0:Str)(f:Dd->A6)(R:B_ Dd):Nat->B_ Th
 |0=>[]
 |1=>[YY 0]
 |q+2=>[YY (bQ f<|R.take q).1,YU (bQ f<|R.take q).2]
def tbF:lK "Folding" = a_ cA:=by
 let n1:¬ (Vh "Folding")=Vh "Count" := by decide +kernel
 let n2:¬ (Vh "Folding")=Vh "Choice" := by decide +kernel
 let n3:¬ (Vh "Folding")=Vh "Tree" := by decide +kernel
 simp[lK,n1,n2,n3]
def L0{R:B_ Dd}(r:R6 w0 R)(ln:R.length<=50)(hf:∀d∈R,D6 w0 d<|f d)(br:eZ (mk1 w0::Z3 0::R)){ld:Nat}(gr:h[lr]?=a_ (.lst []))(gx:h[lx]?=a_ (.lst []))(gd:h[ld]?=a_ (.lst<|(mk1 w0::Z3 0::R).map dP))(Q:PV->PH->Prop)(k:∀l1 l2 s h',O_ h'->h'[l1]?=a_ (.lst [nA (YY (bQ f R).1,.int (bQ f R).1),nA (YU (bQ f R).2,.ref s)])->h'[s]?=a_ (.lst<|(bQ f R).2.map rwN)->(bQ f R).2.length<=100->h'[l2]?=a_ (.lst [])->Q (.tup [.ref l1,.ref l2]) h'):(Dz [.tup [.ref lr,.ref lx],.ref ld] h).W Q:=by
 let nd:=r.all_nd;refine bG ?_;unfold Dy;rw[aD,Pn];refine wY (ps:=[.tup [.ref lr,.ref lx]]) (h1:=h) (by simp) rfl ?_;let g0:(h++[MO.ins "Folding" []])[h.length]?=a_ (.ins "Folding" []):=aE;refine Cc (zs:=[]) List.nodup_nil (by simp) (F_ _) g0 (F_ _ _ _ gr) (F_ _ _ _ gx) (λz hz=>nomatch hz) λlt lm lf ll h1 x1 f1=>⟨rfl,?_⟩;rfl';rw[aD];let⟨_,h2,e2,os,lo,rfl,x2,g2,RY,mem,T5⟩:=fX (tH (mk1 w0::Z3 0::R) r.all_wf (by simp;omega) (nR nd) ld h1 (x1 _ _ gd) (λu h'=>∃os l,u=.ref l/\Ext h1 h'/\h'[l]?=a_ (.lst<|os.map dP)/\(os.map (·.nm)).Nodup/\(∀d,d∈os↔d∈mk1 w0::Z3 0::R)/\eZ os) λos l h' x g a b c=>⟨os,l,rfl,x,g,a,b,c⟩);let eo:os=mk1 w0::Z3 0::R:=wV T5 br RY nd (λd hd e he=>nR RY d hd e he) mem;subst eo;refine oR (n:=lo) (xs:=(mk1 w0::Z3 0::R).map dP) (h1:=h2) (λq δ h'=>O_ h'/\Zm (ts6 w0 f R q)/\h'[lo]?=a_ (.lst<|(mk1 w0::Z3 0::R).map dP)/\∃x3,δ=[a_<|.tup [.ref lr,.ref lx],c_ ld,Zu 0,x3]) (by simp[e2]) g2 ⟨x1.trans x2,f1.ext x2,g2,_,rfl⟩ (λq δ h' _ i=>i.2.2.1) ?_ ?_
 ·rintro q y δ h' hy ⟨x,fq,gl,x3,rfl⟩;rw[Vf]at hy;let⟨d,hd,rfl⟩:=Vn.mp hy;refine⟨_,rfl,?_⟩;let mh:=aN "hear" 1 lK (aA (mV 3) aC) [a_<|.tup [.ref lr,.ref lx],c_ ld,Zu 0,a_<|dP d] h' (mV 2) cA (by simp) fq.fo tbF rfl;unfold wR;simp[mh];let fin:∀h3,Kb h.length h' h3->FB h3 h.length h.length lt lm lf ll (ts6 w0 f R<|q+1)->O_ h3/\FB h3 h.length h.length lt lm lf ll (ts6 w0 f R<|q+1)/\h3[lo]?=a_ (.lst<|(mk1 w0::Z3 0::R).map dP):=λh3 kb f3=>⟨λi o e=>kb.1 i o (SC.mp e).1<|x i o e,f3,kb.2 _ _ gl⟩
  match q,hd,fq,fin with
  |0,hd,fq,fin=>
   cases hd
   show EC (d:=mk1 w0) (t:=YY 0) fq (by simp[ts6]) rfl rfl rfl (λu hu=>nomatch hu) _ λ_ h3 kb f3=>fin h3 kb f3
  |1,hd,fq,fin=>
   cases hd
   show EC (d:=Z3 0) (t:=YU []) fq (by simp[ts6]) rfl rfl rfl (λu hu=>by rw[Va.mp hu];show n12 w0) _ λ_ h3 kb f3=>fin h3 kb f3
  |q+2,hd,fq,fin=>
   let hd:R[q]?=a_ d:=hd;let hm:=VE hd;let e1:R.take (q+1)=R.take q++[d]:=by rw[WS,hd];rfl
   let lq:=wX f<|R.take q;let lt':(R.take q).length<=50:=by rw[VT];omega
   refine IJ fq ⋯ (r.ok d hm) (hf d hm) _ λ_ h3 kb f3=>?_;let e3:bQ f (R.take<|q+1)=nx6 d (bQ f<|R.take q) (f d):=by rw[e1,sF];unfold st6 nx6;cases f d <;> rfl
   refine fin h3 kb ?_
   change FB h3 h.length h.length lt lm lf ll [YY (bQ f<|R.take<|q+1).1,YU (bQ f<|R.take<|q+1).2]
   rw[e3];show f3
 ·rintro δ h' ⟨x,fq,gl,x3,rfl⟩;let fq:Zm [YY (bQ f R).1,YU (bQ f R).2]:=by
   let e:(((mk1 w0::Z3 0::R).map dP).length)=R.length+2:=by simp
   rw[e]at fq;have:=fq
   change Zm [YY (bQ f R).1,YU (bQ f R).2]
   let e2:R.take R.length=R:=Xo;have:Zm [YY (bQ f<|R.take R.length).1,YU (bQ f<|R.take R.length).2]:=this;rw[e2]at this;show this
  rfl';let mb:=aN "base" 0 AO aC [a_<|.tup [.ref lr,.ref lx],c_ ld,Zu 0,x3] h' (mV 2) eY (by simp) fq.fo (by simp[AO]) rfl;simp[mb];show IL fq _ λl1 l2 s h3 x3 g3 gs lR g4=>k l1 l2 s h3 (x.trans x3) g3 gs lR g4
abbrev fD(t:Th):PV:=.tup [.str t.sp,pv t.nm]
variable{E:FE}{body:Ms}
unseal Fl.W Rs.W in
def L1{t:Ev->PH->ZI 0}(I:Nat->Ev->PH->Prop)(step:∀m δ h,I m δ h->(t δ h).W λb h1=>if b=true then(body δ h1).W { nx:=λδ h=>∃m',m'<m/\I m' δ h,ct:=λδ h=>∃m',m'<m/\I m' δ h,rt:=E.rt,bk:=E.nx} else E.nx δ h1):
  ∀(n m:Nat),m<n->∀δ h,I m δ h->(vN n t body δ h).W E:=by
 intro n
 induction n with
 |zero=>intro m hm;show absurd hm<|Nat.not_lt_zero _
 |succ n ih=>
  intro m hm δ h hi;let hs:=step m δ h hi;unfold vN zK;rw[Dc];refine De hs λb h1 hb=>?_;cases b with
  |false=>simpa using hb
  |true=>
   rw[YS 0]at hb;dsimp only;cases e:body δ h1 with
   |nx δ2 h2=>rw[e]at hb;let⟨m',h3,h4⟩:=hb;show ih m' ⋯ δ2 h2 h4
   |ct δ2 h2=>rw[e]at hb;let⟨m',h3,h4⟩:=hb;show ih m' ⋯ δ2 h2 h4
   |bk δ2 h2=>rw[e]at hb;show hb
   |rt p h2=>rw[e]at hb;show hb
   |exc p h2=>rw[e]at hb;show hb
   |bad=>rw[e]at hb;show hb
def uI(e:h[n]?=a_ (.lst xs)):tru (.ref n) h=.ok (!xs.isEmpty) h:=by
 have:aM h n=a_ xs:=by simp[aM,e]
 unfold tru;simp only[this]
def L3{p:PV}(e:h[n]?=a_ (.lst<|xs++[p])):onL D8 (.ref n) [] h=.ok p (ZL<|.lst xs):=by simp[onL,bT,e,D8]
def NH(I:Nat->Ev->PH->Prop)(e:ms δ h=.ok [.ref n] h1)(hn:h1[n]?=a_ (.lst xs))(h0:I 0 δ h1)(keep:∀q δ h,q<=xs.length->I q δ h->h[n]?=a_ (.lst xs))(step:∀(q:Nat) x δ h,xs.reverse[q]?=a_ x->I q δ h->∃δ1,tg x δ=a_ δ1/\(body δ1 h).W { nx:=I<|q+1,ct:=I<|q+1,rt:=E.rt,bk:=E.nx})(fin:∀δ h,I xs.length δ h->E.nx δ h):(fF (I0 ms) tg body δ h).W E:=by
 let hk:∀{h:PH},h[n]?=a_ (.lst xs)->tS n xs h=true:=λ{h} e=>by
  let e3:aM h n=a_ xs:=by unfold aM;rw[e]
  unfold tS;rw[e3];show PV.beqs_self xs
 unfold fF I0;rw[e];let e2:rvI [.ref n] h1=.ok ⟨xs.reverse,tS n xs⟩ h1:=by
  let e3:aM h1 n=a_ xs:=by unfold aM;rw[hn]
  unfold rvI;simp only[e3]
 rw[Rs.bind_ok,e2,Rs.fl_ok];refine rN I _ 0 δ h1 h0 (λq x δ h _ hx hi=>?_)<|λδ h hi=>?_
 ·let df:xs.reverse[q]?=a_ x:=by simpa using hx
  have:=(SC.mp df).1;rw[X8]at this;show⟨hk<|keep q δ h ⋯ hi,step q x δ h df hi⟩
 ·let ak:I xs.length δ h:=by simpa using hi
  show⟨hk<|keep _ δ h (U1 _) ak,fin δ h ak⟩
variable{ns:Z8 0}
def xG(e:h[n]?=a_ (.lst<|Zv 0))(hl:ns.length<64):gG (.ref n) h=.ok (.ref h.length) (h++[.lst<|(sortI<|ddI ns).map PV.int]):=by
 let e1:aM h n=a_ (Zv 0):=by simp[aM,e]
 simp only[gG,e1,zM];rw[if_pos hl]
def Rv(w0:Str)(v:Int)(R:B_ (Nm×Int)):twS ([YY v,YU R].map fD)=a_ ([YU R,YY v].map fD):=by
 let h:ltF (fD<|YU R) (fD<|YY v)=true:=by
  change decide (("one" : Str).cps.toList<("sum" : Str).cps.toList)=true
  decide +kernel
 let ne:twF (fD<|YY v)≠twF (fD<|YU R):=by
  change("sum" : Str)≠"one"
  decide +kernel
 let c:((fk (fD<|YY v)=1/\fk (fD<|YU R)=1)/\(fD<|YY v).ky 20=true/\(fD<|YU R).ky 20=true)/\twF (fD<|YY v)≠twF (fD<|YU R):=⟨⟨⟨rfl,rfl⟩,rfl,rfl⟩,ne⟩;show(if_pos (e:=b_) c).trans (congrArg a_<|if_pos h)
abbrev nmP(t:Th):PV:=pv t.nm
abbrev wiS(w0:Str)(v:Int)(R:B_ (Nm×Int))(p:Nm):B_ Th:=if p=root then[YU R,YY v] else[]
def A3{lt:Nat}(f:R_ [YY v,YU R]){p:Nm}(hp:p=root\/p=(w0,1)\/p=(w0,2))(Q:PV->PH->Prop)(k:∀l h',O_ h'->h'[l]?=a_ (.lst<|(ZY p).map nmP)->h.length<=l->Q (.ref l) h'):(dQ [.ref lt,pv p] h).W Q:=by
 refine bG ?_;unfold jM;rw[aD];let ek:∃z:Str,∀{hA},O_ hA->aI [.ref lt,pv p] hA=.ok (.str z) hA/\vEq (.str z) (.str "row") hA=.ok (.bl false) hA:=by
  rcases hp with rfl|rfl|rfl
  ·show⟨_,λx=>⟨sG _ _,rfl⟩⟩
  ·show⟨_,λx=>⟨sH (f.ta.ext x) (nr1 w0)<|ED w0 v R,rfl⟩⟩
  ·show⟨_,λx=>⟨sH (f.ta.ext x) (nr2 w0)<|EE w0 v R,rfl⟩⟩
 let sW:twS ((if p=root then[YY v,YU R] else[]).map fD)=a_ ((ZY p).map fD):=by
  unfold wiS;split
  ·show Rv w0 v R
  ·rfl
 let lW:(if p=root then[YY v,YU R] else[]).length<=2:=by split <;> simp
 let dt:=f.ta.made;let hlen:[YY v,YU R].length=2:=rfl;generalize [YY v,YU R]=ts at sW lW dt hlen;let⟨o,ho,hd,hi⟩:=wZ dt;let⟨_,_,u9,_⟩:=aZ dt;let ak:kO o=a_ (ts.map λy=>.tup [pv y.nm,fC y]):=by rw[hi,VF];rfl
 let e0:nW bP dF (mUn (aO "made")<|mV 0) [c_ lt,a_<|pv p,b_] h=.ok (.ref h.length) (h++[.vw 0 lm]):=by simp[f.ta.fm,u9,wG ho hd]
 let dv:(h++[MO.vw 0 lm])[lm]?=a_ o:=F_ _ _ _ ho;let hc:=AE (i:=2) (js:=[b_,b_,a_ 1]) (tg:=gTp 2<|gCn (gN 0)<|gCn (gN 1) gNl) (tst:=aT<|Zl (k_ (mV 1)<|q_ 1)<|mV 2) (elt:=aU<|aA (k_ (mV 1)<|q_ 2)<|aA (mV 0) aC) (δ:=[c_ lt,a_<|pv p,b_]) (h:=h) (ys:=ts) (emb:=λy=>.tup [pv y.nm,fC y]) (λy=>if root=p then a_ (fD y) else b_) e0 (BX aE dv ak) (by rw[ho];show hd) dv ⋯
  (λy hy=>⟨[a_ (pv y.nm),a_ (fC y),a_ (pv p)],by simp[cQ],λh=>by
   let r1:vIx (fC y) (.int 1) h=.ok (Y9 0) h:=by unfold fC;simp
   let r2:vIx (fC y) (.int 2) h=.ok (.str y.sp) h:=by unfold fC;simp
   by_cases e:root=p
   ·simp[r1,r2,EB,e,fD]
   ·simp[r1,EB,e]⟩)
 let ew:ts.filterMap (λy=>if root=p then a_ (fD y) else b_)=(if p=root then ts else[]).map fD:=by
  by_cases e:p=root
  ·subst e;simp
  ·let e2:¬ root=p:=λz=>e z.symm;simp[e,e2]
 rw[ew]at hc;generalize (if p=root then ts else[])=wi at sW lW hc;let x1:O_ (h++[MO.vw 0 lm]++[MO.lst<|wi.map fD]):=(F_ _).trans<|F_ _;let g1:(h++[MO.vw 0 lm]++[MO.lst<|wi.map fD])[(h++[MO.vw 0 lm]).length]?=a_ (.lst<|wi.map fD):=aE;generalize (h++[MO.vw 0 lm]).length=l1 at hc g1;generalize h++[MO.vw 0 lm]++[MO.lst<|wi.map fD]=hA at hc g1 x1;let gi:(oY true (nW bP dF<|mUn (aO "made")<|mV 0) (aP 2<|aW [b_,b_,a_ 1] (mO true<|nW bP dF<|mUn (aO "made")<|mV 0) (gTp 2<|gCn (gN 0)<|gCn (gN 1) gNl) (aT<|Zl (k_ (mV 1)<|q_ 1)<|mV 2)<|aU<|aA (k_ (mV 1)<|q_ 2)<|aA (mV 0) aC) ([PV.ref lt,pv p].map a_++Xz (3 - [PV.ref lt,pv p].length) b_) h)=.nx [c_ lt,a_<|pv p,c_ l1] hA:=hc;rw[gi,Rb];clear gi hc;rfl';let m1:=aN "kind_of" 1 aQ (aA (mV 1) aC) [c_ lt,a_<|pv p,c_ l1] hA (mV 0) aI (by simp) (x1 _ _ f.ta.ins) (by simp[aQ]) rfl;let⟨z,ez⟩:=ek;let⟨ez,eq⟩:=ez x1;rw[aD,bV];simp[m1,ez,eq];rfl';let es:=FG g1 sW;let gs:(hA++[MO.lst<|(ZY p).map fD])[hA.length]?=a_ (.lst<|(ZY p).map fD):=aE;let xs:Ext hA (hA++[MO.lst<|(ZY p).map fD]):=F_ _;let lS:(ZY p).length<=2:=by unfold wiS;split <;> simp
 generalize hA.length=ls at es gs;generalize hA++[MO.lst<|(ZY p).map fD]=hC at es gs xs;let hc:=dN (m:=mCB oT<|aA (mV 2) aC) (js:=[b_,b_]) (tg:=gTp 2<|gCn (gN 0)<|gCn (gN 1) gNl) (tst:=gM) (elt:=mV 1) (δ:=[c_ lt,a_<|pv p,c_ l1]) (h:=hA) (h1:=hC) (n:=ls) (ys:=ZY p) (emb:=fD)
  (λx=>a_<|nmP x) (by simp[es]) gs ⋯ (λx hx=>⟨[a_<|.str x.sp,a_<|pv x.nm],by simp[cQ,fD],λh _=>⟨rfl,by simp[nmP]⟩⟩)
 rw[filterMap_some]at hc;let TU:=(x1.trans xs).len;rw[Hn,hc,vO];show k _ _ (x1.trans<|xs.trans<|F_ _) aE TU
variable{x3:C_ PV}
def xH{lt:Nat}(f:R_ [YY v,YU R]){p:Nm}(hp:p=root\/p=(w0,1)\/p=(w0,2))(x:O_ h'){F L:Y4 0}(gF:h'[h.length]?=a_ (.lst F))(gL:h'[h.length+1]?=a_ (.lst<|L++[pv p]))(hF:F.length<=100)(hL:L.length<=100)(k:∀h2,O_ h2->h2[h.length]?=a_ (.lst<|F++[pv p])->h2[h.length+1]?=a_ (.lst<|L++(ZY p).map nmP)->E.nx [c_ l,Zu 0,c_<|h.length+1,a_<|pv p] h2):(bY [c_ l,Zu 0,c_<|h.length+1,x3] h').W E:=by
 unfold bY;rw[aD];let pp:=L3 gL;simp[iE gL,pp];let x1:O_ (h'.set (h.length+1)<|.lst L):=x.setN ⋯;let g1:=aS (o':=MO.lst L) gL;let uf:(h'.set (h.length+1)<|.lst L)[h.length]?=a_ (.lst F):=aJ gF ⋯;generalize h'.set (h.length+1) (.lst L)=h1 at x1 g1 uf;rfl';rw[aD];let ap:=dX (p:=pv p) uf ⋯;simp[iE uf,ap];let x2:O_ (h1.set h.length<|.lst<|F++[pv p]):=x1.setN ⋯;let g2:(h1.set h.length<|.lst<|F++[pv p])[h.length+1]?=a_ (.lst L):=aJ g1 ⋯;let Sy:=aS (o':=MO.lst<|F++[pv p]) uf;generalize h1.set h.length (.lst<|F++[pv p])=h2 at x2 g2 Sy;let f2:=f.ext x2;rfl';let mw:=aN "within" 1 eE (aA (mV 3) aC) [c_ l,Zu 0,c_<|h.length+1,a_<|pv p] h2 (mUn (aO "tree")<|mV 0) dQ (by simp[f2.ft]) f2.ta.ins (by simp[eE]) rfl;simp[iE g2,mw];refine A3 f2 hp _ λlw h3 x3 g3 b3=>?_;let lw5:(ZY p).length<=2:=by unfold wiS;split <;> simp
 let ex:=FX (x3 _ _ g2) g3 (by rw[U2];omega);simp[ex];show k _ ((x2.trans x3).setN ⋯) (aJ (x3 _ _ Sy) ⋯)<|aS<|x3 _ _ g2
abbrev HS(w0:Str):Nat->Y4 0×Y4 0
 |3=>([],[]++[Y9 0])
 |2=>([Y9 0],[pv (w0,2)]++[pv (w0,1)])
 |1=>([Y9 0,pv (w0,1)],[]++[pv (w0,2)])
 |_=>([Y9 0,pv (w0,1),pv (w0,2)],[])
abbrev HI(w0:Str)(l:Nat)(h:PH)(m:Nat)(δ:Ev)(h':PH):Prop:=m<=3/\O_ h'/\h'[h.length]?=a_ (.lst (HS w0 m).1)/\h'[h.length+1]?=a_ (.lst (HS w0 m).2)/\∃x3,δ=[c_ l,Zu 0,c_<|h.length+1,x3]
def DF{lt:Nat}(f:R_ [YY v,YU R])(Q:PV->PH->Prop)(k:∀l h',O_ h'->h'[l]?=a_ (.lst [Y9 0,pv (w0,1),pv (w0,2)])->h.length<=l->Q (.ref l) h'):(cP [.ref l] h).W Q:=by
 refine bG ?_;unfold eR;rw[aD];simp;let x0:O_ (h++[MO.lst []]):=F_ _;let g0:(h++[MO.lst []])[h.length]?=a_ (.lst []):=aE;let l0:(h++[MO.lst []]).length=h.length+1:=by simp
 generalize h++[MO.lst []]=hA at x0 g0 l0;rfl';rw[aD];simp;let x1:Ext hA (hA++[MO.lst [Y9 0]]):=F_ _;let g1:(hA++[MO.lst [Y9 0]])[hA.length]?=a_ (.lst<|[]++[Y9 0]):=aE;let e1:hA++[MO.lst [.tup [.str "",.int 0]]]=hA++[MO.lst [Y9 0]]:=rfl;rw[e1];rw[l0]at g1⊢;let gA:=x1 _ _ g0;let xA:=x0.trans x1;generalize hA++[MO.lst [Y9 0]]=hB at xA g1 gA;rfl';rw[aD];refine L1 (HI w0 l h) ?_ 1000000 3 ⋯ _ _ ⟨U1 _,xA,gA,g1,_,rfl⟩;let w1:ZY root=[YU R,YY v]:=YS 0;let w2:ZY (w0,1)=[]:=if_neg<|nr1 w0;let w3:ZY (w0,2)=[]:=if_neg<|nr2 w0;rintro m δ h' ⟨hm,x,gF,gL,x3,rfl⟩
 match m,hm,gF,gL with
 |3,_,gF,gL=>have gL:h'[h.length+1]?=a_ (.lst<|[]++[Y9 0]):=gL;simp[uI gL];show xH f (.inl rfl) x gF gL (by simp[HS]) (by simp) λh2 x2 a1 a2=>⟨2,⋯,⋯,x2,a1,by rw[w1]at a2;show a2,_,rfl⟩
 |2,_,gF,gL=>have gL:h'[h.length+1]?=a_ (.lst<|[pv (w0,2)]++[pv (w0,1)]):=gL;simp[uI gL];show xH f (.inr<|.inl rfl) x gF gL (by simp[HS]) (by simp) λh2 x2 a1 a2=>⟨1,⋯,⋯,x2,a1,by rw[w2]at a2;show a2,_,rfl⟩
 |1,_,gF,gL=>have gL:h'[h.length+1]?=a_ (.lst<|[]++[pv (w0,2)]):=gL;simp[uI gL];show xH f (.inr<|.inr rfl) x gF gL (by simp[HS]) (by simp) λh2 x2 a1 a2=>⟨⋯,x2,a1,by rw[w3]at a2;show a2,_,rfl⟩
 |0,_,gF,gL=>have gL:h'[h.length+1]?=a_ (.lst []):=gL;simp[uI gL];rfl';simp;show k _ _ x gF<|U1 _
abbrev T1v(v:Int):PV:=.tup [.str "count",.int v]
abbrev T2v(s:Nat):PV:=.tup [.str "choice",.ref s]
abbrev nm6(R:B_ (Nm×Int)):Y4 0:=(sortI (ddI (R.map (·.2)))).map PV.int
abbrev rw6(w0:Str)(v:Int)(s:Nat):Y4 0:=[.tup [.str "one",pv (w0,2),T2v s],.tup [.str "sum",pv (w0,1),T1v v]]
def ttC:kX "Count" = a_ cG:=by simp[kX]
def ttH:kX "Choice" = a_ dO:=by simp[kX,nHC]
def Q7{lt:Nat}(f:R_ [YY v,YU R])(n:Nat):bE [.ref l,pv (w0,1),.ref n] h=.ok (T1v v) h:=by
 let w:(bE [.ref l,pv (w0,1),.ref n] h).W λq h'=>q=T1v v/\h'=h:=by
  refine bG ?_;unfold bW;let mk:=aN "kind_of" 1 aQ (aA (mV 1) aC) [c_ l,a_<|pv (w0,1),c_ n,b_] h (mUn (aO "tree")<|mV 0) aI (by simp[f.ft]) f.ta.ins (by simp[aQ]) rfl;let kt:aI [.ref lt,pv (w0,1)] h=.ok (.str "count") h:=sH f.ta (nr1 w0)<|ED w0 v R;rw[aD];simp[mk,kt];rfl';let⟨kvs,c1,c2,s,_,_,tl,lk,e1,e2,g1,g2,g3,g4,no⟩:=f.lv.two;let hs:fH (pv (w0,1)) (.ref ll) h=.ok (.bl true) h:=by have:fH (pv (w0,1)) (.ref ll) h=.ok (.bl (Y1<|pv (w0,1)).isSome) h:=oW tl rfl;rw[this,e1];rfl
  let va:vAt (.ref ll) (pv (w0,1)) h=.ok (.ref c1) h:=mZ tl rfl e1;let mf:=aN "told" 0 kX aC [c_ l,a_<|pv (w0,1),c_ n,a_<|.str "count"] h (k_ (mUn (aO "leaves")<|mV 0)<|mV 1) cG (by simp[f.fl,va]) g1 ttC rfl;let mc:cG [.ref c1] h=.ok (.int v) h:=by
   let w:(cG [.ref c1] h).W λq h'=>q=.int v/\h'=h:=by refine bG ?_;unfold kU;have:aO "total" (.ref c1) h=.ok (.int v) h:=dC g1 rfl;simp[this]
   let⟨q,h',e,rfl,rfl⟩:=fX w;show e
  rw[aD,bV];simp[f.fl,hs,mf,mc,T1v]
 let⟨q,h',e,rfl,rfl⟩:=fX w;show e
def Q8{lt:Nat}(f:R_ [YY v,YU R])(lR:R.length<64)(n:Nat)(Q:PV->PH->Prop)(k:∀s h',O_ h'->h'[s]?=a_ (.lst<|nm6 R)->Q (T2v s) h'):(bE [.ref l,pv (w0,2),.ref n] h).W Q:=by
 refine bG ?_;unfold bW;let mk:=aN "kind_of" 1 aQ (aA (mV 1) aC) [c_ l,a_<|pv (w0,2),c_ n,b_] h (mUn (aO "tree")<|mV 0) aI (by simp[f.ft]) f.ta.ins (by simp[aQ]) rfl;let kt:aI [.ref lt,pv (w0,2)] h=.ok (.str "choice") h:=sH f.ta (nr2 w0)<|EE w0 v R;rw[aD];simp[mk,kt];rfl';let⟨kvs,c1,c2,s,_,_,tl,lk,e1,e2,g1,g2,g3,g4,no⟩:=f.lv.two;let hs:fH (pv (w0,2)) (.ref ll) h=.ok (.bl true) h:=by have:fH (pv (w0,2)) (.ref ll) h=.ok (.bl (Y1<|pv (w0,2)).isSome) h:=oW tl rfl;rw[this,e2];rfl
 let va:vAt (.ref ll) (pv (w0,2)) h=.ok (.ref c2) h:=mZ tl rfl e2;let mf:=aN "told" 0 kX aC [c_ l,a_<|pv (w0,2),c_ n,a_<|.str "choice"] h (k_ (mUn (aO "leaves")<|mV 0)<|mV 1) dO (by simp[f.fl,va]) g2 ttH rfl;rw[aD,bV];simp[f.fl,hs,mf];refine bG ?_;unfold jL;let hf:aO "standing" (.ref c2) h=.ok (.ref s) h:=dC g2 rfl;simp[hf];refine bG ?_;unfold kW;let hc:=dN (m:=mV 0) (js:=[b_,b_]) (tg:=gTp 2<|gCn (gN 0)<|gCn (gN 1) gNl) (tst:=gM) (elt:=mV 1) (δ:=[c_ s]) (h:=h) (h1:=h) (n:=s) (ys:=R) (emb:=rwN)
  (λr=>d_ r.2) (by simp) g3 ⋯ (λr hr=>⟨[a_<|pv r.1,d_ r.2],by simp[cQ,rwN],λh _=>⟨rfl,by simp⟩⟩)
 let ef:R.filterMap (λr=>a_<|PV.int r.2)=(R.map (·.2)).map PV.int:=by rw[filterMap_some,VF];rfl
 rw[ef]at hc;let q1:(h++[MO.lst ((R.map (·.2)).map PV.int)])[h.length]?=a_ (.lst ((R.map (·.2)).map PV.int)):=aE;let x1:O_ (h++[MO.lst ((R.map (·.2)).map PV.int)]):=F_ _;generalize h++[MO.lst ((R.map (·.2)).map PV.int)]=hA at hc q1 x1;let hs:=xG q1<|l_ lR;simp[hc,hs];show k _ _ (x1.trans<|F_ _) aE
def IM{lt:Nat}(t:TA h lt lm lf T){p:Nm}(e:aF T (pv p)=a_ (fC r)):cW [.ref lt,pv p] h=.ok (.tup [Y9 0,.str r.sp]) h:=by
 let w:(cW [.ref lt,pv p] h).W λq h'=>q=.tup [Y9 0,.str r.sp]/\h'=h:=by
  refine bG ?_;unfold mR;let e1:fH (pv p) (.ref lm) h=.ok (.bl true) h:=by have:fH (pv p) (.ref lm) h=.ok (.bl (aF T<|pv p).isSome) h:=oW t.made rfl;rw[this,e];rfl
  let e2:vAt (.ref lm) (pv p) h=.ok (fC r) h:=mZ t.made rfl e;let e3:vSl (fC r) (a_ 1) b_ h=.ok (.tup [Y9 0,.str r.sp]) h:=by unfold fC;rw[K6,Q3];rfl
  simp[t.fm,e1,e2,e3]
 let⟨q,h',e,rfl,rfl⟩:=fX w;show e
def G3{lt:Nat}(f:R_ [YY v,YU R])(tn:bD h n=a_ kvs)(k1:Y1 (pv (w0,1))=a_ (T1v v))(k2:Y1 (pv (w0,2))=a_ (T2v s))(Q:PV->PH->Prop)(k:∀l2 h',O_ h'->h'[l2]?=a_ (.lst<|rw6 w0 v s)->Q (.tup [.str "map",.ref l2]) h'):(bE [.ref l,Y9 0,.ref n] h).W Q:=by
 refine bG ?_;unfold bW;let mk:=aN "kind_of" 1 aQ (aA (mV 1) aC) [c_ l,a_<|Y9 0,c_ n,b_] h (mUn (aO "tree")<|mV 0) aI (by simp[f.ft]) f.ta.ins (by simp[aQ]) rfl;rw[aD];simp[mk,sG];rfl';let⟨TN,c1,c2,s',_,_,tl,lk,e1,e2,g1,g2,g3,g4,no⟩:=f.lv.two;let hs:fH (Y9 0) (.ref ll) h=.ok (.bl false) h:=by have:fH (Y9 0) (.ref ll) h=.ok (.bl (aF TN<|Y9 0).isSome) h:=oW tl rfl;rw[this,no root (nr1 w0)<|nr2 w0];rfl
 rw[aD,bV];simp[f.fl,hs];rfl';let mw:=aN "within" 1 eE (aA (mV 1) aC) [c_ l,a_<|Y9 0,c_ n,a_<|.str "map"] h (mUn (aO "tree")<|mV 0) dQ (by simp[f.ft]) f.ta.ins (by simp[eE]) rfl;let⟨_,h1,uo,lw,rfl,x1,Uc⟩:=fX (A3 f (.inl rfl) (λu h'=>∃l,u=.ref l/\O_ h'/\h'[l]?=a_ (.lst<|[YU R,YY v].map nmP)) λl h' x g _=>⟨l,rfl,x,by rw[show ZY root=[YU R,YY v] from YS 0]at g;show g⟩)
 let f1:=f.ext x1;let hc:=dN (m:=bF "within" 1 eE (mUn (aO "tree")<|mV 0)<|aA (mV 1) aC) (js:=[b_,a_ 2,a_ 0]) (tg:=gN 0) (tst:=gM) (elt:=aU<|aA (k_ (bF "held" 1 qN (mUn (aO "tree")<|mV 2)<|aA (mV 0) aC)<|q_ 1)<|aA (mV 0)<|aA (k_ (mV 1)<|mV 0) aC) (δ:=[c_ l,a_<|Y9 0,c_ n,a_<|.str "map"]) (h:=h) (h1:=h1) (n:=lw) (ys:=[(YU R,T2v s),(YY v,T1v v)]) (emb:=λz=>nmP z.1) (λz=>a_<|.tup [.str z.1.sp,pv z.1.nm,z.2]) (by simp[mw,uo]) Uc (by simp)
  (λz hz=>⟨[a_ (pv z.1.nm),c_ n,c_ l],by simp[cQ,nmP],λh2 x2=>⟨rfl,by
   let f2:=f1.ext x2;let mh:=aN "held" 1 qN (aA (mV 0) aC) [a_<|pv z.1.nm,c_ n,c_ l] h2 (mUn (aO "tree")<|mV 2) cW (by simp[f2.ft]) f2.ta.ins (by simp[qN]) rfl;let za:=bZ (x1.trans x2) tn;let ig:z=(YU R,T2v s)\/z=(YY v,T1v v):=by simpa using hz
   rcases ig with rfl|rfl
   ·let va:vAt (.ref n) (pv (w0,2)) h2=.ok (T2v s) h2:=mZ za rfl k2;let hh:cW [.ref lt,pv (YU R).nm] h2=_:=IM f2.ta<|EE w0 v R;let wg:vAt (.ref n) (pv (YU R).nm) h2=.ok (T2v s) h2:=va;simp[mh,hh,wg]
   ·let va:vAt (.ref n) (pv (w0,1)) h2=.ok (T1v v) h2:=mZ za rfl k1;let hh:cW [.ref lt,pv (YY v).nm] h2=_:=IM f2.ta (ED w0 v R);let wg:vAt (.ref n) (pv (YY v).nm) h2=.ok (T1v v) h2:=va;simp[mh,hh,wg]⟩⟩)
 let hc:aW [b_,a_ 2,a_ 0] (aY<|bF "within" 1 eE (mUn (aO "tree")<|mV 0)<|aA (mV 1) aC) (gN 0) gM (aU<|aA (k_ (bF "held" 1 qN (mUn (aO "tree")<|mV 2)<|aA (mV 0) aC)<|q_ 1)<|aA (mV 0)<|aA (k_ (mV 1)<|mV 0) aC) [c_ l,a_<|Y9 0,c_ n,a_<|.str "map"] h=.ok (.ref h1.length) (h1++[.lst<|rw6 w0 v s]):=hc;simp[hc];show k _ _ (x1.trans<|F_ _) aE
abbrev TQ(w0:Str)(v:Int)(R:B_ (Nm×Int))(s q:Nat)(kvs:B_ (PV×PV))(h':PH):Prop:=(1<=q->Y1 (pv (w0,2))=a_ (T2v s)/\h'[s]?=a_ (.lst<|nm6 R))/\(2<=q->Y1 (pv (w0,1))=a_ (T1v v))/\(3<=q->∃l2,Y1 (Y9 0)=a_ (.tup [.str "map",.ref l2])/\h'[l2]?=a_ (.lst<|rw6 w0 v s))
abbrev TIv(w0:Str)(v:Int)(R:B_ (Nm×Int))(l lh:Nat)(h:PH)(q:Nat)(δ:Ev)(h':PH):Prop:=O_ h'/\h'[lh]?=a_ (.lst [Y9 0,pv (w0,1),pv (w0,2)])/\(∃x2,δ=[c_ l,Zu 0,x2])/\∃kvs s,bD h' h.length=a_ kvs/\kvs.length<=q/\TQ w0 v R s q kvs h'
def IP{lt:Nat}(f:R_ [YY v,YU R])(lR:R.length<64)(Q:PV->PH->Prop)(k:∀l2 s h',O_ h'->h'[l2]?=a_ (.lst<|rw6 w0 v s)->h'[s]?=a_ (.lst<|nm6 R)->Q (.tup [.str "map",.ref l2]) h'):(cX [.ref l] h).W Q:=by
 refine bG ?_;unfold iR;rw[aD];simp;let x0:O_ (h++[MO.dK []]):=F_ _;let t0:bD (h++[MO.dK []]) h.length=a_ []:=AW aE;let l0:(h++[MO.dK []]).length=h.length+1:=by simp
 generalize h++[MO.dK []]=hA at x0 t0 l0;let fA:=f.ext x0;rfl';rw[aD];let mh:=aN "hanging" 0 pH aC [c_ l,Zu 0,b_] hA (mV 0) cP (by simp) fA.fo (by simp[pH]) rfl;let⟨_,h1,e1,lh,rfl,x1,g1,b1⟩:=fX<|DF fA (λu h'=>∃l,u=.ref l/\Ext hA h'/\h'[l]?=a_ (.lst [Y9 0,pv (w0,1),pv (w0,2)])/\hA.length<=l) λl h' x g b=>⟨l,rfl,x,g,b⟩;refine NH (n:=lh) (xs:=[Y9 0,pv (w0,1),pv (w0,2)]) (h1:=h1) (TIv w0 v R l lh h) (by simp[mh,e1]) g1 ⟨x0.trans x1,g1,⟨_,rfl⟩,[],0,bZ x1 t0,by simp,⟨⋯,⋯,⋯⟩⟩ ?_ ?_ ?_
 ·rintro q δ h' hq ⟨_,g,_⟩;show g
 ·rintro q y δ h' hy ⟨x,g,⟨x2,rfl⟩,kvs,s,tk,lk,c1,c2,c3⟩;refine⟨_,rfl,?_⟩;let fh:=f.ext x;let⟨o,ho,_,RW⟩:=aZ tk;let bo:=(SC.mp ho).1;let mt:∀p:Nm,_:=λp=>aN "telling" 2 pI (aA (mV 2)<|aA (mV 1) aC) [c_ l,Zu 0,a_<|pv p] h' (mV 0) bE (by simp) fh.fo (by simp[pI]) rfl;let fin:∀(p:Nm)(u:PV)(h2:PH)(s':Nat),Ext h' h2->TQ w0 v R s' (q+1) (bJ kvs (pv p) u) (h2.set h.length<|.dD<|bJ kvs (pv p) u)->∃h3,fZ (.ref h.length) (pv p) u h2=a_ h3/\TIv w0 v R l lh h (q+1) [c_ l,Zu 0,a_<|pv p] h3:=λp u h2 s' x2 tq=>by let lq:q<3:=(SC.mp hy).1;let hp:fZ (.ref h.length) (pv p) u h2=a_ (h2.set h.length<|.dD<|bJ kvs (pv p) u):=uD (bZ x2 tk) rfl ⋯;have:=Ez kvs (pv p) u;show⟨_,hp,(x.trans x2).setN<|U1 _,aJ (x2 _ _ g) ⋯,⟨_,rfl⟩,_,s',nL<|aS<|x2 _ _ ho,⋯,tq⟩
  let kl:∀{h2:PH}{i:Nat}{zs:Y4 0}{o'},Ext h' h2->h2[i]?=a_ (.lst zs)->(h2.set h.length o')[i]?=a_ (.lst zs):=λx2 e=>aJ e (λz=>by rw[<-z,x2 _ _ ho]at e;cases e;show jC tk ho);unfold fI
  match q,hy,c1,c2,c3,fin with
  |0,hy,c1,c2,c3,fin=>
   cases hy
   let mt:=mt (w0,2);simp[mt];refine Q8 fh lR _ _ λs' h2 x2 gs=>?_;refine fin (w0,2) (T2v s') h2 s' x2 ⟨λ_=>⟨by rw[cL,YS 0],kl x2 gs⟩,⋯,⋯⟩
  |1,hy,c1,c2,c3,fin=>
   cases hy
   let mt:=mt (w0,1);simp[mt,Q7 fh];let⟨a1,a2⟩:=c1 ⋯;show fin (w0,1) (T1v v) h' s (Ext.refl _) ⟨λ_=>⟨by rw[cL,if_neg<|λz=>n12 w0 (iU z).symm];show a1,kl (Ext.refl _) a2⟩,λ_=>by rw[cL,YS 0],⋯⟩
  |2,hy,c1,c2,c3,fin=>
   cases hy
   let mt:=mt root;simp[mt];let⟨a1,a2⟩:=c1 ⋯;let b1:=c2 ⋯;refine G3 fh tk b1 a1 _ λl2 h2 x2 g2=>?_;show fin root (.tup [.str "map",.ref l2]) h2 s x2 ⟨λ_=>⟨by rw[cL,if_neg<|λz=>nr2 w0<|iU z];show a1,kl x2<|x2 _ _ a2⟩,λ_=>by rw[cL,if_neg<|λz=>nr1 w0<|iU z];show b1,λ_=>⟨l2,by rw[cL,YS 0],kl x2 g2⟩⟩
  |q+3,hy,_,_,_,_=>simp at hy
 ·rintro δ h' ⟨x,g,⟨x2,rfl⟩,kvs,s,tk,lk,c1,c2,c3⟩;let⟨l2,e2,g2⟩:=c3 (by simp);let⟨_,gs⟩:=c1 (by simp);rfl';let va:vAt (.ref h.length) (.tup [.str "",.int 0]) h'=.ok (.tup [.str "map",.ref l2]) h':=mZ tk rfl e2;simp[va];show k _ _ _ x g2 gs
def ttF:nO "Folding" = a_ cX:=by
 let n1:¬ (Vh "Folding")=Vh "Count" := by decide +kernel
 let n2:¬ (Vh "Folding")=Vh "Choice" := by decide +kernel
 simp[nO,n1,n2]
variable{l2:Nat}
def L4{l1:Nat}(g1:h[l1]?=a_ (.lst [nA (YY v,.int v),nA (YU R,.ref s)]))(gs:h[s]?=a_ (.lst<|R.map rwN))(lR:R.length<64)(g2:h[l2]?=a_ (.lst []))(Q:PV->PH->Prop)(k:∀l2 s h',O_ h'->h'[l2]?=a_ (.lst<|rw6 w0 v s)->h'[s]?=a_ (.lst<|nm6 R)->Q (.tup [.str "map",.ref l2]) h'):(Dx [.tup [.ref l1,.ref l2]] h).W Q:=by
 refine bG ?_;unfold Dw;let g0:(h++[MO.ins "Folding" []])[h.length]?=a_ (.ins "Folding" []):=aE;let xA:O_ (h++[MO.ins "Folding" []]):=F_ _;let⟨_,h1,e1,lt,lm,lf,ll,rfl,x1,f1⟩:=fX (wY (cn:="Folding") (n:=1) (f:=bH) (ms:=aA (mV 0) aC) (δ:=[a_ (.tup [.ref l1,.ref l2])]) (ps:=[.tup [.ref l1,.ref l2]]) (h:=h) (h1:=h) (Q:=λu h'=>∃lt lm lf ll,u=.ref h.length/\O_ h'/\Zm [YY v,YU R]) (by simp) rfl
  (Cc (zs:=[(YY v,.int v),(YU R,.ref s)]) (by simp[t1,t2]) (by simp) xA g0 (xA _ _ g1) (xA _ _ g2) (λz hz=>by
   let ig:z=(YY v,.int v)\/z=(YU R,.ref s):=by simpa using hz
   rcases ig with rfl|rfl
   ·rfl
   ·show⟨s,rfl,xA _ _ gs,⋯⟩) λlt lm lf ll h1 x1 f1=>⟨rfl,lt,lm,lf,ll,rfl,x1,f1⟩))
 let mt:=aN "told" 0 nO aC [a_<|.tup [.ref l1,.ref l2]] h (lN "Folding" 1 bH<|aA (mV 0) aC) cX e1 f1.fo ttF rfl;simp[mt,-mN];show IP f1 lR _ λl2 s h2 x2 b2 g2=>k l2 s h2 (x1.trans x2) b2 g2
def IQ(h:PH):uG [] h=.ok (.tup [.ref h.length,.ref<|h.length+1]) (h++[.lst []]++[.lst []]):=by
 let w:(uG [] h).W λq h'=>q=.tup [.ref h.length,.ref<|h.length+1]/\h'=h++[.lst []]++[.lst []]:=by refine bG ?_;unfold AQ;simp
 let⟨q,h',e,rfl,rfl⟩:=fX w;show e
def DG{ds R:B_ Dd}(nd:(ds.map (·.nm)).Nodup)(wf:∀d∈ds,Wf d)(m:∀d,d∈hl↔d∈ds)(lh:hl.length<=63)(fo:tJ ds (mk1 w0::Z3 0::R) F)(br:eZ (mk1 w0::Z3 0::R))(r:R6 w0 R)(ln:R.length<=50)(hf:∀d∈R,D6 w0 d<|f d)(gn:h[n]?=a_ (.lst<|hl.map dP))(Q:PV->PH->Prop)(k:∀l2 s h',O_ h'->h'[l2]?=a_ (.lst<|rw6 w0 (bQ f R).1 s)->h'[s]?=a_ (.lst<|nm6 (bQ f R).2)->Q (.tup [.str "map",.ref l2]) h'):(nP [.ref n] h).W Q:=by
 refine bG ?_;unfold sA;let x0:O_ (h++[MO.lst []]++[MO.lst []]):=(F_ _).trans<|F_ _;let e0:=IQ h;let ga:(h++[MO.lst []]++[MO.lst []])[h.length]?=a_ (.lst []):=F_ _ _ _ aE;let gb:(h++[MO.lst []]++[MO.lst []])[h.length+1]?=a_ (.lst []):=by
  have:h.length+1=(h++[MO.lst []]).length:=by simp
  rw[this];show aE
 generalize h++[MO.lst []]++[MO.lst []]=h1 at x0 e0 ga gb;let⟨_,h2,e2,lo,rfl,x2,g2⟩:=fX (tK hl (λd hd=>wf d<|(m d).mp hd) lh (λd hd e he=>nR nd d ((m d).mp hd) e<|(m e).mp he) n h1 (x0 _ _ gn) (λu h'=>∃l,u=.ref l/\Ext h1 h'/\h'[l]?=a_ (.lst<|(mk1 w0::Z3 0::R).map dP)) λout F' l h' x g mq xm=>⟨l,rfl,x,by rw[G0 m nd fo mq br xm]at g;show g⟩);let⟨_,h3,e3,la,lb,s,rfl,x3,g3,gs,_,g4⟩:=fX<|L0 r ln hf br (x2 _ _ ga) (x2 _ _ gb) g2 (λu h'=>∃l l2 s,u=.tup [.ref l,.ref l2]/\Ext h2 h'/\h'[l]?=a_ (.lst [nA (YY (bQ f R).1,.int (bQ f R).1),nA (YU (bQ f R).2,.ref s)])/\h'[s]?=a_ (.lst<|(bQ f R).2.map rwN)/\(bQ f R).2.length<=100/\h'[l2]?=a_ (.lst [])) λl l2 s h' x a b c d=>⟨l,l2,s,rfl,x,a,b,c,d⟩;simp[e0,e2,e3];let ll:=wX f R;show L4 g3 gs ⋯ g4 _ λl2 s h4 x4 g5 g6=>k l2 s h4 ((x0.trans x2).trans<|x3.trans x4) g5 g6
structure AOk(w0 w:Str)(A:B_ PV)(kd:Kd):Prop where
 wf:WfA kd A
 pl:A.all (PV.pl 37)=true
 ac:(∃v,A=[.str "add",pv (w0,1),.int v])\/(∃v,A=[.str "choose",pv (w0,2),.int v])\/kd≠.other
 bk:w=w0->∀f l,kd=.back f l->3<=f
variable{hs:Zf 0}{lh:Nat}
def NI{xs:Z8 0}{c N:Int}(ot:xs.length=9)(gx:h[lx]?=a_ (.lst<|Z1 0))(gh:h[lh]?=a_ (.lst<|(w0::hs).map PV.str))(Q:PV->PH->Prop)(k:∀A kd,AOk w0 w A kd->Q (.tup A) h):(Ep [.ref lx,.int c,.tup [.str w,.int N],.ref lh] h).W Q:=by
 let ix:∀i:Nat,(hi:i<9)->vIx (.ref lx) (.int i) h=.ok (.int<|xs[i]'⋯) h:=λi hi=>by rw[cO gx,sE ⋯];rfl
 let i1:vIx (.ref lx) (.int 1) h=.ok (.int xs[1]) h:=ix 1 ⋯;let i2:vIx (.ref lx) (.int 2) h=.ok (.int xs[2]) h:=ix 2 ⋯;let i3:vIx (.ref lx) (.int 3) h=.ok (.int xs[3]) h:=ix 3 ⋯;let i4:vIx (.ref lx) (.int 4) h=.ok (.int xs[4]) h:=ix 4 ⋯;let ih:vIx (.ref lh) (.int 0) h=.ok (.str w0) h:=by rw[cO gh,show atI (List.map PV.str (w0::hs)) 0=a_ (.str w0) from kH (i:=0) (by simp)];rfl
 generalize xs[1]=v1 at i1;generalize xs[2]=v2 at i2;generalize xs[3]=v3 at i3;generalize xs[4]=v4 at i4;refine bG ?_;unfold Ie;rw[aD];simp(disch:=omega) [i2];let rest:∀n:Int,Lt (aG (cB (aT (aB vLt (aB dB (k_ (mV 0) (q_ 1)) (q_ 8)) (q_ 3)))
  (aX<|aU<|aA (mC<|.str "add")<|aA (aU<|aA (k_ (mV 3)<|q_ 0)<|aA (q_ 1) aC)<|aA (mV 4) aC)
  cJ)
 (aG (cB (aT (aB vLt (aB dB (k_ (mV 0) (q_ 1)) (q_ 8)) (q_ 6)))
  (aX<|aU<|aA (mC<|.str "choose")<|aA (aU<|aA (k_ (mV 3)<|q_ 0)<|aA (q_ 2) aC)<|aA (mV 4) aC)
  cJ)
 (aG (cB (aT (Zl (aB dB (k_ (mV 0) (q_ 1)) (q_ 8)) (q_ 6)))
  (aG (aP 5 (mCB By (aA (q_ 1) (aA (aB rF (aB rF (k_ (mV 2) (q_ 1)) (q_ 1)) (aB dB (k_ (mV 0) (q_ 2)) (q_ 4))) aC))))
  (aG (cB (aT (Zl (k_ (mV 2) (q_ 0)) (k_ (mV 3) (q_ 0))))
   (aP 5<|mCB By<|aA (q_ 3)<|aA (mV 5) aC)
   cJ)
  (aX (aU (aA (mC (.str "back")) (aA (mV 5) (aA (ZC (mV 5) (aB dB (k_ (mV 0) (q_ 4)) (q_ 4))) aC)))))))
  cJ)
 (aX (aU (aA (mC (.str "settle")) aC)))))) { nx:=λ_ h=>Q .non h,rt:=Q} [c_ lx,d_ c,a_ (.tup [.str w,.int N]),c_ lh,d_ n,b_] h:=λn=>by
  rfl';rw[aD,bV];by_cases c1:v1%8<3
  ·simp(disch:=omega) [i1,c1,ih];show k _ .other ⟨⟨_,_,rfl,by decide +kernel,by decide +kernel⟩,rfl,.inl ⟨n,rfl⟩,λ_ f l z=>nomatch z⟩
  ·simp(disch:=omega) [i1,c1];rfl';rw[aD,bV];by_cases c2:v1%8<6
   ·simp(disch:=omega) [i1,c2,ih];show k _ .other ⟨⟨_,_,rfl,by decide +kernel,by decide +kernel⟩,rfl,.inr<|.inl ⟨n,rfl⟩,λ_ f l z=>nomatch z⟩
   ·simp(disch:=omega) [i1,c2];rfl';rw[aD,bV];by_cases c3:v1%8=6
    ·simp(disch:=omega) [i1,c3];rw[aD];simp(disch:=omega) [i2];rfl';rw[aD,bV];let es:vEq (.str w) (.str w0) h=.ok (.bl<|decide (w=w0)) h:=by
      rw[As rfl rfl];by_cases e:w=w0
      ·simp[e]
      ·have:¬ PV.str w=PV.str w0:=λz=>e<|PV.str.inj z;simp[e,this]
     generalize (if N-1-v2%4>1 then N-1-v2%4 else 1)=g0;by_cases c4:w=w0
     ·rw[decide_eq_true c4]at es;simp[ih,es];rfl';simp(disch:=omega) [i4];refine k _ (.back (if 3<g0 then g0 else 3) ((if 3<g0 then g0 else 3)+v4%4)) ⟨rfl,rfl,.inr<|.inr<|by simp,λ_ f l z=>?_⟩;cases z
      split <;> omega
     ·rw[decide_eq_false c4]at es;simp[ih,es];rfl';simp(disch:=omega) [i4];show k _ (.back g0<|g0+v4%4) ⟨rfl,rfl,.inr<|.inr<|by simp,λz=>(c4 z).elim⟩
    ·simp(disch:=omega) [i1,c3];rfl';simp;show k _ .settle ⟨rfl,rfl,.inr<|.inr<|by simp,λ_ f l z=>nomatch z⟩
 rfl';rw[aD,bV];by_cases c0:v3%3=0
 ·simp(disch:=omega) [i3,c0];show rest _
 ·simp(disch:=omega) [i3,c0];show rest _
def dS(S:Seen)(h h':Str)(n:Int):look (dput S h n) h'=if h'=h then a_ n else look S h':=by
 let e:=cL (emb S) (Wa h:Key) (.int n)<|Wa h';rw[qP,gJ,gJ]at e;by_cases c:h'=h
 ·rw[if_pos<|by rw[c]]at e;rw[if_pos c];cases e2:look (dput S h n) h' with
  |none=>rw[e2]at e;cases e
  |some m=>rw[e2]at e;cases e;rfl
 ·rw[if_neg<|λz=>c<|Sum.inr.inj z]at e;rw[if_neg c];cases e2:look (dput S h n) h' with
  |none=>rw[e2]at e;cases e3:look S h' with
   |none=>rfl
   |some m=>rw[e3]at e;cases e
  |some m=>rw[e2]at e;cases e3:look S h' with
   |none=>rw[e3]at e;cases e
   |some k=>rw[e3]at e;cases e;rfl
variable{m:Int}
def IR{x:Str}(e:h[n]?=a_ (.dK<|emb S))(hl:look S x=a_ m):vIx (.ref n) (.str x) h=.ok (.int m) h:=by let e2:=gJ x S;rw[hl]at e2;rw[L2.vIx_dK e,e2];rfl
abbrev prs(E:Seen)(zs:Zf 0):Seen:=(zs.filter λz=>decide (0<(look E z).getD 0)).map λz=>(z,(look E z).getD 0)
def EF{E:Seen}:p∈prs E zs↔p.1∈zs/\p.2=(look E p.1).getD 0/\0<p.2:=by
 unfold prs;rw[Vl];constructor
 ·rintro⟨z,hz,rfl⟩;let⟨a,b⟩:=V2.mp hz;show⟨a,rfl,of_decide_eq_true b⟩
 ·rintro⟨a,b,c⟩;show⟨p.1,V2.mpr ⟨a,decide_eq_true (by rw[<-b];show c)⟩,by rw[<-b]⟩
def NJ{E:Seen}(h:zs.Nodup):((prs E zs).map (·.1)).Nodup:=by
 unfold prs;rw[VF,show((λx:Str×Int=>x.1)∘λz=>(z,(look E z).getD 0))=id from rfl,List.map_id]
 show h.sublist X9
def NK(h:∀p∈S,0<=p.2){q:Str×Int}(hq:q∈S):q.2<=tot S:=by
 unfold tot;let nn:∀S:Seen,(∀p∈S,0<=p.2)->0<=(S.map (·.2)).sum:=λS h=>by
  induction S with
  |nil=>exact Int.le_refl _
  |cons p r ih=>rw[Vd,List.sum_cons];have:=h p UV;have:=ih λx hx=>h x (U4 _ hx);omega
 induction S with
 |nil=>cases hq
 |cons p r ih=>
  rw[Vd,List.sum_cons];let h0:=h p UV;let hr:=λx(hx:x∈r)=>h x<|U4 _ hx;rcases U5.mp hq with rfl|hq
  ·have:=nn r hr;omega
  ·have:=ih hr hq;omega
structure DN(w0:Str)(rest:B_ Dd)(D:Seen):Prop where
 r:R6 w0 rest
 h0:∃n,look D w0=some n/\2<=n
 nn:∀w,0<=(look D w).getD 0
 cnt:∀d∈rest,d.nm.2<=(look D d.nm.1).getD 0
set_option tactic.hygienic true in
def DN.snoc{rest:B_ Dd}{D:Seen}(i:DN w0 rest D){d:Dd}(ok:Ok6 w0 d)(e:d.nm.2=(look D d.nm.1).getD 0+1):DN w0 (rest++[d]) (dput D d.nm.1 d.nm.2):=by
 let⟨n,hn,n2⟩:=i.h0;refine⟨⟨λx hx=>?_,?_⟩,?_,λw=>?_,λx hx=>?_⟩
 ·rcases Vx.mp hx with z|z
  ·show i.r.ok x z
  ·rw[Va.mp z];show ok
 ·rw[VP,Xg];refine⟨i.r.nd,by simp,λa ha b hb z=>?_⟩;let⟨x,hx,rfl⟩:=Vl.mp ha;let hb:b=d.nm:=by simpa using hb
  let e1:x.nm=d.nm:=z.trans hb;have:=i.cnt x hx;rw[e1]at this;omega
 ·rw[dS];split
  ·rename_i c;refine⟨_,rfl,?_⟩;rw[<-c,hn]at e;let e:d.nm.2=n+1:=e;omega
  ·show⟨n,hn,n2⟩
 ·rw[dS];have:=i.nn d.nm.1;split
  ·change 0<=d.nm.2
   omega
  ·show i.nn w
 ·rw[dS];have:=i.nn d.nm.1;rcases Vx.mp hx with z|z
  ·have:=i.cnt x z;split
   ·rename_i c;rw[c]at this
    change x.nm.2<=d.nm.2
    omega
   ·show this
  ·rw[Va.mp z,YS 0];show Int.le_refl _
abbrev SE6(w0:Str)(hs:Zf 0)(n:Int)(q:Nat)(E:Seen):Prop:=look E w0=a_ n/\(∀z∈hs.take q,∃m,look E z=a_ m)/\(∀w,0<=(look E w).getD 0)/\E.length<=q+1
abbrev SJ(w0:Str)(hs:Zf 0)(n:Int)(lc lh lr lm:Nat)(h:PH)(c:Int)(lx ls:Nat)(w:Str)(x9 di:C_ PV)(q:Nat)(δ:Ev)(h':PH):Prop:=∃E x8,SE6 w0 hs n q E/\(∀i o,i≠ls->h[i]?=a_ o->h'[i]?=a_ o)/\h'[ls]?=a_ (.dK<|emb E)/\δ=[c_ lc,c_ lh,c_ lr,c_ lm,d_ c,c_ lx,a_<|.str w,c_ ls,x8,x9,di]
variable{E':FE}{di x9 y8:C_ PV}{lc ls:Nat}
set_option tactic.hygienic true in
def L5(kj:(w0::hs).Nodup)(lhs:hs.length<=3){D:Seen}(nn:∀w,0<=(look D w).getD 0){xs:Z8 0}(ot:xs.length=9)(bx:∀x∈xs,0<=x/\x<2147483647){c n:Int}(n0:0<=n)(gx:h[lx]?=a_ (.lst<|Z1 0))(gh:h[lh]?=a_ (.lst<|(w0::hs).map PV.str))(gm:h[lm]?=a_ (.dK<|emb D))(gs:h[ls]?=a_ (.dK<|emb [(w0,n)]))(nx:lx≠ls)(nh:lh≠ls)(nm:lm≠ls)(k:∀E x8 h',SE6 w0 hs n hs.length E->(∀i o,i≠ls->h[i]?=a_ o->h'[i]?=a_ o)->h'[ls]?=a_ (.dK<|emb E)->E'.nx [c_ lc,c_ lh,c_ lr,c_ lm,d_ c,c_ lx,a_<|.str w,c_ ls,x8,x9,di] h'):
  (fF (vM<|aA (q_ 1)<|aA (mCB mE<|aA (mV 1) aC) aC) (gN 8) jY [c_ lc,c_ lh,c_ lr,c_ lm,d_ c,c_ lx,a_<|.str w,c_ ls,y8,x9,di] h).W E':=by
 let ll:((w0::hs).map PV.str).length=hs.length+1:=by simp
 refine N3 (lo:=1) (j:=(hs.length:Int)+1) (SJ w0 hs n lc lh lr lm h c lx ls w x9 di) (by simp[vP gh]) ⋯ ⟨[(w0,n)],_,⟨by simp[look],by simp,λw=>?_,by simp⟩,λ_ _ _ e=>e,gs,rfl⟩ ?_ ?_
 ·simp only[look];split
  ·show n0
  ·show Int.le_refl _
 ·rintro q δ h' hq ⟨E,x8,⟨s1,s2,s3,s4⟩,fr,g,rfl⟩;let fu:q<hs.length:=⋯;let wj:=fr _ _ nx gx;let ti:=fr _ _ nh gh;let RQ:=fr _ _ nm gm;let ih:vIx (.ref lh) (.int<|1+(q:Int)) h'=.ok (.str hs[q]) h':=by
   let e1:(1+(q:Int))=((q+1:Nat):Int):=⋯;rw[e1,cO ti,show atI ((w0::hs).map PV.str) ((q+1:Nat):Int)=a_ (.str hs[q]) from kH (by simp[fu])]
   rfl
  let ix:vIx (.ref lx) (.int<|5+(1+(q:Int))) h'=.ok (.int xs[6+q]) h':=by
   let e1:(5+(1+(q:Int)))=((6+q:Nat):Int):=⋯;rw[e1,cO wj,sE ⋯];rfl
  let bq:=bx xs[6+q]<|V5 _;generalize xs[6+q]=v at ix bq;let hz:hs[q]≠w0:=λz=>by have:=(Wh.mp kj).1;show this<|z▸V5 _
  let ez:hs.take (q+1)=hs.take q++[hs[q]]:=by rw[WS,VH fu];rfl
  generalize hs[q]=z at ih hz ez;let jx:=qJ (x:=z) (z:=.int 0) RQ;rw[gJ]at jx;let ev:((look D z).map PV.int).getD (.int 0)=.int ((look D z).getD 0):=by cases look D z <;> rfl
  rw[ev]at jx;let dz:=nn z;let hp:fZ (.ref ls) (.str z) (.int<|v%((look D z).getD 0+1)) h'=a_ (h'.set ls<|.dK<|emb<|dput E z<|v%((look D z).getD 0+1)):=by rw[AD g (by unfold emb;rw[U2];omega),qP]
  let m0:=YI v (b:=(look D z).getD 0+1) ⋯;unfold jY;generalize (look D z).getD 0=dz0 at*;simp(disch:=omega) [ix,ih,mI RQ,jx];refine⟨_,hp,dput E z<|v%(dz0+1),_,⟨?_,λy hy=>?_,λy=>?_,?_⟩,λi o hi e=>aJ (fr i o hi e)<|Wu hi,aS g,rfl⟩
  ·rw[dS,if_neg<|Wu hz];show s1
  ·rw[dS];rw[ez]at hy;split
   ·show⟨_,rfl⟩
   ·rename_i c2;rcases Vx.mp hy with hy|hy
    ·show s2 y hy
    ·show(c2<|Va.mp hy).elim
  ·rw[dS];split
   ·show m0
   ·show s3 y
  ·have:=AR (S:=E) (h:=z) (n:=v%(dz0+1));omega
 ·rintro δ h' ⟨E,x8,s,fr,g,rfl⟩;have:((hs.length:Int)+1-1).toNat=hs.length:=⋯;rw[this]at s;show k E _ h' s fr g
def NL(e:h[n]?=a_ (.lst<|S.map pv)):oQ [.ref n] h=.ok (sv S) h:=by simp[oQ,aM,e,Im]
def IS(f6:hs≠[])(i:Int):∃w,atI (hs.map PV.str) (i%(hs.length:Int))=a_ (.str w)/\w∈hs:=by
 let⟨p,e,m⟩:=K5 (xs:=hs.map PV.str) (i:=i)<|l_ f6;let⟨w,hw,rfl⟩:=Vl.mp m;rw[U2]at e;show⟨w,e,hw⟩
abbrev DJ(w0:Str)(lc lh:Nat)(h:PH)(q:Nat)(δ:Ev)(h':PH):Prop:=∃rest D,O_ h'/\h'[h.length]?=a_ (.lst<|(mk1 w0::Z3 0::rest).map dP)/\h'[h.length+1]?=a_ (.dK<|emb D)/\DN w0 rest D/\rest.length=q/\D.length<=q+1/\∃x4 x5 x6 x7 x8 x9 di,δ=[c_ lc,c_ lh,Zu 0,c_<|h.length+1,x4,x5,x6,x7,x8,x9,di]
abbrev dE:Ms:=(aG (iA (mMt bP mL (mV 3) (aA (mV 6) (aA (q_ 0) aC))) (mV 7) (mV 6))
  (aG (aP 9 (aU (aA (mV 6) (aA (ZC (k_ (mV 7) (mV 6)) (q_ 1)) aC))))
  (aG (iA (k_ (mV 9) (q_ 1)) (mV 3) (mV 6))
  (aG (aP 10 (mCB oQ (aA (aW [b_,a_ 7] (aY (mCB mJ (aA (mV 1) aC))) (gN 0) (aT (aB vGt (k_ (mV 1) (mV 0)) (q_ 0))) (aU (aA (mV 0) (aA (k_ (mV 1) (mV 0)) aC)))) aC)))
  (lQ (mMt isL (onL cF) (mV 2) (aA (aU (aA (mV 9) (aA (mV 10) (aA (bO 4 Ep (aA (mV 5) (aA (mV 4) (aA (mV 9) (aA (mV 1) aC))))) aC)))) aC)))))))
variable{x8:C_ PV}
set_option tactic.hygienic true in
def Q9(lhs:hs.length<=3)(kj:(w0::hs).Nodup)(hw:w∈w0::hs){q:Nat}{c n:Int}{rest:B_ Dd}{D E:Seen}{xs:Z8 0}(ot:xs.length=9)(n2:2<=n)(x:O_ h')(g:h'[h.length]?=a_ (.lst<|(mk1 w0::Z3 0::rest).map dP))(gm:h'[h.length+1]?=a_ (.dK<|emb D))(dn:DN w0 rest D)(lr:rest.length=q)(hq:q<=60)(lD:D.length<=q+1)(gx:h'[lx]?=a_ (.lst<|Z1 0))(gh:h'[lh]?=a_ (.lst<|(w0::hs).map PV.str))(gs:h'[ls]?=a_ (.dK<|emb E))(bs:h.length+1<ls)(nx:lx≠h.length+1)(nh:lh≠h.length+1)(Um:lx≠ls)(Tn:lh≠ls)(se:SE6 w0 hs n hs.length E)(k:∀δ h',DJ w0 lc lh h (q+1) δ h'->E'.nx δ h'):(dE [c_ lc,c_ lh,Zu 0,c_<|h.length+1,d_ c,c_ lx,a_<|.str w,c_ ls,x8,x9,di] h').W E':=by
 let⟨s1,s2,s3,s4⟩:=se;rw[Xo]at s2;unfold dE;rw[aD];let jx:=qJ (x:=w) (z:=.int 0) gm;rw[gJ]at jx;let ev:((look D w).map PV.int).getD (.int 0)=.int ((look D w).getD 0):=by cases look D w <;> rfl
 rw[ev]at jx;let dw:=dn.nn w;let z7:=dn.h0;obtain⟨N0,hN0⟩:∃N0,(look D w).getD 0=N0:=⟨_,rfl⟩;rw[hN0]at jx dw;let hp:fZ (.ref ls) (.str w) (.int N0) h'=a_ (h'.set ls<|.dK<|emb<|dput E w N0):=by rw[AD gs (by unfold emb;rw[U2];omega),qP]
 simp[mI gm,jx];refine⟨_,hp,?_⟩
 -- what the dict says now
 let e0:∃m,look (dput E w N0) w0=a_ m/\2<=m:=by
  rw[dS];split
  ·rename_i c0;let⟨m,a,b⟩:=z7;rw[<-c0,a]at hN0;show⟨_,rfl,by rw[<-hN0];show b⟩
  ·show⟨n,s1,n2⟩
 let eA:∀z∈w0::hs,∃m,look (dput E w N0) z=a_ m:=λz hz=>by
  rw[dS];split
  ·show⟨_,rfl⟩
  ·rcases U5.mp hz with rfl|hz
   ·show⟨n,s1⟩
   ·show s2 z hz
 let eW:look (dput E w N0) w=a_ N0:=by rw[dS,YS 0]
 let lE:=AR (S:=E) (h:=w) (n:=N0);let u3:=aS (o':=MO.dK<|emb<|dput E w N0) gs;let x1:O_ (h'.set ls<|.dK<|emb<|dput E w N0):=x.setN ⋯;let om:∀i o,i≠ls->h'[i]?=a_ o->(h'.set ls<|.dK<|emb<|dput E w N0)[i]?=a_ o:=λi o hi e=>aJ e<|Wu hi;let g1:=om _ _ ⋯ g;let wq:=om _ _ ⋯ gm;let Sg:=om _ _ Um gx;let zm:=om _ _ Tn gh;generalize h'.set ls (.dK<|emb<|dput E w N0)=h1 at u3 x1 om g1 wq Sg zm;generalize dput E w N0=E1 at e0 eA eW lE u3;clear om hp jx gs g gm gx gh s1 s2 s3;rfl';rw[aD];simp[IR u3 eW];rfl';rw[aD];let qm:fZ (.ref<|h.length+1) (.str w) (.int<|N0+1) h1=a_ (h1.set (h.length+1)<|.dK<|emb<|dput D w<|N0+1):=by rw[AD wq (by unfold emb;rw[U2];omega),qP]
 simp;refine⟨_,qm,?_⟩;let x2:O_ (h1.set (h.length+1)<|.dK<|emb<|dput D w<|N0+1):=x1.setN ⋯;let qb:∀i o,i≠h.length+1->h1[i]?=a_ o->(h1.set (h.length+1)<|.dK<|emb<|dput D w<|N0+1)[i]?=a_ o:=λi o hi e=>aJ e<|Wu hi;let g2:=qb _ _ ⋯ g1;let Sv:=aS (o':=MO.dK<|emb<|dput D w<|N0+1) wq;let Sb:=qb _ _ nx Sg;let yg:=qb _ _ nh zm;let Sf:=qb _ _ ⋯ u3;generalize h1.set (h.length+1) (.dK<|emb<|dput D w<|N0+1)=h2 at x2 qb g2 Sv Sb yg Sf;rfl';rw[aD];let⟨zs,pz,so⟩:=BN yg (by simp;omega);let lz:zs.length=hs.length+1:=by rw[pz.length_eq];rfl
 let x3:Ext h2 (h2++[MO.lst<|Z0 0]):=F_ _;let gz:(h2++[MO.lst<|Z0 0])[h2.length]?=a_ (.lst<|Z0 0):=aE;generalize h2.length=l3 at so gz;generalize h2++[MO.lst<|Z0 0]=h3 at so x3 gz;let hc:=dN (m:=mCB mJ<|aA (mV 1) aC) (js:=[b_,a_ 7]) (tg:=gN 0) (tst:=aT<|aB vGt (k_ (mV 1)<|mV 0)<|q_ 0) (elt:=aU<|aA (mV 0)<|aA (k_ (mV 1)<|mV 0) aC) (δ:=[c_ lc,c_ lh,Zu 0,c_<|h.length+1,d_ c,c_ lx,a_<|.str w,c_ ls,x8,a_<|.tup [.str w,.int<|N0+1],di]) (h:=h2) (h1:=h3) (n:=l3) (ys:=zs) (emb:=PV.str)
  (λz=>if 0<(look E1 z).getD 0 then a_ (pv (z,(look E1 z).getD 0)) else b_) (by simp[so]) gz ⋯
  (λz hz=>⟨[a_ (.str z),c_ ls],by simp[cQ],λh4 x4=>by
   let⟨m,em⟩:=eA z<|pz.mem_iff.mp hz;let ix:=IR ((x3.trans x4) _ _ Sf) em;let eg:(look E1 z).getD 0=m:=by rw[em];rfl
   rw[eg];by_cases c1:0<m
   ·simp[ix,c1,pv]
   ·simp[ix,c1]⟩)
 let ef:∀zs:Zf 0,zs.filterMap (λz=>if 0<(look E1 z).getD 0 then a_ (pv (z,(look E1 z).getD 0)) else b_)=(prs E1 zs).map pv:=λzs=>by
  induction zs with
  |nil=>rfl
  |cons z zs ih=>
   unfold prs at ih⊢;rw[V1,ih,V6];by_cases c1:0<(look E1 z).getD 0 <;> simp[c1]
 rw[ef]at hc;let lP:(prs E1 zs).length<=100:=by unfold prs;rw[U2];have:=W5 (λz=>decide (0<(look E1 z).getD 0)) zs;omega
 let Sa:=NJ (E:=E1)<|pz.nodup_iff.mpr kj;let ji:2<=tot (prs E1 zs):=by let⟨m,a,b⟩:=e0;let hm:(w0,m)∈prs E1 zs:=EF.mpr ⟨pz.mem_iff.mpr UV,by change m=(look E1 w0).getD 0;rw[a];rfl,by change 0<m;omega⟩;have:=NK (λp hp=>by have:=(EF.mp hp).2.2;omega) hm;have:m<=tot (prs E1 zs):=this;omega
 generalize prs E1 zs=S at hc lP Sa ji;let x4:Ext h3 (h3++[MO.lst<|S.map pv]):=F_ _;let gS:(h3++[MO.lst<|S.map pv])[h3.length]?=a_ (.lst<|S.map pv):=aE;generalize h3.length=l5 at hc gS;generalize h3++[MO.lst<|S.map pv]=h4 at hc gS x4;simp[hc,NL gS];rfl';let qj:=x3.trans x4;let g4:=qj _ _ g2;simp[iE g4];refine NI ot (qj _ _ Sb) (qj _ _ yg) _ λA kd ao=>?_;let Tg:((w,N0+1):Nm).2=(look D ((w,N0+1):Nm).1).getD 0+1:=by change N0+1=(look D w).getD 0+1;rw[hN0]
 let TH:Ok6 w0 ⟨(w,N0+1),S,kd,A⟩:=by
  refine⟨⟨lP,ao.wf,ao.pl⟩,?_,ji,by change 1<=N0+1;omega,λz=>?_,Sa,λz=>ao.bk z⟩
  ·rcases ao.ac with⟨v,e⟩|⟨v,e⟩|e
   ·show⟨.add v,e⟩
   ·show⟨.cho v,e⟩
   ·show⟨.oth,e⟩
  ·let z:w=w0:=z;let⟨m,a,b⟩:=z7;rw[z,a]at hN0;have:m=N0:=hN0
   change 3<=N0+1
   omega
 let ui:=dn.snoc TH Tg;let ap:=dX (p:=dP ⟨(w,N0+1),S,kd,A⟩) g4 (by simp;omega);rw[show(mk1 w0::Z3 0::rest).map dP++[dP ⟨(w,N0+1),S,kd,A⟩]=(mk1 w0::Z3 0::(rest++[(⟨(w,N0+1),S,kd,A⟩:Dd)])).map dP by simp]at ap;let zj:(rest++[(⟨(w,N0+1),S,kd,A⟩:Dd)]).length=q+1:=by simp[lr]
 let ui:DN w0 (rest++[(⟨(w,N0+1),S,kd,A⟩:Dd)]) (dput D w<|N0+1):=ui;generalize rest++[(⟨(w,N0+1),S,kd,A⟩:Dd)]=R2 at ap zj ui;let ap:onL cF (.ref h.length) [.tup [.tup [.str w,.int<|N0+1],sv S,.tup A]] h4=.ok .non (h4.set h.length<|.lst<|(mk1 w0::Z3 0::R2).map dP):=ap;let g5:=aS (o':=MO.lst<|(mk1 w0::Z3 0::R2).map dP) g4;let x5:O_ (h4.set h.length<|.lst<|(mk1 w0::Z3 0::R2).map dP):=(x2.trans qj).setN<|U1 _;let Sx:(h4.set h.length<|.lst<|(mk1 w0::Z3 0::R2).map dP)[h.length+1]?=a_ (.dK<|emb<|dput D w<|N0+1):=aJ (qj _ _ Sv) ⋯;generalize h4.set h.length (.lst<|(mk1 w0::Z3 0::R2).map dP)=h5 at ap g5 x5 Sx;simp[ap];let lD2:=AR (S:=D) (h:=w) (n:=N0+1);show k _ _ ⟨R2,_,x5,g5,Sx,ui,zj,⋯,_,_,_,_,_,_,_,rfl⟩
def IT(cs:Z8 0)(p8:cs.length<=36)(w0:Str)(hs:Zf 0)(lhs:hs.length<=3)(kj:(w0::hs).Nodup)(lc lh:Nat)(h:PH)(gc:h[lc]?=a_ (.lst<|cs.map PV.int))(gh:h[lh]?=a_ (.lst<|(w0::hs).map PV.str))(Q:PV->PH->Prop)
  (k:∀rest l h',O_ h'->h'[l]?=a_ (.lst<|(mk1 w0::Z3 0::rest).map dP)->R6 w0 rest->rest.length=cs.length->Q (.ref l) h'):(AK [.ref lc,.ref lh] h).W Q:=by
 let bc:=(SC.mp gc).1;let bh:=(SC.mp gh).1;let ih:∀{h'},O_ h'->vIx (.ref lh) (.int 0) h'=.ok (.str w0) h':=λx=>by rw[cO<|x _ _ gh,show atI (List.map PV.str (w0::hs)) 0=a_ (.str w0) from kH (i:=0) (by simp)];rfl
 refine bG ?_;unfold AJ;rw[aD];simp[ih<|Ext.refl _];let xA:O_ (h++[MO.lst [dP<|mk1 w0]]):=F_ _;let gA:(h++[MO.lst [dP<|mk1 w0]])[h.length]?=a_ (.lst [dP<|mk1 w0]):=aE;let lA:(h++[MO.lst [dP<|mk1 w0]]).length=h.length+1:=by simp
 let eA:h++[MO.lst [.tup [.tup [.str w0,.int 1],.tup [],.tup [.str "make",.str "count",.tup [.str "",.int 0],.str "sum"]]]]=h++[MO.lst [dP<|mk1 w0]]:=rfl;rw[eA];generalize h++[MO.lst [dP<|mk1 w0]]=hA at xA gA lA;rfl';rw[aD];let ap:=dX (p:=dP<|Z3 0) gA (by simp);let ap:onL cF (.ref h.length) [.tup [.tup [.str w0,.int 2],.tup [.tup [.str w0,.int 1]],.tup [.str "make",.str "choice",.tup [.str "",.int 0],.str "one"]]] hA=.ok .non (hA.set h.length<|.lst [dP<|mk1 w0,dP<|Z3 0]):=ap;let xB:O_ (hA.set h.length<|.lst [dP<|mk1 w0,dP<|Z3 0]):=xA.setN<|U1 _;let gB:=aS (o':=MO.lst [dP<|mk1 w0,dP<|Z3 0]) gA;let lB:(hA.set h.length<|.lst [dP<|mk1 w0,dP<|Z3 0]).length=h.length+1:=by rw[Wv];show lA
 generalize hA.set h.length (.lst [dP<|mk1 w0,dP<|Z3 0])=hB at ap xB gB lB;simp[iE gA,ih xA,ap];rfl';rw[aD];let xC:Ext hB (hB++[MO.dK []]):=F_ _;let gC:(hB++[MO.dK []])[h.length+1]?=a_ (.dK []):=by rw[<-lB];show aE
 simp;rw[lB];generalize hB++[MO.dK []]=hC at xC gC;let Sm:=xB.trans xC;let pd:=Eo (z:=w0) (y:=.int 2) gC (by simp);let gD:(hC.set (h.length+1)<|.dK<|bJ [] (Wa w0)<|.int 2)[h.length+1]?=a_ (.dK<|emb [(w0,2)]):=aS gC;let xD:O_ (hC.set (h.length+1)<|.dK<|bJ [] (Wa w0)<|.int 2):=Sm.setN ⋯;let gR:(hC.set (h.length+1)<|.dK<|bJ [] (Wa w0)<|.int 2)[h.length]?=a_ (.lst<|(mk1 w0::Z3 0::[]).map dP):=aJ (xC _ _ gB) ⋯;generalize hC.set (h.length+1) (.dK<|bJ [] (Wa w0)<|.int 2)=hD at pd gD xD gR;simp[ih Sm,pd];rfl';rw[aD];refine oR (n:=lc) (xs:=cs.map PV.int) (h1:=hD) (DJ w0 lc lh h) (by simp) (xD _ _ gc) ⟨[],[(w0,2)],xD,gR,gD,⟨⟨(λ_ z=>nomatch z),List.nodup_nil⟩,⟨2,by simp[look],⋯⟩,λw=>?_,λ_ z=>nomatch z⟩,rfl,by simp,_,_,_,_,_,_,_,rfl⟩ ?_ ?_ ?_
 ·simp only[look];split
  ·change(0:Int)<=2
   omega
  ·show Int.le_refl _
 ·rintro q δ h' hq ⟨rest,D,x,_⟩;show x _ _ gc
 ·rintro q y δ h' hy ⟨rest,D,x,g,gm,dn,lr,lD,x4,x5,x6,x7,x8,x9,di,rfl⟩;let hq:q<cs.length:=by have:=(SC.mp hy).1;simpa using this
  rw[Vf]at hy;let⟨c,hc,rfl⟩:=Vn.mp hy;refine⟨_,rfl,?_⟩;rw[show rW=aG (aP 5<|bO 2 mQ<|aA (mV 4)<|aA (q_ 9) aC) (aG (aP 6<|k_ (mV 1)<|aB dB (k_ (mV 5)<|q_ 0)<|mCB mE<|aA (mV 1) aC)<|aG (aP 7<|pA (k_ (mV 1)<|q_ 0)<|ZC (q_ 2)<|aB dB (k_ (mV 5)<|q_ 5)<|aB rF (k_ (mV 3)<|k_ (mV 1)<|q_ 0)<|q_ 1)<|aG (fF (vM<|aA (q_ 1)<|aA (mCB mE<|aA (mV 1) aC) aC) (gN 8) jY) dE) from rfl]
  rw[aD];simp;refine A2 c 9 ⋯ h' _ λxs lx hS xS gx ot bx=>?_
  try simp
  let xx:=x.trans xS;let ti:=xx _ _ gh;let S8:=(SC.mp gx).1;let i0:vIx (.ref lx) (.int 0) hS=.ok (.int xs[0]) hS:=by
   have:=sE (xs:=xs) (i:=0) ⋯;rw[cO gx,show atI (Z1 0) 0=a_ (.int xs[0]) from this]
   rfl
  let b0:=bx xs[0]<|V5 _;generalize xs[0]=v0 at i0 b0;let⟨w,ew,hw⟩:=IS (hs:=w0::hs) (by simp) v0;let ep:vIx (.ref lh) (.int<|v0%((w0::hs).length:Int)) hS=.ok (.str w) hS:=by rw[cO ti,ew];rfl
  let ll:mE [.ref lh] hS=.ok (.int ((w0::hs).length:Int)) hS:=by
   have:=vP ti
   rwa[U2]at this
  let ya:(0:Int)<((w0::hs).length:Int):=by rw[VI];omega
  rfl';rw[aD];generalize ((w0::hs).length:Int)=lw at ep ll ya;simp(disch:=omega) [i0,ll,ep];rfl';rw[aD];let xT:Ext hS (hS++[MO.dK []]):=F_ _;let gT:(hS++[MO.dK []])[hS.length]?=a_ (.dK []):=aE;let bS:=xx.len;let bm:=(SC.mp<|xS _ _ gm).1;simp;generalize n9:hS.length=ls at gT S8 bS bm;generalize hS++[MO.dK []]=hT at xT gT;let⟨n0,UO,n02⟩:=dn.h0;let i5:vIx (.ref lx) (.int 5) hT=.ok (.int xs[5]) hT:=by
   have:=sE (xs:=xs) (i:=5) ⋯;rw[cO<|xT _ _ gx,show atI (Z1 0) 5=a_ (.int xs[5]) from this]
   rfl
  let b5:=bx xs[5]<|V5 _;generalize xs[5]=v5 at i5 b5;let im:=IR ((xS.trans xT) _ _ gm) UO;let m5:=YI v5 (b:=n0-1) ⋯;let pd:=Eo (z:=w0) (y:=.int<|2+v5%(n0-1)) gT (by simp);let gE:(hT.set ls<|.dK<|bJ [] (Wa w0)<|.int<|2+v5%(n0-1))[ls]?=a_ (.dK<|emb [(w0,2+v5%(n0-1))]):=aS gT;let fr:∀i o,i≠ls->hT[i]?=a_ o->(hT.set ls<|.dK<|bJ [] (Wa w0)<|.int<|2+v5%(n0-1))[i]?=a_ o:=λi o hi e=>aJ e<|Wu hi;generalize hT.set ls (.dK<|bJ [] (Wa w0)<|.int<|2+v5%(n0-1))=hU at pd gE fr;simp(disch:=omega) [ih<|xx.trans xT,i5,im,pd];rfl';rw[aD];let wt:=xS.trans xT;let zf:=fr _ _ ⋯ (xT _ _ gx);let Io:=fr _ _ ⋯ (xT _ _ ti);let SH:=fr _ _ ⋯ (wt _ _ gm);let gU:=fr _ _ ⋯ (wt _ _ g);refine L5 kj lhs dn.nn ot bx ⋯ zf Io SH gE ⋯ ⋯ ⋯ λE x8' hV se pf gV=>?_;rfl';let xV:O_ hV:=λi o e=>pf i o (by have:=(SC.mp e).1;omega) (fr i o (by have:=(SC.mp e).1;omega)<|(x.trans wt) _ _ e);let bxh:h.length+1<lx\/lx<h.length\/lx=h.length\/lx=h.length+1:=⋯
  let To:lx≠h.length+1:=λz=>by rw[z,xS _ _ gm]at gx;cases gx
  show Q9 lhs kj hw ot ⋯ xV (pf _ _ ⋯ gU) (pf _ _ ⋯ SH) dn lr ⋯ lD (pf _ _ ⋯ zf) (pf _ _ ⋯ Io) gV ⋯ To ⋯ ⋯ ⋯ se λ_ _ z=>z
 ·rintro δ h' ⟨rest,D,x,g,gm,dn,lr,lD,x4,x5,x6,x7,x8,x9,di,rfl⟩;rw[U2]at lr;rfl';simp;show k rest _ h' x g dn.r lr
abbrev d1(one:Seen):Seen:=one.foldl (λacc p=>dput acc p.1 p.2) []
def Cd:∀{S:Seen}{h:Str},(∀q∈S,q.1≠h)->look S h=b_
 |[],_,_=>rfl
 |p::r,h,n=>by rw[sC,if_neg<|n p UV];show Cd λq hq=>n q (U4 _ hq)
def EG:∀(one:Seen)(acc:Seen),(one.map (·.1)).Nodup->∀h,look (one.foldl (λacc p=>dput acc p.1 p.2) acc) h=(look one h).or (look acc h)
 |[],acc,_,h=>by simp[look]
 |p::r,acc,hn,h=>by
  rw[Vd,Wh]at hn;rw[List.foldl_cons,EG r _ hn.2,dS]
  change _=(look (p::r) h).or _
  rw[sC];by_cases e:p.1=h
  ·have:look r h=b_:=Cd λq hq z=>hn.1 (by rw[e,<-z];show Vl.mpr ⟨q,hq,rfl⟩);rw[if_pos e.symm,Z5 0,this];rfl
  ·rw[if_neg λz=>e z.symm,Zp 0]
def A4:∀S:Seen,mH (S.map λp=>PV.tup [.str p.1,.int p.2])=a_ (emb S)
 |[]=>rfl
 |p::r=>by rw[Vd];unfold mH;rw[A4 r];rfl
def A5:∀(S acc:Seen),rP (emb acc) (emb S)=emb (S.foldl (λacc p=>dput acc p.1 p.2) acc)
 |[],_=>rfl
 |p::r,acc=>by
  change rP (bJ (emb acc) (.inr p.1)<|.int p.2) (emb r)=_
  rw[qP,A5 r];rfl
variable{nm:Nm}
def NM{d:Dd}(nS:(d.seen.map (·.1)).Nodup)(h1:1<=nm.2)(h:PH):∃h',zZ [dP d,pv nm] h=.ok (.bl<|ZJ nm) h'/\O_ h':=by
 let w:(zZ [dP d,pv nm] h).W λq h'=>q=.bl (ZJ nm)/\O_ h':=by
  refine bG ?_;unfold Ig;let m0:rP [] (emb d.seen)=emb (d1 d.seen):=A5 d.seen [];let v0:qH [ZN 0] h=.ok (.ref h.length) (h++[.dK<|emb<|d1 d.seen]):=by have:qH [ZN 0] h=qH [ZN 0] h:=rfl;rw[this,<-m0];show BI<|A4 d.seen
  let lk:∀x,look (d1 d.seen) x=look d.seen x:=λx=>by unfold d1;rw[EG d.seen _ nS];simp[look]
  let x1:O_ (h++[MO.dK<|emb<|d1 d.seen]):=F_ _;let g1:(h++[MO.dK<|emb<|d1 d.seen])[h.length]?=a_ (.dK<|emb<|d1 d.seen):=aE;let gt:=qJ (x:=nm.1) (z:=.int 0) g1;rw[gJ,lk]at gt;let eg:((look d.seen nm.1).map PV.int).getD (.int 0)=.int ((look d.seen nm.1).getD 0):=by cases look d.seen nm.1 <;> rfl
  rw[eg]at gt;let ev:ZJ nm=decide (nm.2<=(look d.seen nm.1).getD 0):=by
   unfold cvB;cases look d.seen nm.1 with
   |none=>simp;omega
   |some m=>rfl
  generalize h.length=ln at v0 g1 gt;generalize h++[MO.dK<|emb<|d1 d.seen]=hA at v0 x1 g1 gt;simp[dP1,v0,mI g1,pv0,pv1,gt,ev];show x1
 let⟨q,h',e,rfl,x⟩:=fX w;show⟨h',e,x⟩
def AX(hx:x.pl 40=true):∀n,eqF n x x h=a_ true
 |0=>by unfold eqF;rw[Ar hx hx];simp
 |n+1=>by unfold eqF;rw[Ar hx hx];simp
variable{a b:Nat}
def EH(g1:h[a]?=a_ (.lst xs))(g2:h[b]?=a_ (.lst xs))(hx:xs.all (PV.pl 39)=true):∀n,eqF n (.ref a) (.ref b) h=a_ true
 |0=>by unfold eqF;rw[vQ g1 g2 hx hx];simp
 |n+1=>by unfold eqF;rw[vQ g1 g2 hx hx];simp
def IU(e:eqF n (.ref a) (.ref b) h=a_ true):eqF (n+1) (.tup [.str z,.ref a]) (.tup [.str z,.ref b]) h=a_ true:=by
 unfold eqF;let n2:iI (.tup [.str z,.ref a]) (.tup [.str z,.ref b]) h=b_:=by unfold iI;simp[PV.d,PV.ds,dM]
 let e1:eqF n (.str z) (.str z) h=a_ true:=AX rfl n;rw[n2];simp[eqL,e,e1]
def L6{p:Nm}(e:eqF n (T2v a) (T2v b) h=a_ true):eqF (n+1) (.tup [.str z,pv p,T2v a]) (.tup [.str z,pv p,T2v b]) h=a_ true:=by
 unfold eqF;let n2:iI (.tup [.str z,pv p,T2v a]) (.tup [.str z,pv p,T2v b]) h=b_:=by unfold iI T2v;simp[PV.d,PV.ds,dM]
 let e1:eqF n (.str z) (.str z) h=a_ true:=AX rfl n;let e2:eqF n (pv p) (pv p) h=a_ true:=AX rfl n;rw[n2];simp[eqL,e,e1,e2]
def NN{t:Nat}(g1:h[a]?=a_ (.lst<|rw6 w0 v s))(g2:h[b]?=a_ (.lst<|rw6 w0 v t))(e:eqF (n+1) (T2v s) (T2v t) h=a_ true):eqF (n+3) (.ref a) (.ref b) h=a_ true:=by
 let q1:dM (.ref a) h=a_ (rw6 w0 v s):=by simp[dM,aM,g1]
 let q2:dM (.ref b) h=a_ (rw6 w0 v t):=by simp[dM,aM,g2]
 let q3:PV.ds (rw6 w0 v s)=b_:=by simp[rw6,T2v,PV.ds,PV.d]
 let n2:iI (.ref a) (.ref b) h=b_:=by unfold iI;simp only[PV.d,q1,q2,q3]
 unfold eqF;rw[n2];simp only[q1,q2];let e1:=L6 (z:="one") (p:=(w0,2)) e;let e2:eqF (n+2) (.tup [.str "sum",pv (w0,1),T1v v]) (.tup [.str "sum",pv (w0,1),T1v v]) h=a_ true:=AX rfl _;unfold rw6;simp[eqL,e1,e2]
variable{N:Z8 0}
def IV{t:Nat}(g1:h[a]?=a_ (.lst<|rw6 w0 v s))(g2:h[b]?=a_ (.lst<|rw6 w0 v t))(g3:h[s]?=a_ (.lst<|N.map PV.int))(g4:h[t]?=a_ (.lst<|N.map PV.int)):FY (.tup [.str "map",.ref a]) (.tup [.str "map",.ref b]) h=.ok (.bl true) h:=by
 let al:(N.map PV.int).all (PV.pl 39)=true:=by rw[Vs];intro y hy;let⟨t,_,rfl⟩:=Vl.mp hy;rfl
 let e1:=EH g3 g4 al 2;let e2:eqF 3 (T2v s) (T2v t) h=a_ true:=IU e1;let e3:eqF 5 (.ref a) (.ref b) h=a_ true:=NN g1 g2 e2;let e4:eqF 6 (.tup [.str "map",.ref a]) (.tup [.str "map",.ref b]) h=a_ true:=IU e3;unfold FY;rw[e4];rfl
def Qa(S:Seen):(sv S).pl 38=true:=by
 change(S.map _).all (PV.pl 37)=true
 rw[Vs];intro y hy;let⟨t,_,rfl⟩:=Vl.mp hy;rfl
def Lu{ds:B_ Dd}(w:∀d∈ds,Wf d):(ZX 0).all (PV.pl 39)=true:=by
 rw[Vs];intro y hy;let⟨d,hd,rfl⟩:=Vl.mp hy;let hp:(PV.tup d.act).pl 38=true:=(w d hd).pl
 show[pv d.nm,ZN 0,.tup d.act].all (PV.pl 38)=true
 let h1:(pv d.nm).pl 38=true:=rfl;simp[h1,Qa,hp]
variable{tst:Ev->PH->ZI 0}
def L7{α:Type}{ys:B_ α}{emb:α->PV}(p:α->Bool)(e:mi δ h=.ok ⟨ys.map emb,g⟩ h1)(hg:∀h,Ext h1 h->g h=true)(hz:ys.length<=16777216)(step:∀y∈ys,∃δ1,tg (emb y) (cQ js δ)=a_ δ1/\∀h,Ext h1 h->(∃h',tst δ1 h=.ok (p y) h'/\O_ h')/\∀h,elt δ1 h=.ok (emb y) h)(k:∀l h',Ext h1 h'->h'[l]?=a_ (.lst<|(ys.filter p).map emb)->Q (.ref l) h'):(aW js mi tg tst elt δ h).W Q:=by
 unfold aW;rw[e,Rs.bind_ok];refine uB (λi h'=>Ext h1 h'/\h'[h1.length]?=a_ (.lst<|((ys.take i).filter p).map emb)) (ys.map emb) 0 _ ⟨F_ _,by simp⟩ (λi x h' _ hx hi=>?_)<|λh' hi=>?_
 ·let⟨x1,g1⟩:=hi;let hx:(ys.map emb)[i]?=a_ x:=by simpa using hx
  rw[Vf]at hx;let⟨y,hy,rfl⟩:=Vn.mp hx;let⟨δ1,ht,hs⟩:=step y<|VE hy;let⟨⟨h2,e2,x2⟩,e3⟩:=hs h' x1;let et:ys.take (i+1)=ys.take i++[y]:=by rw[WS,hy];rfl
  refine⟨hg _ x1,δ1,ht,?_⟩;rw[e2,vO];let ll:((ys.take i).filter p).length<=ys.length:=by have:=W5 p<|ys.take i;rw[VT]at this;omega
  cases hp:p y with
  |true=>
   rw[YS 0,e3,vO];refine⟨_,x2 _ _ g1,?_,(x1.trans x2).setN<|U1 _,?_⟩
   ·let hi:=(SC.mp hy).1;have:=W5 p<|ys.take i;rw[VT]at this;rw[U2];omega
   ·rw[et,List.filter_append,VP,show[y].filter p=[y] by simp[hp]];show aS<|x2 _ _ g1
  |false=>rw[if_neg Ve];refine⟨x1.trans x2,?_⟩;rw[et,List.filter_append,show[y].filter p=[] by simp[hp],WZ];show x2 _ _ g1
 ·let⟨x1,g1⟩:=hi;refine⟨hg _ x1,k _ _ x1 ?_⟩;rw[U2,Nat.zero_add,Xo]at g1;show g1
def Lv{α β:Type}(p:α->Bool)(g:α->β)(xs:B_ α):xs.filterMap (λd=>if p d=true then a_ (g d) else b_)=(xs.filter p).map g:=by
 induction xs with
 |nil=>rfl
 |cons x r ih=>
  rw[V1,V6];cases p x with
  |true=>simp[ih]
  |false=>simp[ih]
abbrev f2(w0:Str)(f:Dd->A6)(d:Dd):A6:=if d.nm=(w0,1)\/d.nm=(w0,2) then .oth else f d
abbrev D7(w0:Str)(d:Dd):A6->Prop
 |.add v=>d.act=[.str "add",pv (w0,1),.int v]
 |.cho v=>d.act=[.str "choose",pv (w0,2),.int v]
 |.oth=>∃z r,d.act=.str z::r/\z≠"add" /\ z≠"choose"
def NO{R:B_ Dd}(r:R6 w0 R):∀d∈R,f2 w0 f d=f d:=λd hd=>by
 refine if_neg ?_;have:=(r.ok d hd).h0;rintro(e|e)
 ·rw[e]at this;have:=this rfl;dsimp only at this;omega
 ·rw[e]at this;have:=this rfl;dsimp only at this;omega
def Qb{R:B_ Dd}(r:R6 w0 R)(hf:∀d∈R,D6 w0 d<|f d):∀d∈mk1 w0::Z3 0::R,D7 w0 d (f2 w0 f d):=λd hd=>by
 rcases U5.mp hd with rfl|hd
 ·rw[show f2 w0 f (mk1 w0)=.oth from if_pos (.inl rfl)]
  show⟨_,_,rfl,by decide +kernel,by decide +kernel⟩
 ·rcases U5.mp hd with rfl|hd
  ·rw[show f2 w0 f (Z3 0)=.oth from if_pos (.inr rfl)]
   show⟨_,_,rfl,by decide +kernel,by decide +kernel⟩
  ·rw[NO r d hd];let h1:=hf d hd;cases e:f d with
   |add v=>rw[e]at h1;show h1
   |cho v=>rw[e]at h1;show h1
   |oth=>
    rw[e]at h1;let h2:=(r.ok d hd).wf.act;let h1:d.kd≠.other:=h1;cases ek:d.kd with
    |other=>exact(h1 ek).elim
    |settle=>rw[ek]at h2;show⟨_,_,h2,by decide +kernel,by decide +kernel⟩
    |back a b=>rw[ek]at h2;show⟨_,_,h2,by decide +kernel,by decide +kernel⟩
def EI{R:B_ Dd}(r:R6 w0 R)(p:A6->Bool)(hp:p .oth=false):(mk1 w0::Z3 0::R).filter (λd=>p<|f2 w0 f d)=R.filter λd=>p (f d):=by let e1:f2 w0 f (mk1 w0)=.oth:=if_pos<|.inl rfl;let e2:f2 w0 f (Z3 0)=.oth:=if_pos<|.inr rfl;rw[V6,V6,e1,e2,hp];simp only[VL,if_false];show List.filter_congr λd hd=>by rw[NO r d hd]
def Qc{α:Type}{xs:B_ α}{q:Nat}(h:q<xs.length):eL xs (a_<|(q:Int)+1) b_=xs.drop (q+1):=by
 unfold eL HT.sIx;have:¬ ((q:Int)+1<0):=⋯;simp[this];let e1:((q:Int)+1).toNat=q+1:=⋯;let e2:min (q+1) xs.length=q+1:=⋯
 try simp[e1,e2]
 rw[Xm<|by simp]
def Qd:¬ (Vh "choose")=Vh "add" /\ ¬ (Vh "add")=Vh "choose" := by decide +kernel
variable{C:B_ Dd}{x0 x1 x4:C_ PV}
def IW(n6:∀d∈C,Ok6 w0 d/\d.act=[.str "choose",pv (w0,2),.int<|vC<|f d])(ln:C.length<=63){l6 q:Nat}{S:Z8 0}(x:Ext h0 h)(g6:h0[l6]?=a_ (.lst<|C.map dP))(g7:h[h0.length]?=a_ (.lst<|S.map PV.int))(lS:S.length<=q){c:Dd}(hc:C[q]?=a_ c){x2 x5 n8 oe:C_ PV}(k:∀h',Ext h0 h'->h'[h0.length]?=a_ (.lst<|(S++if((C.drop<|q+1).all λe=>!Zd 0)=true then[vC<|f c] else[]).map PV.int)->E.nx [x0,x1,x2,x3,x4,x5,c_ l6,q0i 0,d_ q,x9,di,n8,oe] h'):
  (qO [x0,x1,x2,x3,x4,x5,c_ l6,q0i 0,d_ q,x9,di,n8,oe] h).W E:=by
 let hq:q<C.length:=(SC.mp hc).1;let UQ:c∈C:=VE hc;let⟨ok,ac⟩:=n6 c UQ;let ic:∀{h'},Ext h0 h'->vIx (.ref l6) (.int (q:Int)) h'=.ok (dP c) h':=λx=>by rw[cO<|x _ _ g6,show atI (C.map dP) (q:Int)=a_ (dP c) from kH (i:=q) (by rw[Vf,hc];rfl)];rfl
 let SR:=x _ _ g6;let es:=uA (lo:=a_<|(q:Int)+1) (hi:=b_) SR;rw[Ea,Qc hq]at es;let gs:(h++[MO.lst<|(C.drop<|q+1).map dP])[h.length]?=a_ (.lst<|(C.drop<|q+1).map dP):=aE;let xs:O_ (h++[MO.lst<|(C.drop<|q+1).map dP]):=F_ _;generalize h.length=ls at es gs;generalize h++[MO.lst<|(C.drop<|q+1).map dP]=hs at es gs xs;letI δ:Ev:=[x0,x1,x2,x3,x4,x5,c_ l6,q0i 0,d_ q,x9,di,n8,oe];let em:mSl (mV 6) (mP<|ZC (mV 8)<|q_ 1) iJ [x0,x1,x2,x3,x4,x5,c_ l6,q0i 0,d_ q,x9,di,n8,oe] h=.ok (.ref ls) hs:=by simp[es]
 let⟨_,hA,eA,lA,rfl,xA,gA⟩:=fX (L7 (js:=[b_,a_ 6,a_ 8]) (mi:=aY (mSl (mV 6) (mP (ZC (mV 8) (q_ 1))) iJ)) (tg:=gN 0) (tst:=aT (bO 2 zZ (aA (mV 0) (aA (k_ (k_ (mV 1) (mV 2)) (q_ 0)) aC)))) (elt:=mV 0) (δ:=[x0,x1,x2,x3,x4,x5,c_ l6,q0i 0,d_ q,x9,di,n8,oe]) (h:=h) (h1:=hs) (ys:=C.drop (q+1)) (emb:=dP) (Q:=λv h'=>∃l,v=.ref l/\Ext hs h'/\h'[l]?=a_ (.lst (((C.drop (q+1)).filter λe=>Zd 0).map dP))) (λe=>Zd 0) (vS em gs) (vT gs) (by rw[Yu];omega)
  (λe he=>⟨[a_<|dP e,c_ l6,d_ q],by simp[cQ],λh3 x3=>by let⟨h4,e4,x4⟩:=NM (n6 e<|List.mem_of_mem_drop he).1.sn ok.nm h3;refine⟨⟨h4,?_,x4⟩,λ_=>by simp⟩;simp[ic<|(x.trans xs).trans x3,dP0,e4]⟩)
  λl h' x g=>⟨l,rfl,x,g⟩)
 unfold qO;rw[bV];let xB:Ext hA (hA++[MO.lst []]):=F_ _;let gB:(hA++[MO.lst []])[hA.length]?=a_ (.lst []):=aE;let UU:∀d∈(C.drop<|q+1).filter λe=>Zd 0,Wf d:=λd hd=>(n6 d<|List.mem_of_mem_drop (V2.mp hd).1).1.wf;let eq:=K4 (xB _ _ gA) gB (Lu UU) rfl;let ed:decide (((C.drop<|q+1).filter λe=>Zd 0).map dP=[])=((C.drop<|q+1).all λe=>!Zd 0):=by rw[WE,decide_eq_true_iff,List.map_eq_nil_iff,List.filter_eq_nil_iff,Vs];refine forall_congr' λe=>forall_congr' λ_=>?_;cases cvB e.seen c.nm <;> simp
 rw[ed]at eq;let xx:O_ (hA++[MO.lst []]):=(xs.trans xA).trans xB;let Sl:Zl (aW [b_,a_ 6,a_ 8] (aY<|mSl (mV 6) (mP<|ZC (mV 8)<|q_ 1) iJ) (gN 0) (aT<|bO 2 zZ<|aA (mV 0)<|aA (k_ (k_ (mV 1)<|mV 2)<|q_ 0) aC)<|mV 0) (jG aC) [x0,x1,x2,x3,x4,x5,c_ l6,q0i 0,d_ q,x9,di,n8,oe] h=.ok (.bl<|(C.drop<|q+1).all λe=>!Zd 0) (hA++[MO.lst []]):=by rw[E9,eA];simp[eq]
 let uv:=x.trans xx;let qv:=xx _ _ g7;clear eq gB xB gA eA xA;generalize hA++[MO.lst []]=hB at Sl uv qv xx;rw[JX,Sl];cases hb:(C.drop<|q+1).all λe=>!Zd 0 with
 |false=>simp[hb];refine k _ uv ?_;rw[if_neg (by rw[hb];show Ve),WZ];show qv
 |true=>have ap:=dX (p:=.int<|vC<|f c) qv (by rw[U2];omega);simp[hb,iE qv,ic uv,dP2,ac,ap];refine k _ (uv.setN<|U1 _) ?_;rw[if_pos hb,VP];show aS qv
abbrev lE6:Ms:=
 (aG (aP 10 (mCB iK (aA (mV 9) aC)))
 (aG (aP 11 (bO 1 nP (aA (mV 9) aC)))
 (aG (aP 12 (aU (aA (mC (.str "one")) (aA (aU (aA (k_ (mV 2) (q_ 0)) (aA (q_ 2) aC))) (aA (aU (aA (mC (.str "choice")) (aA (mUn gG (mV 7)) aC))) aC)))))
 (aX (zJ (aB FY (mV 11) (aU (aA (mC (.str "map")) (aA (jG (aA (mV 12) (aA (aU (aA (mC (.str "sum")) (aA (aU (aA (k_ (mV 2) (q_ 0)) (aA (q_ 1) aC))) (aA (aU (aA (mC (.str "count")) (aA (mV 5) aC))) aC)))) aC))) aC)))) (aB FV (mV 9) (mV 10)))))))
def Ce(e:h[n]?=a_ (.lst xs)):iK [.ref n] h=.ok (.ref h.length) (h++[.lst xs]):=by simp[iK,aM,e]
def IX{ds R:B_ Dd}(nd:(ds.map (·.nm)).Nodup)(wf:∀d∈ds,Wf d)(m:∀d,d∈hl↔d∈ds)(lh:hl.length<=63)(fo:tJ ds (mk1 w0::Z3 0::R) F)(br:eZ (mk1 w0::Z3 0::R))(r:R6 w0 R)(ln:R.length<=50)(hf:∀d∈R,D6 w0 d<|f d){l7 l9:Nat}(g2:h[l2]?=a_ (.lst<|(w0::hs).map PV.str))(g7:h[l7]?=a_ (.lst (((bQ f R).2.map (·.2)).map PV.int)))(g9:h[l9]?=a_ (.lst<|hl.map dP)){x6:C_ PV}(k:∀h,E.rt (.bl true) h):(lE6 [x0,x1,c_ l2,x3,x4,a_<|.int (bQ f R).1,x6,c_ l7,x8,c_ l9,b_,b_,b_] h).W E:=by
 let ll:=wX f R;let ih:∀{h'},O_ h'->vIx (.ref l2) (.int 0) h'=.ok (.str w0) h':=λx=>by rw[cO<|x _ _ g2,show atI (List.map PV.str (w0::hs)) 0=a_ (.str w0) from kH (i:=0) (by simp)];rfl
 unfold lE6;rw[aD];let ev:=Ce g9;let xA:O_ (h++[MO.lst<|hl.map dP]):=F_ _;let gA:(h++[MO.lst<|hl.map dP])[h.length]?=a_ (.lst<|hl.map dP):=aE;generalize h.length=l10 at ev gA;generalize h++[MO.lst<|hl.map dP]=hA at ev xA gA;simp[ev];rfl';rw[aD];simp;refine DG nd wf m lh fo br r ln hf (xA _ _ g9) _ λla s hB xB gm gs=>?_
 try simp
 rfl';rw[aD];let uk:=xA.trans xB;let es:=xG (uk _ _ g7) (by rw[U2];omega);let xC:Ext hB (hB++[MO.lst ((sortI (ddI ((bQ f R).2.map (·.2)))).map PV.int)]):=F_ _;let gC:(hB++[MO.lst ((sortI (ddI ((bQ f R).2.map (·.2)))).map PV.int)])[hB.length]?=a_ (.lst ((sortI (ddI ((bQ f R).2.map (·.2)))).map PV.int)):=aE;generalize hB.length=lc at es gC;generalize hB++[MO.lst ((sortI (ddI ((bQ f R).2.map (·.2)))).map PV.int)]=hC at es xC gC;simp[ih uk,es];rfl';let xD:Ext hC (hC++[MO.lst<|rw6 w0 (bQ f R).1 lc]):=F_ _;let gD:(hC++[MO.lst<|rw6 w0 (bQ f R).1 lc])[hC.length]?=a_ (.lst<|rw6 w0 (bQ f R).1 lc):=aE;let eD:hC++[MO.lst [.tup [.str "one",.tup [.str w0,.int 2],.tup [.str "choice",.ref lc]],.tup [.str "sum",.tup [.str w0,.int 1],.tup [.str "count",.int (bQ f R).1]]]]=hC++[MO.lst<|rw6 w0 (bQ f R).1 lc]:=rfl;let e1:=IV ((xC.trans xD) _ _ gm) gD ((xC.trans xD) _ _ gs)<|xD _ _ gC;let e2:FV (.ref l9) (.ref l10) (hC++[MO.lst<|rw6 w0 (bQ f R).1 lc])=.ok (.bl true) (hC++[MO.lst<|rw6 w0 (bQ f R).1 lc]):=by unfold FV;rw[EH (((uk.trans xC).trans xD) _ _ g9) (((xB.trans xC).trans xD) _ _ gA)<|Lu λd hd=>wf d<|(m d).mp hd];rfl
 simp[ih<|uk.trans xC,eD,e1,e2];show k _
abbrev lM6:Ms:=
 (aG (aP 5 (mCB BA (aA (aW [b_] (aY (mV 4)) (gN 0) (aT (Zl (k_ (k_ (mV 0) (q_ 2)) (q_ 0)) (mC (.str "add")))) (k_ (k_ (mV 0) (q_ 2)) (q_ 2))) aC)))
 (aG (aP 6 (aW [b_] (aY (mV 4)) (gN 0) (aT (Zl (k_ (k_ (mV 0) (q_ 2)) (q_ 0)) (mC (.str "choose")))) (mV 0)))
 (aG (aP 7 (jG aC))
 (aG (fF (mF (aA (mCB mE (aA (mV 6) aC)) aC)) (gN 8) qO)
 (aG (aP 9 (mCB iK (aA (mV 3) aC)))
 (aG (cB (aT (Zl (aB dB (aB D2 (mV 1) (q_ 72)) (q_ 2)) (q_ 1)))
  (aP 9<|ZC (mUn tE<|mV 3)<|mSl (mV 3) iJ<|mP<|q_ 4)
  cJ)
 lE6))))))
def Qe{α:Type}{xs:B_ α}:eL xs b_ (a_ 4)=xs.take 4:=by
 unfold eL HT.sIx;simp
 try omega
abbrev G6(C:B_ Dd)(g:Dd->Int)(i:Nat):Z2 0:=match C[i]? with|some c=>if((C.drop<|i+1).all λe=>!Zd 0)=true then a_ (g c) else b_|none=>b_
def NP{ds R:B_ Dd}(nd:(ds.map (·.nm)).Nodup)(wf:∀d∈ds,Wf d)(ld:ds.length<=38)(fo:tJ ds (mk1 w0::Z3 0::R) F)(br:eZ (mk1 w0::Z3 0::R))(r:R6 w0 R)(ln:R.length<=38){l3 l4:Nat}{c:Int}(g2:h[l2]?=a_ (.lst<|(w0::hs).map PV.str))(g3:h[l3]?=a_ (.lst<|ZX 0))(g4:h[l4]?=a_ (.lst<|(mk1 w0::Z3 0::R).map dP))(k:∀h,E.rt (.bl true) h):(lM6 [x0,d_ c,c_ l2,c_ l3,c_ l4,b_,b_,b_,b_,b_,b_,b_,b_] h).W E:=by
 let⟨f,hf⟩:=Q4 r;let d7:=Qb r hf;let lo:(mk1 w0::Z3 0::R).length<=16777216:=by simp;omega
 unfold lM6;rw[aD];let c1:=dN (m:=mV 4) (js:=[b_]) (tg:=gN 0) (tst:=aT<|Zl (k_ (k_ (mV 0)<|q_ 2)<|q_ 0)<|mC<|.str "add") (elt:=k_ (k_ (mV 0)<|q_ 2)<|q_ 2) (δ:=[x0,d_ c,c_ l2,c_ l3,c_ l4,b_,b_,b_,b_,b_,b_,b_,b_]) (h:=h) (h1:=h) (n:=l4) (ys:=mk1 w0::Z3 0::R) (emb:=dP) (λd=>if isA (f2 w0 f d)=true then a_ (PV.int<|vC<|f2 w0 f d) else b_) (by simp) g4 lo
  (λd hd=>⟨[a_ (dP d)],by simp[cQ],λh3 _=>by
   have:=d7 d hd;cases e:f2 w0 f d with
   |add v=>rw[e]at this;let this:d.act=_:=this;simp[isA,vC,dP2,this]
   |cho v=>rw[e]at this;let this:d.act=_:=this;simp[isA,dP2,this,Qd.1]
   |oth=>rw[e]at this;let⟨z,rr,e1,n1,n2⟩:=this;simp[isA,dP2,e1,n1]⟩)
 rw[Lv (λd=>isA<|f2 w0 f d)<|λd=>PV.int<|vC<|f2 w0 f d,EI r isA rfl,Wj (g:=λd=>PV.int<|vC<|f d)<|λd hd=>by rw[NO r d (V2.mp hd).1]]at c1;let e0:List.map (λd=>PV.int<|vC<|f d) (R.filter λd=>isA<|f d)=(((R.filter λd=>isA<|f d).map λd=>vC<|f d)).map PV.int:=by rw[VF];rfl
 rw[e0]at c1;let xA:O_ (h++[MO.lst<|(((R.filter λd=>isA<|f d).map λd=>vC<|f d)).map PV.int]):=F_ _;let gA:(h++[MO.lst<|(((R.filter λd=>isA<|f d).map λd=>vC<|f d)).map PV.int])[h.length]?=a_ (.lst<|(((R.filter λd=>isA<|f d).map λd=>vC<|f d)).map PV.int):=aE;let es:=BB gA;rw[<-IE]at es;generalize h.length=lA at c1 es;generalize h++[MO.lst<|(((R.filter λd=>isA<|f d).map λd=>vC<|f d)).map PV.int]=hA at c1 xA es;simp[c1,es];rfl';rw[aD];let c2:=dN (m:=mV 4) (js:=[b_]) (tg:=gN 0) (tst:=aT<|Zl (k_ (k_ (mV 0)<|q_ 2)<|q_ 0)<|mC<|.str "choose") (elt:=mV 0) (δ:=[x0,d_ c,c_ l2,c_ l3,c_ l4,a_<|.int (bQ f R).1,b_,b_,b_,b_,b_,b_,b_]) (h:=hA) (h1:=hA) (n:=l4) (ys:=mk1 w0::Z3 0::R) (emb:=dP) (λd=>if isC (f2 w0 f d)=true then a_ (dP d) else b_) (by simp) (xA _ _ g4) lo
  (λd hd=>⟨[a_ (dP d)],by simp[cQ],λh3 _=>by
   have:=d7 d hd;cases e:f2 w0 f d with
   |add v=>rw[e]at this;let this:d.act=_:=this;simp[isC,dP2,this,Qd.2]
   |cho v=>rw[e]at this;let this:d.act=_:=this;simp[isC,dP2,this]
   |oth=>rw[e]at this;let⟨z,rr,e1,n1,n2⟩:=this;simp[isC,dP2,e1,n2]⟩)
 rw[Lv (λd=>isC<|f2 w0 f d) dP,EI r isC rfl]at c2;let sn:=Ca f R;let n6:∀d∈R.filter λd=>isC<|f d,Ok6 w0 d/\d.act=[.str "choose",pv (w0,2),.int<|vC<|f d]:=λd hd=>by
  let⟨h1,h2⟩:=V2.mp hd;refine⟨r.ok d h1,?_⟩;let h3:=hf d h1;cases e:f d with
  |add v=>rw[e]at h2;cases h2
  |oth=>rw[e]at h2;cases h2
  |cho v=>rw[e]at h3;show h3
 let lC:(R.filter λd=>isC<|f d).length<=63:=by have:=W5 (λd=>isC<|f d) R;omega
 generalize (R.filter λd=>isC<|f d)=C at c2 sn n6 lC;let xB:Ext hA (hA++[MO.lst<|C.map dP]):=F_ _;let gB:(hA++[MO.lst<|C.map dP])[hA.length]?=a_ (.lst<|C.map dP):=aE;generalize hA.length=l6 at c2 gB;generalize hA++[MO.lst<|C.map dP]=hB at c2 xB gB;simp[c2];rfl';rw[aD];simp;let gC:(hB++[MO.lst []])[hB.length]?=a_ (.lst<|(((Vi 0).filterMap<|G6 C λd=>vC<|f d)).map PV.int):=aE;let xC:Ext hB (hB++[MO.lst []]):=F_ _;generalize hB++[MO.lst []]=hC at gC xC;rfl';rw[aD];let xl:=vP<|xC _ _ gB;rw[U2]at xl;refine Hr (j:=(C.length:Int)) (λq δ h'=>Ext hB h'/\h'[hB.length]?=a_ (.lst<|(((Vi q).filterMap<|G6 C λd=>vC<|f d)).map PV.int)/\∃x8,δ=[x0,d_ c,c_ l2,c_ l3,c_ l4,a_<|.int (bQ f R).1,c_ l6,c_ hB.length,x8,b_,b_,b_,b_]) ?_ ⋯ ⟨xC,gC,_,rfl⟩ ?_ ?_
 ·simp[xl]
 ·rintro q δ h' hq ⟨x,g,x8,rfl⟩;let fu:q<C.length:=⋯;refine IW n6 lC x gB g (VO (List.length_filterMap_le _ _)<|by simp) (VH fu) λh2 x2 g2=>⟨x2,?_,_,rfl⟩;rw[List.range_succ,List.filterMap_append];have:List.filterMap (G6 C λd=>vC<|f d) [q]=if((C.drop<|q+1).all λe=>!cvB e.seen C[q].nm)=true then[vC<|f C[q]] else[]:=by
   rw[V1,List.filterMap_nil];unfold G6;rw[VH fu];dsimp only;by_cases hb:((C.drop<|q+1).all λe=>!cvB e.seen C[q].nm)=true
   ·rw[if_pos hb,if_pos hb]
   ·rw[if_neg hb,if_neg hb]
  rw[this];show g2
 ·rintro δ h' ⟨x,g,x8,rfl⟩;rfl';let sr:(Vi C.length).filterMap (G6 C λd=>vC<|f d)=(sel C).map λd=>vC (f d):=Ey _ C;let eN:(sel C).map (λd=>vC<|f d)=(bQ f R).2.map (·.2):=by rw[sn,VF];rfl
  rw[Xh,sr,eN]at g;let xh:=(xA.trans xB).trans x;let g2:=xh _ _ g2;let g3:=xh _ _ g3;generalize hB.length=l7 at g;clear c1 c2 xl gA gB gC;rw[aD];let ev:=Ce g3;let x9:Ext h' (h'++[MO.lst<|ZX 0]):=F_ _;let g9:(h'++[MO.lst<|ZX 0])[h'.length]?=a_ (.lst<|ZX 0):=aE;generalize h'.length=l9 at ev g9;generalize h'++[MO.lst<|ZX 0]=hF at ev x9 g9;simp[ev];let g7:=x9 _ _ g;let gh:=x9 _ _ g2;let gd:=x9 _ _ g3;rfl';rw[aD,bV];by_cases cc:c/72%2=1
  ·let e1:=FM gd;let g5:(hF++[MO.lst (ZX 0).reverse])[hF.length]?=a_ (.lst (ZX 0).reverse):=aE;let x5:Ext hF (hF++[MO.lst (ZX 0).reverse]):=F_ _;generalize hF.length=l5 at e1 g5;generalize hF++[MO.lst (ZX 0).reverse]=hG at e1 g5 x5;let e2:=uA (lo:=b_) (hi:=a_ 4)<|x5 _ _ gd;rw[Qe]at e2;let g6:(hG++[MO.lst<|(ZX 0).take 4])[hG.length]?=a_ (.lst<|(ZX 0).take 4):=aE;let x6:Ext hG (hG++[MO.lst<|(ZX 0).take 4]):=F_ _;generalize hG.length=l6 at e2 g6;generalize hG++[MO.lst<|(ZX 0).take 4]=hH at e2 g6 x6;let e3:=zV (x6 _ _ g5) g6 (by simp;omega);let ee:(ZX 0).reverse++(ZX 0).take 4=(ds.reverse++ds.take 4).map dP:=by rw[VP,List.map_reverse,YJ]
   rw[ee]at e3;let mm:∀d,d∈ds.reverse++ds.take 4↔d∈ds:=λd=>by rw[Vx,List.mem_reverse];show⟨λz=>z.elim id List.mem_of_mem_take,.inl⟩
   let ll:(ds.reverse++ds.take 4).length<=63:=by simp;omega
   generalize ds.reverse++ds.take 4=cj at e3 mm ll;let w6:(hH++[MO.lst<|cj.map dP])[hH.length]?=a_ (.lst<|cj.map dP):=aE;let x7:=(x5.trans x6).trans<|Ext.app hH [MO.lst<|cj.map dP];generalize hH.length=l10 at e3 w6;generalize hH++[MO.lst<|cj.map dP]=hI at e3 w6 x7;simp(disch:=omega) [cc,e1,e2,e3];show now<|IX nd wf mm ll fo br r ⋯ hf (x7 _ _ gh) (x7 _ _ g7) w6 k
  ·simp(disch:=omega) [cc];show now<|IX nd wf (λ_=>Iff.rfl) ⋯ fo br r ⋯ hf gh g7 g9 k
def main(ns:Z8 0)(hl:ns.length<=63):∃h,Ii [.fl<|Zv 0] []=.ok (.bl true) h:=by
 let w:(Ii [.fl<|Zv 0] []).W λp _=>p=.bl true:=by
  refine bG ?_;unfold Ih;rw[aD];let c0:=KA ns 0;simp only[Int.cast_ofNat_Int]at c0;simp(disch:=omega) [c0];generalize cell ns 0=c at c0;obtain⟨m,em⟩:∃m:Nat,2+c/24%3=(m:Int):=⟨(2+c/24%3).toNat,⋯⟩;let hm:2<=m/\m<=4:=⋯;rfl';rw[aD];simp(disch:=omega) [em];refine IB c m ⋯ _ _ λhs lh hA gh lhs kj=>?_
  try simp
  obtain⟨w0,hs,rfl⟩:∃a r,hs=a::r:=by
   cases hs with
   |nil=>simp at lhs;omega
   |cons a r=>exact⟨a,r,rfl⟩
  rw[VI]at lhs;rfl';rw[aD];simp[Ea];let gc:(hA++[MO.lst<|(eL ns (a_ 1)<|a_ 37).map PV.int])[hA.length]?=a_ (.lst<|(eL ns (a_ 1)<|a_ 37).map PV.int):=aE;let xC:Ext hA (hA++[MO.lst<|(eL ns (a_ 1)<|a_ 37).map PV.int]):=F_ _;let qg:(eL ns (a_ 1)<|a_ 37).length<=36:=by simp[eL,HT.sIx];omega
  generalize hA.length=lc at gc;generalize hA++[MO.lst<|(eL ns (a_ 1)<|a_ 37).map PV.int]=hC at gc xC;generalize eL ns (a_ 1) (a_ 37)=cs at gc qg;refine IT cs qg w0 hs ⋯ kj lc lh hC gc (xC _ _ gh) _ λrest ld hE xE ge r lr=>?_
  try simp
  let nd:=r.all_nd;let wf:=r.all_wf;let TJ:(mk1 w0::Z3 0::rest).length<=38:=by simp;omega
  rfl';rw[aD];simp;refine tK (mk1 w0::Z3 0::rest) wf ⋯ (nR nd) ld hE ge _ λout F l4 hF xF g4 fo br=>?_
  try simp
  let⟨R,rfl,hR,r2⟩:=IC r (λ_=>Iff.rfl) fo br;let lR:R.length<=38:=by let n1:R.Nodup:=(VZ.mp r2.nd).imp λh e=>h (by rw[e]);have:=XZ (l₁:=R) (l₂:=rest) n1 λ_ z=>hR _ z;omega
  rfl';show NP nd wf TJ fo br r2 lR (xF _ _<|xE _ _<|xC _ _ gh) (xF _ _ ge) g4 λ_=>rfl
 let⟨p,h,e,rfl⟩:=fX w;show⟨h,e⟩
abbrev top(i:Nat):A_:=PySem.Challenge.pw_copymeet_k66_sums_and_choices_of_deeds.main.body.getD i<|.Pass ⟨0,0,0,0⟩
@[reducible]def bsL:Zf 0:=["len","range","max","sorted","tuple","sum","dict","set","reversed","list","str","isinstance"]
@[reducible]def cC(w:x_)(K:UF)(cl:Str->C_ t_):MC:=⟨K,cl,bsL,λ_ _ _=>False,w⟩
@[reducible]def clF(cp ba dh ax:t_):Str->C_ t_:=λz=>if z=("Count" : Str) then a_ cp else if z=("Choice" : Str) then a_ ba else if z=("Tree" : Str) then a_ dh else if z=("Folding" : Str) then a_ ax else b_
def clI{p:t_->Prop}{cp ba dh ax a:t_}{c:Str}(hc:clF cp ba dh ax c=a_ a)(jr:p cp)(iy:p ba)(m4:p dh)(ib:p ax):p a:=by
 dsimp only[clF]at hc;split at hc
 ·cases hc
  show jr
 split at hc
 ·cases hc
  show iy
 split at hc
 ·cases hc
  show m4
 split at hc
 ·cases hc
  show ib
 cases hc
@[reducible]def fL:Zf 0:=["failed","leaves","made","standing","total","tree"]
abbrev NfX(K:UF)(A:t_):Zf 0->Prop
 |[]=>True
 |f::r=>V7 K (.ref A) f=a_ b_/\NfX K A r
def NfX.at{K:UF}{A:t_}{f:Str}:∀{l:Zf 0},NfX K A l->f∈l->V7 K (.ref A) f=a_ b_
 |_::_,h,.head _=>h.1
 |_::_,h,.tail _ m=>NfX.at h.2 m
def anE{a b c:Prop}(h:a/\b)(f:a->b->c):c:=f h.1 h.2
abbrev tgN:z_->Zf 0
 |.Name x _=>[x]
 |.Tuple es _ _=>es.flatMap λe=>match e with
  |.Name x _=>[x]
  |.Tuple gs _ _=>gs.flatMap λe=>match e with
   |.Name x _=>[x]
   |_=>[]
  |_=>[]
 |_=>[]
abbrev mkN(o:Zf 0):B_ (C_ Nat)->Zf 0->Zf 0
 |some j::r,xs=>o.getD j "" :: mkN o r xs
 |none::r,x::xs=>x::mkN o r xs
 |_,_=>[]
abbrev ndB:Zf 0->Bool
 |[]=>true
 |x::r=>r.all (λy=>!decide (x=y))&&ndB r
def nB:∀{l:Zf 0},ndB l=true->l.Nodup
 |[],_=>.nil
 |x::r,h=>by simp only[ndB,VA,Vs]at h;show Wh.2 ⟨λm=>by simpa using h.1 x m,nB h.2⟩
section
variable{C:MC}{k i:Nat}{X:Cx}{elt iter tg:z_}{ifs:B_ z_}{sc os:Scope}{pos pos' du:Pos}{oN:Zf 0}{js:B_ (C_ Nat)}{mi:Mi}{g:Mg}{tt:Ev->PH->ZI 0}{me:Me}{x:Str}
def Rw(e:X.env.scope=os)(e':X.N=oN)(h:kE os oN sc (mkN oN js<|tgN tg) js=true)(nd:ndB (mkN oN js<|tgN tg)=true)(hi:SI C k X tg iter mi)
  (hg:∀a b c d,(S2 (mkN oN js<|tgN tg) a b c d).N.Nodup->SG C k (S2 (mkN oN js<|tgN tg) a b c d) tg g/\STs C k (S2 (mkN oN js<|tgN tg) a b c d) ifs tt/\SE C k (S2 (mkN oN js<|tgN tg) a b c d) elt me)
  (hs:∀x,q0c 0=pure x:=by intro _;rfl):G_ (.ListComp elt [⟨tg,iter,ifs,0⟩] sc pos) (aW js mi g tt me):=MW e e' h hi (λa b c d=>(hg a b c d<|nB nd).1) (λa b c d=>(hg a b c d<|nB nd).2.1) (λa b c d=>(hg a b c d<|nB nd).2.2) hs
def Rx(nd:X.N.Nodup)(h1:X.N[i]?=a_ x)(h2:V_ 0=a_ .local)(e:X.env.scope=os)(e':X.N=oN)(h:kE os oN sc (mkN oN js<|tgN tg) js=true)(yi:ndB (mkN oN js<|tgN tg)=true)(hi:SI C k X tg iter mi)
  (hg:∀a b c d,(S2 (mkN oN js<|tgN tg) a b c d).N.Nodup->SG C k (S2 (mkN oN js<|tgN tg) a b c d) tg g/\STs C k (S2 (mkN oN js<|tgN tg) a b c d) ifs tt/\SE C k (S2 (mkN oN js<|tgN tg) a b c d) elt me)
  (ql:YE (.ListComp elt [⟨tg,iter,ifs,0⟩] sc pos) (a_<|.Name x pos') du.line X.env=pure true:=by rfl) (hs:∀x,q0c 0=pure x:=by intro _;rfl):Zz (.Assign [.Name x pos'] (.ListComp elt [⟨tg,iter,ifs,0⟩] sc pos) du) (aP i<|aW js mi g tt me):=Fx nd h1 h2 e e' h hi (λa b c d=>(hg a b c d<|nB yi).1) (λa b c d=>(hg a b c d<|nB yi).2.1) (λa b c d=>(hg a b c d<|nB yi).2.2) ql hs
end
abbrev fsB(N:Zf 0)(n:Nat)(sc:Scope):Bool:=(match sc.kind with|.function=>true|_=>false) && !sc.isCoroutine && !sc.isGenerator&&ndB N&&decide (n<=N.length)&&(N.take n).all (λx=>match Zc 0 with|some .local=>true|some .cell=>true|_=>false)&&sc.names.all λy=>match y.2 with|.free=>false|_=>true
def IY{N:Zf 0}{n:Nat}{sc:Scope}(h:fsB N n sc=true):pO N (N.take n) sc/\(N.take n).length=n:=by
 simp only[fsB,VA,Bool.not_eq_true',Vs,decide_eq_true_eq]at h;let⟨⟨⟨⟨⟨⟨h1,h2⟩,h3⟩,h4⟩,h5⟩,h6⟩,h7⟩:=h;let hl:(N.take n).length=n:=by rw[VT];omega
 refine⟨⟨?_,h2,h3,nB h4,by rw[hl],λx m=>?_,λy m e=>?_⟩,hl⟩
 ·split at h1
  ·assumption
  ·cases h1
 ·have:=h6 x m;split at this
  ·show .inl (by assumption)
  ·show .inr (by assumption)
  ·cases this
 ·have:=h7 y m;rw[e]at this;cases this
abbrev FnX(K:UF)(f:t_)(nm qual:Str)(st:A_):Prop:=∃oc kV doc pm cdv ct od an osl,K.lookup f=a_ ⟨oc,od,.func<|WM nm qual (eK st) (cE st) (aV st) .none kV doc pm an cdv ct,osl⟩/\YN K cdv qual=true/\WU K (.ref f)=true
abbrev MtX(K:UF)(A:t_)(nm qual:Str)(st:A_):Prop:=∃f,V7 K (.ref A) nm=a_ (c_ f)/\PySem.W.isFn K (.ref f)=true/\FnX K f nm qual st
abbrev DfX(K:UF)(nm:Str)(st:A_):Prop:=∃f,YQ K Wb nm=a_ (c_ f)/\FnX K f nm nm st
abbrev DsL(K:UF):B_ (Str×Nat)->Prop
 |[]=>True
 |(x,i)::r=>DfX K x (top i)/\DsL K r
abbrev fA(K:UF)(x:Str):t_:=match YQ K Wb x with
 |some (c_ f)=>f
 |_=>0
abbrev mA(K:UF)(A:t_)(x:Str):t_:=match V7 K (.ref A) x with
 |some (c_ f)=>f
 |_=>0
abbrev dA(K:UF)(a:t_):WN:=match K.lookup a with
 |some ⟨_,_,.func f,_⟩=>f
 |_=>WM "" "" (eK<|top 0) [] (aV<|top 0) .none .none .none .none b_ .none .none
def DsL.at{K:UF}{x:Str}{i:Nat}:∀{l:B_ (Str×Nat)},DsL K l->(x,i)∈l->DfX K x (top i)
 |_::_,h,.head _=>h.1
 |_::_,h,.tail _ m=>DsL.at h.2 m
@[reducible]def BdX(nm qual:Str)(st:A_)(n:Nat)(ps:Zf 0):Prop:=∀(kV doc pm:s_)(an:C_ t_)(cdv ct:s_)(us:ZM 0),us.length=n->bindArgs (WM nm qual (eK st) (cE st) (aV st) .none kV doc pm an cdv ct) ⟨us,[]⟩=pure (ps.zip us)
structure ClX(K:UF)(A:t_)(nm:Str)(fs:B_ Str):Prop where
 n:YQ K Wb nm=some (c_ A)
 pg:Yt K A Str.empty=true
 hd:PySem.W.hasDictIn K A=true
 po:PySem.W.plainOver K A=true
 sa:V7 K (.ref A) "__setattr__" = some (some (.builtin "object.__setattr__"))
 mx:PySem.W.makesIn K A=true
 kc:WU K (.ref A)=true
 nf:NfX K A fs
def ClX.cls9{K:UF}{A:t_}{nm:Str}{fs:Zf 0}(q:ClX K A nm fs):Cls K A:=⟨q.pg,q.hd,q.po,q.sa⟩
structure ClZ(w:x_)(K:UF)(mg:o_ 0)(cl:Str->C_ t_)(c:Str)(A:t_):Prop where
 cl:cl c=some A
 hc:Cls K A
 mg:mg c=c_ A
 mx:PySem.W.makesIn K A=true
 kc:WU K (.ref A)=true
def mtN{C:MC}{k:Nat}{X:Cx}{m c:Str}{n j:Nat}{a g:t_}{fd:WN}{ps:Zf 0}{f:Fn}{tb:Str->C_ Fn}(h:(C.cl c=a_ a/\Cls C.K a)/\Cv C.K a m g/\M_ g fd ps (spM C (n+1) f)/\Binds C.K fd ps [])(h6:j<=k)(r:AB C X k m n tb):AB C X k m n (λz=>if z=c then a_ f else tb z):=Km h.1.1 h.1.2 h.2.1 h6 h.2.2.1 h.2.2.2 r
abbrev MsL(K:UF)(A:t_):B_ (Str×Str×Nat×Nat)->Prop
 |[]=>True
 |(x,q,i,j)::r=>MtX K A x q (inClass (top i) j)/\MsL K A r
@[reducible]def dL:B_ (Str×Nat):=[("_law_cell_at",48),("_law_stream",49),("_law_hands",50),("_law_act",51),("_law_deeds",52),("stamp",4),("rank",5),("in_order",6),("name_of",8),("taker_of",9),("takers",10),("in_force",11),("_law_had",53),("numbers_of",13),("leaf_of",35),("told",45),("covers",3),("place_of",21),("stand_of",39),("kind_for",36),("row_thing",40),("fold",44),("empty",43),("reading",46),("law",54)]
@[reducible]def EJ:B_ (Str×Str×Nat×Nat):=[("__init__","Count.__init__",15,0),("content","Count.content",15,3),("fill","Count.fill",15,4),("hear","Count.hear",15,1),("told","Count.told",15,2)]
@[reducible]def Cf:B_ (Str×Str×Nat×Nat):=[("__init__","Choice.__init__",16,0),("content","Choice.content",16,3),("fill","Choice.fill",16,4),("hear","Choice.hear",16,1),("told","Choice.told",16,2)]
@[reducible]def IZ:B_ (Str×Str×Nat×Nat):=[("__init__","Tree.__init__",38,0),("fill","Tree.fill",38,12),("hear","Tree.hear",38,1),("hear_make","Tree.hear_make",38,2),("held","Tree.held",38,7),("kind_of","Tree.kind_of",38,6),("lost","Tree.lost",38,10),("rows","Tree.rows",38,11),("takes","Tree.takes",38,4),("within","Tree.within",38,9)]
@[reducible]def A7:B_ (Str×Str×Nat×Nat):=[("__init__","Folding.__init__",42,0),("add_leaf","Folding.add_leaf",42,1),("base","Folding.base",42,4),("content_of","Folding.content_of",42,5),("hanging","Folding.hanging",42,8),("hear","Folding.hear",42,2),("hear_tree","Folding.hear_tree",42,3),("telling","Folding.telling",42,9),("told","Folding.told",42,7)]
section
variable{P:y_}{w:x_}{K:UF}{mg:o_ 0}{base:w_}{cl:Str->C_ t_}
variable(P w K mg base cl)
@[reducible]def tC(j:Nat)(x:Str)(t:Nat)(N:Zf 0)(n:Nat)(m:Fn):Prop:=Def K mg x (top t) (fA K x) (dA K<|fA K x) (N.take n)/\Z7 CX0 j (fA K x) (dA K<|fA K x) (N.take n) (spM (cC w K cl) n m)
@[reducible]def tM(c:Str)(A:t_)(j:Nat)(x:Str)(N:Zf 0)(n:Nat)(m:Fn):Prop:=(cl c=a_ A/\Cls K A)/\Cv K A x (mA K A x)/\Z7 CX0 j (mA K A x) (dA K<|mA K A x) (N.take n) (spM (cC w K cl) n m)/\Binds K (dA K<|mA K A x) (N.take n) []
@[reducible]def tI(c:Str)(A:t_)(j:Nat)(N:Zf 0)(n:Nat)(m:Fn):Prop:=cl c=a_ A/\Mk K A (mA K A "__init__")/\Z7 CX0 j (mA K A "__init__") (dA K<|mA K A "__init__") (N.take n) (spM (cC w K cl) n m)/\mg c=c_ A/\Binds K (dA K<|mA K A "__init__") (N.take n) []
variable{P w K mg base cl}
def mbL{x:Str}(h:x∈bsL:=by decide +kernel):x∈(cC w K cl).bs:=h
structure ZZ(P:y_)(base:w_)(w:x_)(K:UF)(mg:o_ 0)(cl:Str->C_ t_)(A_Count A_Choice A_Tree A_Folding cH nC:t_):Prop where
 hbn:∀x∈bsL,mg x=none
 XG:∃h:w_,K.In h/\h.Ns Wb mg
 ds:DsL K dL
 z_Count:ClZ w K mg cl "Count" A_Count
 m_Count:MsL K A_Count EJ
 z_Choice:ClZ w K mg cl "Choice" A_Choice
 m_Choice:MsL K A_Choice Cf
 z_Tree:ClZ w K mg cl "Tree" A_Tree
 m_Tree:MsL K A_Tree IZ
 z_Folding:ClZ w K mg cl "Folding" A_Folding
 m_Folding:MsL K A_Folding A7
 MG_KIND_FOR:mg "KIND_FOR" = c_ cH
 GT_KIND_FOR:Q1 (cC w K cl) cH [("add","count"),("choose","choice"),("put","bag"),("take","bag"),("write","text"),("cut","text"),("mark","text"),("clear","text")]
 MG_ROOT:mg "ROOT" = c_ nC
 GT_ROOT:PU K nC [.str "",.int (0)]
 ff:∀f∈fL,FJ (cC w K cl) f
variable{A_Count A_Choice A_Tree A_Folding cH nC:t_}(Z:ZZ P base w K mg cl A_Count A_Choice A_Tree A_Folding cH nC)
include Z
def dfM{k t:Nat}{x:Str}{N:Zf 0}{n:Nat}{body:Ms}(c:fsB N n (aV<|top t)=true)(b:BdX x x (top t) n (N.take n))(d:(x,t)∈dL)
  (h:∀f cdv A outer s H E,N.Nodup->SSs (cC w K cl) k (xQ CX0 P w K mg base N x (aV<|top t) f cdv A outer s H E).nox (cE<|top t) body):H_ (k+1) x t N n (mFn N.length body):=by
 let⟨f,a,_,_,_,_,_,_,_,_,_,l,o,p⟩:=Z.ds.at d;let⟨_,X,G⟩:=Z.XG;let⟨S,e⟩:=IY c;let D:=Def.mk' X G a l o p (ps:=N.take n) (by rwa[e]);let F:=Lj (C:=cC w K cl) (P:=P) (mg:=mg) (base:=base) (λ_ _ _ h=>h) Z.hbn D.fn S λcdv A outer s H E=>h f cdv A outer s H E S.nd;rw[e]at F;let q:fA K x=f:=by rw[fA,a]
 rw[tC,q,dA,l];show⟨D,F⟩
def fdL{f:Str}(h:f∈fL:=by decide +kernel):FJ (cC w K cl) f:=Z.ff f h
def mtM{k n:Nat}{A:t_}{c x q:Str}{st:A_}{N:Zf 0}{body:Ms}(z:ClZ w K mg cl c A)(y:MtX K A x q st)(c':fsB N n (aV st)=true)(b:BdX x q st n (N.take n))
  (h:∀f cdv A outer s H E,N.Nodup->SSs (cC w K cl) k (xQ CX0 P w K mg base N q (aV st) f cdv A outer s H E).nox (cE st) body):I_ c A (k+1) x N n (mFn N.length body):=by
 let⟨f,a,i,_,_,_,_,_,_,_,_,_,l,o,p⟩:=y;let F:=CD (st:=st) l o p;let⟨S,e⟩:=IY c';let G:=Lj (C:=cC w K cl) (P:=P) (mg:=mg) (base:=base) (λ_ _ _ h=>h) Z.hbn F S λcdv A outer s H E=>h f cdv A outer s H E S.nd;rw[e]at G;let r:mA K A x=f:=by rw[mA,a]
 rw[tM,r,dA,l];show⟨⟨z.cl,z.hc⟩,⟨a,i,p⟩,G,F.binds (ps:=N.take n)<|by rwa[e]⟩
def mkM{k n:Nat}{A:t_}{c q:Str}{st:A_}{N:Zf 0}{body:Ms}(z:ClZ w K mg cl c A)(y:MtX K A "__init__" q st)(c':fsB N n (aV st)=true)(b:BdX "__init__" q st n (N.take n))
  (h:∀f cdv A outer s H E,N.Nodup->SSs (cC w K cl) k (xQ CX0 P w K mg base N q (aV st) f cdv A outer s H E).nox (cE st) body):tI P w K mg base cl c A (k+1) N n (mFn N.length body):=by
 let⟨_,m,a,b'⟩:=mtM Z z y c' b h;show⟨z.cl,⟨z.mx,m.at_,m.fn,z.kc⟩,a,z.mg,b'⟩
local macro_rules|`(tactic|ac_rfl)=>`(tactic|repeat' first|((with_reducible show SSs _ _ _ [_] _);refine MR ?_)|exists (kM _ Bool.false _),(anE (by ac_nf) λD G=>Kg D G ?_ (hb:=mbL))|exists SSt,(aP _ (aW _ _ _ _ _)),(Rx nd rfl rfl rfl rfl (by rfl) (by rfl) ?_ λ_ _ _ _ nd=>⟨?_,?_,?_⟩)|exists (bF _ 0 _ _ aC),(Kn ?_ ?_)|exists (lN _ 0 _ aC),(anE (by ac_nf) λc r=>anE r λm r=>anE r λg r=>anE r λq b=>Ko c m g q b)|exists (mV _),(OH _)|exists SA,(aA _ _),(MK ?_ ?_)|exists (mC (PV.int _)),OI|exists SA,aC,P3|exists SSs,(aG _ _),(JT ?_ ?_)|exists (aB vAt _ _),(Rp ?_ ?_)|exists SG,(gN _),(MM nd)|((with_reducible show SE _ _ _ (.BinOp _ _ _ _) (aB _ _ _));refine OL ?_ ?_ ?_)|exists SSt,(aX _),(Pd ?_)|exists SSt,(aP _ _),(Pa nd ?_)|exists (mC (PV.str _)),OK|exists (aU _),(P4 ?_)|exists SGs,(gCn _ _),(MN ?_ ?_)|exists ST,(aT (aB _ _ _)),(OU ?_ ?_ ?_)|exists SSt,(cB _ _ _),(Ra ?_ ?_ ?_)|exists (mUn (aO _) _),(PQ (fdL Z) ?_)|exists SSs,cJ,MP|exists OpS,aR,MZ|exists OpS,vEq,ME|exists (bO _ _ _),(anE (by ac_nf) λD G=>s_call D G ?_)|exists OpS,dB,OR|((with_reducible show SI _ _ _ _ _ (aY _));refine Pe ?_)|exists (bF _ _ _ _ _),(Ni ?_ ?_ ?_)|exists SG,(gTp _ _),(P9 ?_)|exists SGs,gNl,P8|exists (jG _),(P5 ?_)|exists (aW _ _ _ _ _),(Rw rfl rfl (by rfl) (by rfl) ?_ λ_ _ _ _ nd=>⟨?_,?_,?_⟩)|exists SSt,(lQ _),(Pc ?_)|exists SSt,(fF _ _ _),(Pf ?_ ?_ ?_)|exists SO,(mP _),(MJ ?_)|exists (mSl _ _ _),(R9 ?_ ?_ ?_)|exists SSt,(iN _ _ _),(PR (fdL Z) ?_ ?_)|exists SO,iJ,MI|exists STs,gM,MU|exists SSt,(iA _ _ _),(Nk ?_ ?_ ?_)|exists SSt,(rK _ _),(Pb ?_ ?_)|((with_reducible show STs _ _ _ [_] _);refine MV ?_)|exists jH,JQ|exists (mC PV.non),OJ|exists (mMt isL (onL cF) _ _),(Ph PySem.F.plainAttrs_list PySem.F.slot_list_append PySem.F.type_list_append Hm ?_ ?_)|exists OpS,rF,OO|exists OpS,fH,PD|exists (mCB iK _),(vL ML PyProof.Rows.Boot.«list» ?_ (hb:=mbL))|exists (mCB mE _),(nK P6 PyProof.Rows.Boot.«len» ?_ (hb:=mbL))|((with_reducible show SE _ _ _ (.Compare _ _ _ _) (aB _ _ _));refine OM ?_ ?_ ?_)|exists (mIf _ _ _),(JP ?_ ?_ ?_)|((with_reducible show SI _ _ _ _ _ (mF _));refine MS ?_ (hb:=mbL))|exists OpS,Bv,OP|exists (mMt bP mL _ _),(N6 Xc Xt PySem.F.type_dict_get Ng ?_ ?_)|exists OpS,vLt,R3|exists OpS,D2,OQ|exists OpS,vLe,R5|exists (mC (.tup _)),(Nq Z.MG_ROOT Z.GT_ROOT)|exists OpS,JM,OS|exists (mCB By _),(nK P7 PyProof.Rows.Boot.«max» ?_ (hb:=mbL))|exists (pA _ _),(Kz ?_ ?_)|exists (mCB BA _),(nK PC PyProof.Rows.Boot.«sum» ?_ (hb:=mbL))|exists OpS,oP,JO|exists OpS,eO,Hu|exists (mUn gG _),(FU ?_ mbL mbL)|((with_reducible show SI _ _ _ _ _ (mO _ _));refine Nt _ (λ_=>⟨_,_,_,rfl⟩) ?_)|exists (nW bP dF _),(Ln Xc PySem.F.slot_dict_items PySem.F.type_dict_items HM ?_)|exists (lN _ _ _ _),(anE (by ac_nf) λc r=>anE r λm r=>anE r λg r=>anE r λq b=>Nj c m g q b ?_)|exists ST,(zI _),(OW ?_)|exists (mCB D9 _),(nK Pm PyProof.Rows.Boot.«isinstance» ?_ (hb:=mbL))|exists (mC (PV.ty "str")),(MD PyProof.Rows.Boot.«str» (hb:=mbL))|exists (mMt Ks wF _ _),(N6 PySem.F.plainAttrs_str PySem.F.slot_str_join PySem.F.type_str_join Np ?_ ?_)|((with_reducible show SI _ _ _ _ _ (vM _));refine MT ?_ (hb:=mbL))|exists (mCB oQ _),(vL JR PyProof.Rows.Boot.«tuple» ?_ (hb:=mbL))|exists (mCB mJ _),(nK Ka PyProof.Rows.Boot.«sorted» ?_ (hb:=mbL))|exists OpS,vGt,R4|exists (nW bP zQ _),(Ln Xc PySem.F.slot_dict_values PySem.F.type_dict_values m_values ?_)|exists ST,(aT (Fv _ _ _ _ _)),(OV ?_ ?_ ?_ ?_ ?_)|exists (kM _ _ _),(anE (by ac_nf) λD G=>Hz D G ?_ (hb:=mbL))|exists SSt,JS,P'|exists (mMt bP wC _ _),(N6 Xc PySem.F.slot_dict_setdefault PySem.F.type_dict_setdefault Nf ?_ ?_)|exists OpS,vGe,R7|exists (mCB qH _),(vL N7 PyProof.Rows.Boot.«dict» ?_ (hb:=mbL))|exists (mCB oT _),(nK Kf PyProof.Rows.Boot.«sorted» ?_ (hb:=mbL))|exists SSt,(vN _ _ _),(JV ?_ ?_)|exists (nW isL (onL D8) _),(Pi PySem.F.plainAttrs_list PySem.F.slot_list_pop PySem.F.type_list_pop Pj ?_)|exists (mMt isL kQ _ _),(Ph PySem.F.plainAttrs_list PySem.F.slot_list_extend PySem.F.type_list_extend Ia ?_ ?_)|((with_reducible show SI _ _ _ _ _ (I0 _));refine PZ ?_ (hb:=mbL))|exists SSt,(Ek _ _ _),(HB (fdL Z) ?_ ?_)|exists (mC (PV.bl _)),R1|((with_reducible show ST _ _ _ (.BoolOp _ _ _) _);refine SW.t ?_)|exists SW,(Bx _ _),(w_and ?_ ?_)|((with_reducible show SW _ _ _ (.BoolOp _ [_] _) _);refine MG ?_)|exists (mUn (vGd _) _),(Ky Z.MG_KIND_FOR Z.GT_KIND_FOR ?_)|exists OpS,Bz,Pl|exists (AG _),(anE (by ac_nf) λD G=>Kx D G)|exists (mUn tE _),(FL ?_ mbL mbL)|exists (zJ _ _),(OY ?_ ?_)|exists OpS,FY,Nz|((with_reducible show SE _ _ _ (.BoolOp _ [_] _) _);refine OX ?_)|exists OpS,FV,Nw|exists ST,(aT _),(OT ?_)|exists SSt,(oY _ _ _),(Nv _ _ ?_)|exists (rU _ _ _),(Nu _ _ ?_)|exists SSt,oF,Q2|((with_reducible show AB _ _ _ _ _ _);refine mtN (by ac_nf) nofun ?_)|((with_reducible show AB _ _ _ _ _ _);show Nh)|unfold pB|unfold jY|unfold rW|unfold kR|unfold kT|unfold pF|unfold bY|unfold fI|unfold jP|unfold cY|unfold pJ|unfold wR|unfold qO)
local macro_rules|`(tactic|and_intros)=>`(tactic|intro _ _ _ _ _ _ us hl;rcases us with _|⟨_,_|⟨_,_|⟨_,_|⟨_,_|⟨_,_|⟨_,_⟩⟩⟩⟩⟩⟩<;>first|rfl|cases hl)
local macro_rules|`(tactic|exists $e:ident)=>`(tactic|(refine dfM Z (by decide +kernel) (by and_intros) (by decide +kernel) λ_ _ _ _ _ _ _ nd=>?_;(conv=>arg 4;whnf);unfold $e;ac_rfl))|`(tactic|exists $a,$b,$c,$d:ident)=>`(tactic|(refine $a Z $b $c (by decide +kernel) (by and_intros) λ_ _ _ _ _ _ _ nd=>?_;(conv=>arg 4;whnf);unfold $d;ac_rfl))|`(tactic|exists $e,$f)=>`(tactic|((with_reducible show SE _ _ _ _ $e);refine $f))|`(tactic|exists $k,$e,$f)=>`(tactic|((with_reducible show $k _ _ _ _ $e);refine $f))
local macro_rules|`(tactic|ac_nf)=>`(tactic|first|exact G4 Z|exact J1 Z|exact L8 Z|exact Qf Z|exact L9 Z|exact L' Z|exact NQ Z|exact DH Z|exact G5 Z|exact DI Z|exact J2 Z|exact DK Z|exact Qg Z|exact AY Z|exact G7 Z|exact NR Z|exact J3 Z|exact DL Z|exact DM Z|exact DO Z|exact Cg Z|exact NS Z|exact La Z|exact G8 Z|exact sI Z|exact tV Z|exact AZ Z|exact B0 Z|exact B1 Z|exact qS Z|exact sJ Z|exact yF Z|exact yG Z|exact yH Z|exact tW Z|exact Ci Z|exact Cj Z|exact sL Z|exact Ck Z|exact xI Z|exact Cm Z|exact Cn Z|exact B2 Z|exact yI Z|exact pM Z|exact pN Z|exact xJ Z|exact nD Z|exact qT Z|exact xK Z|exact nX Z|exact qU Z|exact xM Z)
def G4:H_ 1 "_law_cell_at" 48 ["_law_script","_law_k"] 2 nM:=by exists rV
def J1:H_ 1 "_law_stream" 49 ["_law_cell","_law_many","_law_found","_law_number","_law_k"] 2 mQ:=by exists wJ
def L8:H_ 2 "_law_hands" 50 ["_law_cell","_law_many","_law_letters","_law_xs","_law_stem","_law_at"] 2 AI:=by exists AH
def Qf:H_ 1 "_law_act" 51 ["_law_xs","_law_cell","_law_name","_law_hands_here","_law_number","_law_first"] 4 Ep:=by exists Ie
def L9:H_ 2 "_law_deeds" 52 ["_law_cells","_law_hands_here","_law_rows","_law_many","_law_cell","_law_xs","_law_hand","_law_seen","_law_k","_law_name","_law_pairs"] 2 AK:=by exists AJ
def L':H_ 1 "stamp" 4 ["deed"] 1 AL:=by exists uE
def NQ:H_ 2 "rank" 5 ["deed","hand","n"] 1 Dv:=by exists Du
def DH:H_ 5 "in_order" 6 ["deeds","by_name","deed"] 1 iP:=by exists pC
def G5:H_ 1 "name_of" 8 ["deed"] 1 nN:=by exists rX
def DI:H_ 1 "taker_of" 9 ["n","backs","back","word","first","last"] 2 pE:=by exists pD
def J2:H_ 4 "takers" 10 ["deeds","taken","backs","deed","hand","n","word","by"] 1 wL:=by exists wK
def DK:H_ 6 "in_force" 11 ["deeds","ordered","taken"] 1 iQ:=by exists pG
def Qg:H_ 1 "_law_had" 53 ["_law_deed","_law_name"] 2 zZ:=by exists Ig
def B1:I_ "Count" A_Count 1 "told" ["self"] 1 cG   := by exists mtM,Z.z_Count,Z.m_Count.2.2.2.2.1,kU
def AY:H_ 1 "numbers_of" 13 ["rows"] 1 qM:=by exists kW
def yH:I_ "Choice" A_Choice 2 "told" ["self"] 1 dO   := by exists mtM,Z.z_Choice,Z.m_Choice.2.2.2.2.1,jL
def xI:I_ "Tree" A_Tree 1 "kind_of" ["self","thing"] 2 aI   := by exists mtM,Z.z_Tree,Z.m_Tree.2.2.2.2.2.1,eQ
def yI:I_ "Tree" A_Tree 2 "within" ["self","thing","spots"] 2 dQ   := by exists mtM,Z.z_Tree,Z.m_Tree.2.2.2.2.2.2.2.2.2.1,jM
def qT:I_ "Folding" A_Folding 3 "hanging" ["self","found","left","thing"] 1 cP   := by exists mtM,Z.z_Folding,Z.m_Folding.2.2.2.2.1,eR
def Ck:I_ "Tree" A_Tree 1 "held" ["self","thing"] 2 cW   := by exists mtM,Z.z_Tree,Z.m_Tree.2.2.2.2.1,mR
def qU:I_ "Folding" A_Folding 3 "telling" ["self","thing","tellings","kind"] 3 bE   := by exists mtM,Z.z_Folding,Z.m_Folding.2.2.2.2.2.2.2.1,bW
def xM:I_ "Folding" A_Folding 4 "told" ["self","tellings","thing"] 1 cX   := by exists mtM,Z.z_Folding,Z.m_Folding.2.2.2.2.2.2.2.2.1,iR
def tW:tI P w K mg base cl "Tree" A_Tree 1 ["self"] 1 gW   := by exists mkM,Z.z_Tree,Z.m_Tree.1,gQ
def AZ:I_ "Count" A_Count 1 "fill" ["self","content"] 2 kZ   := by exists mtM,Z.z_Count,Z.m_Count.2.2.1,kY
def yF:I_ "Choice" A_Choice 1 "fill" ["self","content"] 2 jO   := by exists mtM,Z.z_Choice,Z.m_Choice.2.2.1,jN
def Ci:I_ "Tree" A_Tree 1 "fill" ["self","rows","lost","thing","kind","holder","spot"] 3 iZ   := by exists mtM,Z.z_Tree,Z.m_Tree.2.1,mS
def sI:tI P w K mg base cl "Count" A_Count 1 ["self"] 1 jZ   := by exists mkM,Z.z_Count,Z.m_Count.1,fJ
def qS:tI P w K mg base cl "Choice" A_Choice 1 ["self"] 1 jA   := by exists mkM,Z.z_Choice,Z.m_Choice.1,eS
def G7:H_ 3 "leaf_of" 35 ["kind"] 1 rZ:=by exists rY
def pN:I_ "Folding" A_Folding 4 "add_leaf" ["self","thing","kind","leaf"] 3 bU   := by exists mtM,Z.z_Folding,Z.m_Folding.2.1,dY
def pM:tI P w K mg base cl "Folding" A_Folding 5 ["self","base","rows","lost","thing","kind","holder","spot","content"] 2 bH   := by exists mkM,Z.z_Folding,Z.m_Folding.1,dZ
def NR:H_ 7 "told" 45 ["base"] 1 Dx:=by exists Dw
def B0:I_ "Count" A_Count 1 "hear" ["self","deed","act"] 2 eT   := by exists mtM,Z.z_Count,Z.m_Count.2.2.2.1,lF
def J3:H_ 1 "covers" 3 ["seen","name","hand","n"] 2 kA:=by exists wM
def yG:I_ "Choice" A_Choice 2 "hear" ["self","deed","name","seen","act","unseen"] 2 dR   := by exists mtM,Z.z_Choice,Z.m_Choice.2.2.2.1,jQ
def B2:I_ "Tree" A_Tree 2 "takes" ["self","holder","spot"] 3 eU   := by exists mtM,Z.z_Tree,Z.m_Tree.2.2.2.2.2.2.2.2.1,lG
def DL:H_ 1 "place_of" 21 ["spot","name","under","side","hand","n"] 2 wO:=by exists wN
def DM:H_ 2 "stand_of" 39 ["spot","name"] 2 lH:=by exists pK
def sL:I_ "Tree" A_Tree 3 "hear_make" ["self","name","act","word","kind","holder","spot"] 3 fN   := by exists mtM,Z.z_Tree,Z.m_Tree.2.2.2.1,fM
def Cj:I_ "Tree" A_Tree 4 "hear" ["self","deed","name","seen","act"] 2 gH   := by exists mtM,Z.z_Tree,Z.m_Tree.2.2.1,mT
def nX:I_ "Folding" A_Folding 5 "hear_tree" ["self","deed","fate","act"] 2 dI   := by exists mtM,Z.z_Folding,Z.m_Folding.2.2.2.2.2.2.1,dH
def DO:H_ 1 "kind_for" 36 ["word"] 1 iS:=by exists pL
def xK:I_ "Folding" A_Folding 6 "hear" ["self","deed","act"] 2 cA   := by exists mtM,Z.z_Folding,Z.m_Folding.2.2.2.2.2.1,eX
def tV:I_ "Count" A_Count 1 "content" ["self"] 1 dW   := by exists mtM,Z.z_Count,Z.m_Count.2.1,gY
def sJ:I_ "Choice" A_Choice 1 "content" ["self"] 1 dG   := by exists mtM,Z.z_Choice,Z.m_Choice.2.1,fO
def nD:I_ "Folding" A_Folding 2 "content_of" ["self","thing"] 2 bX   := by exists mtM,Z.z_Folding,Z.m_Folding.2.2.2.1,cZ
def Cg:H_ 1 "row_thing" 40 ["row"] 1 tG:=by exists mU
def Cn:I_ "Tree" A_Tree 4 "rows" ["self"] 1 jB   := by exists mtM,Z.z_Tree,Z.m_Tree.2.2.2.2.2.2.2.1,mW
def Cm:I_ "Tree" A_Tree 1 "lost" ["self"] 1 gI   := by exists mtM,Z.z_Tree,Z.m_Tree.2.2.2.2.2.2.1,mX
def xJ:I_ "Folding" A_Folding 5 "base" ["self"] 1 eY   := by exists mtM,Z.z_Folding,Z.m_Folding.2.2.1,iT
def NS:H_ 7 "fold" 44 ["base","deeds","folding","deed"] 2 Dz:=by exists Dy
def La:H_ 1 "empty" 43 [] 0 uG:=by exists AQ
def G8:H_ 8 "reading" 46 ["deeds"] 1 nP:=by exists sA
def Qh:H_ 9 "law" 54 ["_law_script","_law_first","_law_hands_here","_law_deeds_here","_law_force","_law_whole","_law_chosen","_law_stand","_law_k","_law_handed","_law_kept","_law_found","_law_one"] 1 Ii:=by exists Ih
end
abbrev spL(K:UF):Sp:=λvs H Q _=>∃(a:t_)(ns:Z8 0),vs=[.ref a]/\GA H/\ZT a (ZO 0)/\ns.length<=63/\∀H',Q (.bl true) H'
def all_mk{l:PySem.W.OpenLaw}{w:x_}{K:UF}{h:w_}{mg:o_ 0}{fa A_Count A_Choice A_Tree A_Folding cH nC:t_}(X:K.In h)(G:h.Ns Wb mg)(TF:mg "law" = c_ fa)(hbn:∀x∈bsL,mg x=b_)
  (ds:DsL K dL)
  (ay:ClX K A_Count "Count" fL)
  (m_Count:MsL K A_Count EJ)
  (aq:ClX K A_Choice "Choice" fL)
  (m_Choice:MsL K A_Choice Cf)
  (bp:ClX K A_Tree "Tree" fL)
  (m_Tree:MsL K A_Tree IZ)
  (ai:ClX K A_Folding "Folding" fL)
  (m_Folding:MsL K A_Folding A7)
  {av:Array Xs} {bz:Nat} (DP:YQ K Wb "KIND_FOR" = a_ (c_ cH)) (eu:K.lookup cH=a_ ⟨.type "dict",b_,.dict av bz,#[]⟩) (fb:GEs w.params [("add","count"),("choose","choice"),("put","bag"),("take","bag"),("write","text"),("cut","text"),("mark","text"),("clear","text")] av.toList) (e9:(cH == We)=false)
  {bj:YV 0} {gp:Nat} {jt:n_ 0} (NT:YQ K Wb "ROOT" = a_ (c_ nC)) (lg:K.lookup nC=a_ ⟨.type "tuple",b_,.seq bj gp,jt⟩) (lp:aK [.str "",.int<|0] bj.toList) (md:bj.size<=U9)
  : ∃fd:WN,(∀(s:td)(v:s_),BindsTo s fd ⟨[v],[]⟩ [("_law_script",v)])/\∀base:w_,K.In base->base.Ns Wb mg->cI l.prog w K mg base CX0 9 fa fd ["_law_script"] (spL K):=by
 let Z:∀b,ZZ l.prog b w K mg (clF A_Count A_Choice A_Tree A_Folding) A_Count A_Choice A_Tree A_Folding cH nC:=λ_=>⟨hbn,⟨_,X,G⟩,ds,⟨(YS 0),ay.cls9,X2 X G ay.n,ay.mx,ay.kc⟩,m_Count,⟨((ZD 0).trans<|YS 0),aq.cls9,X2 X G aq.n,aq.mx,aq.kc⟩,m_Choice,⟨((ZD 0).trans<|(ZD 0).trans<|YS 0),bp.cls9,X2 X G bp.n,bp.mx,bp.kc⟩,m_Tree,⟨((ZD 0).trans<|(ZD 0).trans<|(ZD 0).trans<|YS 0),ai.cls9,X2 X G ai.n,ai.mx,ai.kc⟩,m_Folding,X2 X G DP,⟨e9,nofun,av,bz,eu,fb⟩,X2 X G NT,⟨_,bj,gp,[.str "",.int<|0],lg,rfl,rfl,md,lp,rfl,rfl⟩,λf i c a hc=>clI (p:=λa=>Cls K a/\jF K a f) hc ⟨ay.cls9,ay.nf.at i⟩ ⟨aq.cls9,aq.nf.at i⟩ ⟨bp.cls9,bp.nf.at i⟩ ⟨ai.cls9,ai.nf.at i⟩⟩;let⟨f,a,oc,kV,doc,pm,cdv,ct,od,an,osl,l',c,k⟩:=(Z h).ds.at (x:="law") (i:=54) (by decide +kernel);cases TF.symm.trans (X2 X G a)
 refine⟨_,λs v=>.of_eq (fd:=WM "law" "law" (eK<|top 54) (cE<|top 54) (aV<|top 54) .none kV doc pm an cdv ct) rfl,λbase _ _=>?_⟩;let⟨_,F⟩:=Qh<|Z base;let q:fA K "law" = fa:=by rw[fA,a]
 rw[q,dA,l']at F;refine F.imp λvs H Q E hh=>?_;let⟨a,ns,rfl,hO,hS,hl,hq⟩:=hh;show MX (C:=cC w K<|clF A_Count A_Choice A_Tree A_Folding) hO hS (main ns hl) hq
def walk{l:PySem.W.OpenLaw}{q:y_}{loose:Zf 0}{XP:(o_ 0)->w_->Prop}{YP:x_->w_->Prop}{d:DefRec}{K:Params->UF}(hn:l.most=a_ 63)(qp:d.params.defaults=[])
  (hY:∀(w:x_)(h:w_),YP w h->(K w.params).In h)
  (F:∀(w:x_)(mg:o_ 0)(fa:t_)(h:w_),(K w.params).In h->h.Ns Wb mg->mg d.name=c_ fa->
   ∃fd:WN,(∀(s:td)(u:s_),BindsTo s fd ⟨[u],[]⟩ [("_law_script",u)])/\∀base:w_,(K w.params).In base->base.Ns Wb mg->cI l.prog w (K w.params) mg base CX0 9 fa fd ["_law_script"] (spL (K w.params))):
  PySem.W.WalkO q loose XP YP l.row.toRowW d [] (λf vs=>PySem.call f vs):=
 L2.walk_of (n:=63) (k:=9) (x:="_law_script") (CX:=λ_=>CX0) (sp:=λw=>spL<|K w.params) hn nofun qp ⟨rfl,nofun,nofun⟩ hY F (λw H a ns hl hO hS=>⟨a,ns,rfl,hO,hS,hl,λ_=>rfl⟩) λ_ _ _ _ _ z=>z
end K66
open PySem PySem.W PyProof.Rows
namespace PySem.W.Fast
theorem tw6242989385885037473:True:=⟨⟩
theorem tw11208706039557873432:True:=⟨⟩
theorem tw8789836642726203692:True:=⟨⟩
theorem tw11379980103239280204:True:=⟨⟩
theorem tw16465122362435986818:True:=⟨⟩
theorem tw13022574222622516844:True:=⟨⟩
theorem tw12397113717995050056:True:=⟨⟩
theorem tw13920178373343045475:True:=⟨⟩
theorem tw17377112589892811679:True:=⟨⟩
theorem tw7979540214562820850:True:=⟨⟩
theorem tw13923500290774634584:True:=⟨⟩
theorem tw12125805831810987985:True:=⟨⟩
theorem tw6700871292526312692:True:=⟨⟩
theorem tw18303475775073301376:True:=⟨⟩
theorem tw2426256715213355931:True:=⟨⟩
theorem tw15667336721497949696:True:=⟨⟩
theorem tw13876648359853740370:True:=⟨⟩
theorem tw6545988393981167738:True:=⟨⟩
theorem tw16328617433800801711:True:=⟨⟩
theorem tw13105596026502300108:True:=⟨⟩
theorem tw13564049314939469584:True:=⟨⟩
theorem tw2987002593690537348:True:=⟨⟩
theorem tw4184945329762437410:True:=⟨⟩
theorem tw16075796451797625709:True:=⟨⟩
theorem tw11477777504537412605:True:=⟨⟩
theorem tw7185270237378267997:True:=⟨⟩
theorem tw8866455767928149951:True:=⟨⟩
theorem tw5524883726395305799:True:=⟨⟩
theorem tw7711622296954577836:True:=⟨⟩
theorem tw15087928952535607699:True:=⟨⟩
theorem tw9101074316731067829:True:=⟨⟩
theorem tw11451939875908373905:True:=⟨⟩
theorem tw16651643382225020569:True:=⟨⟩
theorem tw1487676054995567884:True:=⟨⟩
theorem tw16162107731623983855:True:=⟨⟩
theorem tw9920244846900056522:True:=⟨⟩
theorem tw4079285982045514783:True:=⟨⟩
theorem tw15196252656110583572:True:=⟨⟩
theorem tw17472284044131766310:True:=⟨⟩
theorem tw16379096434358437416:True:=⟨⟩
theorem tw5130753554671233713:True:=⟨⟩
theorem tw7417683718877398343:True:=⟨⟩
theorem tw11303324463681291359:True:=⟨⟩
theorem tw2359009548607834567:True:=⟨⟩
theorem tw12453719155753015522:True:=⟨⟩
theorem tw8925353432815044020:True:=⟨⟩
theorem tw837589570383728475:True:=⟨⟩
theorem tw11082927677305347929:True:=⟨⟩
theorem tw16955329103053746790:True:=⟨⟩
theorem tw15282576117917266860:True:=⟨⟩
theorem tw17863559301163737692:True:=⟨⟩
theorem tw14812290413481335711:True:=⟨⟩
theorem tw5332776194326795027:True:=⟨⟩
theorem tw7335932028720802349:True:=⟨⟩
theorem tw18015466361247360262:True:=⟨⟩
theorem tw8926469357294765688:True:=⟨⟩
theorem tw4962470700700105921:True:=⟨⟩
theorem tw9084224625988805355:True:=⟨⟩
theorem tw7085788705858964401:True:=⟨⟩
theorem tw9096535450357786630:True:=⟨⟩
theorem tw18265582435875009424:True:=⟨⟩
theorem tw12044574965130194832:True:=⟨⟩
theorem tw16408955811707425519:True:=⟨⟩
theorem tw18125737725458645168:True:=⟨⟩
theorem tw5085681404796765745:True:=⟨⟩
theorem tw2194649267246113337:True:=⟨⟩
theorem tw7882378867234069061:True:=⟨⟩
theorem tw4307291006620971298:True:=⟨⟩
theorem tw18300410606875413092:True:=⟨⟩
theorem tw8878315659484971421:True:=⟨⟩
theorem tw15953654408116139879:True:=⟨⟩
theorem tw12563737453878744294:True:=⟨⟩
theorem tw12248596905747839891:True:=⟨⟩
theorem tw17332631650560144673:True:=⟨⟩
theorem tw7041082074869666162:True:=⟨⟩
theorem tw6082708305694690056:True:=⟨⟩
theorem tw15378910476272862063:True:=⟨⟩
theorem tw13223164666413729948:True:=⟨⟩
theorem tw8175643632093343484:True:=⟨⟩
theorem tw1717480597169496258:True:=⟨⟩
theorem tw655350840644614090:True:=⟨⟩
theorem tw13388277591790455359:True:=⟨⟩
theorem tw16299372165954096680:True:=⟨⟩
theorem tw154024180514385737:True:=⟨⟩
theorem tw14037934898177601631:True:=⟨⟩
theorem tw13516871679016373758:True:=⟨⟩
theorem tw11472707704896464438:True:=⟨⟩
theorem tw5638833041465676753:True:=⟨⟩
theorem tw1429770789627094997:True:=⟨⟩
theorem tw3243295716317751782:True:=⟨⟩
theorem tw14025564605041887117:True:=⟨⟩
theorem tw4139836510289533902:True:=⟨⟩
theorem tw4796460096644583356:True:=⟨⟩
theorem tw11772324230328314955:True:=⟨⟩
theorem tw13333601806760713121:True:=⟨⟩
theorem tw14009924497395658395:True:=⟨⟩
theorem tw13520770205161256987:True:=⟨⟩
theorem tw13355940011912510644:True:=⟨⟩
theorem tw8458222684196696405:True:=⟨⟩
theorem tw1478787020191777683:True:=⟨⟩
theorem tw763068116510895237:True:=⟨⟩
theorem tw9473589261006564344:True:=⟨⟩
theorem tw9455999349512328485:True:=⟨⟩
theorem tw10289535052013004190:True:=⟨⟩
theorem tw16034114335092176833:True:=⟨⟩
theorem tw3516220542636283889:True:=⟨⟩
theorem tw4641788054624457858:True:=⟨⟩
theorem tw14334653212528578892:True:=⟨⟩
theorem tw14595180890135856389:True:=⟨⟩
theorem tw17474256752109805709:True:=⟨⟩
theorem tw8161591688059285326:True:=⟨⟩
theorem tw1005037189049933643:True:=⟨⟩
theorem tw3538067110983826001:True:=⟨⟩
theorem tw873299220434864158:True:=⟨⟩
theorem tw5996562144801599305:True:=⟨⟩
theorem tw2689683860601093866:True:=⟨⟩
theorem tw2962062231400740931:True:=⟨⟩
theorem tw14202327455758958616:True:=⟨⟩
theorem tw3218151661291039754:True:=⟨⟩
theorem tw3174101223903703551:True:=⟨⟩
theorem tw11303532064675174560:True:=⟨⟩
theorem tw5684884663445151432:True:=⟨⟩
theorem tw609548145059939260:True:=⟨⟩
theorem tw709101264420754197:True:=⟨⟩
theorem tw12226078769293621892:True:=⟨⟩
theorem tw16520286707535477050:True:=⟨⟩
theorem tw15223899918831312088:True:=⟨⟩
theorem tw5221091943012384381:True:=⟨⟩
theorem tw11586354835360191972:True:=⟨⟩
theorem tw11890415926039719608:True:=⟨⟩
theorem tw2455406048531999573:True:=⟨⟩
theorem tw14071935127321189537:True:=⟨⟩
theorem tw7140552531024666285:True:=⟨⟩
theorem tw9647293818893173303:True:=⟨⟩
theorem tw10916655878407186440:True:=⟨⟩
theorem tw7348797944807308033:True:=⟨⟩
theorem tw13959723296133002328:True:=⟨⟩
theorem tw16170293210026278244:True:=⟨⟩
theorem tw7896426453858906037:True:=⟨⟩
theorem tw291302300834221252:True:=⟨⟩
theorem tw12116327665313706487:True:=⟨⟩
theorem tw17205598140059671831:True:=⟨⟩
theorem tw11015075392483781527:True:=⟨⟩
theorem tw9988941208611786793:True:=⟨⟩
theorem tw3219914950679647441:True:=⟨⟩
theorem tw10801379949094296205:True:=⟨⟩
theorem tw12821531022838233567:True:=⟨⟩
theorem tw3182355629192074447:True:=⟨⟩
theorem tw4850542755826270424:True:=⟨⟩
theorem tw7697973701600726473:True:=⟨⟩
theorem tw8192657880656762473:True:=⟨⟩
theorem tw7871607767791409760:True:=⟨⟩
theorem tw2693174024612062443:True:=⟨⟩
theorem tw15379751050474113069:True:=⟨⟩
theorem tw10245008405597399720:True:=⟨⟩
theorem tw11121536133845590848:True:=⟨⟩
theorem tw16384570514428027033:True:=⟨⟩
theorem tw13746519006656880197:True:=⟨⟩
theorem tw13629452810420621667:True:=⟨⟩
theorem tw16952859789735740332:True:=⟨⟩
theorem tw3216397132607177702:True:=⟨⟩
theorem tw7245409480775427012:True:=⟨⟩
theorem tw1361042812687575944:True:=⟨⟩
theorem tw5503474988936702478:True:=⟨⟩
theorem tw2295893829148599507:True:=⟨⟩
theorem tw11986148236317791417:True:=⟨⟩
theorem tw17137717410775754274:True:=⟨⟩
theorem tw748571673199984682:True:=⟨⟩
theorem tw9072942770209992449:True:=⟨⟩
theorem tw15662083305891564637:True:=⟨⟩
theorem tw13588075565498281488:True:=⟨⟩
theorem tw5974519367742375121:True:=⟨⟩
theorem tw4905842209560107461:True:=⟨⟩
theorem tw7266209295276583790:True:=⟨⟩
theorem tw8150615302260686646:True:=⟨⟩
theorem tw13338555051813942750:True:=⟨⟩
theorem tw11781882361291915034:True:=⟨⟩
theorem tw1329645192190762598:True:=⟨⟩
theorem tw15142726803460869092:True:=⟨⟩
theorem tw5486360277676181849:True:=⟨⟩
theorem tw17263093232522447000:True:=⟨⟩
theorem tw70910882446946459:True:=⟨⟩
theorem tw16703307121568772434:True:=⟨⟩
theorem tw15457209237927688048:True:=⟨⟩
theorem tw8446596400178138693:True:=⟨⟩
theorem tw1647961156254980058:True:=⟨⟩
theorem tw17272121242261311934:True:=⟨⟩
theorem tw13151296746815623870:True:=⟨⟩
theorem tw7787533250534170522:True:=⟨⟩
theorem tw9570597100608264572:True:=⟨⟩
theorem tw7082704887026458608:True:=⟨⟩
theorem tw8695313182649843722:True:=⟨⟩
theorem tw10037350004991385158:True:=⟨⟩
theorem tw2813656671702063762:True:=⟨⟩
theorem tw4090298356232148999:True:=⟨⟩
theorem tw5111386999378322268:True:=⟨⟩
theorem tw14026148601231735974:True:=⟨⟩
theorem tw13526117687689089538:True:=⟨⟩
theorem tw8664690819678102806:True:=⟨⟩
theorem tw6277264305449277365:True:=⟨⟩
theorem tw161457407085164574:True:=⟨⟩
theorem tw17147656578165263039:True:=⟨⟩
theorem tw17901568808306097276:True:=⟨⟩
theorem tw13285406650291131440:True:=⟨⟩
theorem tw6654014659378074228:True:=⟨⟩
theorem tw8533448594048248131:True:=⟨⟩
theorem tw18337685246899316803:True:=⟨⟩
theorem tw16393036051445560247:True:=⟨⟩
theorem tw13748342876161195168:True:=⟨⟩
theorem tw16103543557495767361:True:=⟨⟩
theorem tw11974574329087756394:True:=⟨⟩
theorem tw16113021593408611037:True:=⟨⟩
theorem tw16467142238552436916:True:=⟨⟩
theorem tw1243503172961916173:True:=⟨⟩
theorem tw16144878987747980779:True:=⟨⟩
theorem tw12141362582729789349:True:=⟨⟩
theorem tw11426492325746337306:True:=⟨⟩
theorem tw6157886393181609336:True:=⟨⟩
theorem tw13483930001683040120:True:=⟨⟩
theorem tw123005471468572257:True:=⟨⟩
theorem tw3444046347544174131:True:=⟨⟩
theorem tw15814938214668980362:True:=⟨⟩
theorem tw7255143933658420931:True:=⟨⟩
theorem tw1306965942870986589:True:=⟨⟩
theorem tw17028195677449440659:True:=⟨⟩
theorem tw10758129399330709506:True:=⟨⟩
theorem tw1563037334536565576:True:=⟨⟩
theorem tw6967870836489439665:True:=⟨⟩
theorem tw10435048394175705092:True:=⟨⟩
theorem tw14173352499717890759:True:=⟨⟩
theorem tw8198036406361746166:True:=⟨⟩
theorem tw12054691629086957844:True:=⟨⟩
theorem tw9204941829515189729:True:=⟨⟩
theorem tw16451658560044364503:True:=⟨⟩
theorem tw13043813836489609261:True:=⟨⟩
theorem tw2203102481221299521:True:=⟨⟩
theorem tw17167112589030954405:True:=⟨⟩
theorem tw1024616809619859043:True:=⟨⟩
theorem tw14217870382528911763:True:=⟨⟩
theorem tw4158184432370648309:True:=⟨⟩
theorem tw15322683603232292238:True:=⟨⟩
theorem tw3399169947506309492:True:=⟨⟩
theorem tw12883812370834603352:True:=⟨⟩
theorem tw9208125563666901600:True:=⟨⟩
theorem tw7578030919455592345:True:=⟨⟩
theorem tw9908326426003354305:True:=⟨⟩
theorem tw9097958242564426104:True:=⟨⟩
theorem tw5369564866781227805:True:=⟨⟩
theorem tw13933607500440937655:True:=⟨⟩
theorem tw3089491528356163803:True:=⟨⟩
theorem tw6083289178014321987:True:=⟨⟩
theorem tw14571570897508067078:True:=⟨⟩
theorem tw6389839267660648312:True:=⟨⟩
theorem tw821317738566750742:True:=⟨⟩
theorem tw1615154688067834539:True:=⟨⟩
theorem tw4281066979684439931:True:=⟨⟩
theorem tw6817336879168102800:True:=⟨⟩
theorem tw6055119841770011249:True:=⟨⟩
theorem tw7503968627797195663:True:=⟨⟩
theorem tw11326735783317558078:True:=⟨⟩
theorem tw3476354011628710722:True:=⟨⟩
theorem tw4021413252641355059:True:=⟨⟩
theorem tw4186955976030153367:True:=⟨⟩
theorem tw4856408061061271015:True:=⟨⟩
theorem tw7929643913181243017:True:=⟨⟩
theorem tw9465214534725939425:True:=⟨⟩
theorem tw8607041672220785391:True:=⟨⟩
theorem tw6490279124186369228:True:=⟨⟩
theorem tw5693568562985137084:True:=⟨⟩
theorem tw8611868176009272496:True:=⟨⟩
theorem tw1574598201149626688:True:=⟨⟩
theorem tw12133069621837629461:True:=⟨⟩
theorem tw16861688045731443003:True:=⟨⟩
theorem tw15462138590868281118:True:=⟨⟩
theorem tw7819277999136171348:True:=⟨⟩
theorem tw11706080725033549146:True:=⟨⟩
theorem tw1159435566396758775:True:=⟨⟩
theorem tw16400138099946102676:True:=⟨⟩
theorem tw11601193487616675926:True:=⟨⟩
theorem tw6916603539288657040:True:=⟨⟩
theorem tw4682328351176412142:True:=⟨⟩
theorem tw14120209928823995631:True:=⟨⟩
theorem tw16897587281073489774:True:=⟨⟩
theorem tw12212270465226224206:True:=⟨⟩
theorem tw13113700723038054454:True:=⟨⟩
theorem tw11160019585453349919:True:=⟨⟩
theorem tw6067174041496464339:True:=⟨⟩
theorem tw14272292721650340817:True:=⟨⟩
theorem tw11370560386925831969:True:=⟨⟩
theorem tw10057282086867444961:True:=⟨⟩
theorem tw13462285828494224292:True:=⟨⟩
theorem tw9810598788820426555:True:=⟨⟩
theorem tw18324713119034316154:True:=⟨⟩
theorem tw1538956917494951866:True:=⟨⟩
theorem tw16729704023720322227:True:=⟨⟩
theorem tw1327526867211437935:True:=⟨⟩
theorem tw6262121612885083504:True:=⟨⟩
theorem tw3972044783989554302:True:=⟨⟩
theorem tw8185589396064902132:True:=⟨⟩
theorem tw3328600400168317655:True:=⟨⟩
theorem tw13924461464464958483:True:=⟨⟩
theorem tw16354775563094320492:True:=⟨⟩
theorem tw1212044051522012657:True:=⟨⟩
theorem tw16623090640776195615:True:=⟨⟩
theorem tw680131300714748016:True:=⟨⟩
theorem tw5056753486285717473:True:=⟨⟩
theorem tw4837570318633304585:True:=⟨⟩
theorem tw3216474820367089619:True:=⟨⟩
theorem tw13887909892676494252:True:=⟨⟩
theorem tw3250486288442945804:True:=⟨⟩
theorem tw12622658160276734771:True:=⟨⟩
theorem tw11651914947721677096:True:=⟨⟩
theorem tw8494060521317337373:True:=⟨⟩
theorem tw11500660980800030118:True:=⟨⟩
theorem tw10132227042725345472:True:=⟨⟩
theorem tw5501486043069495649:True:=⟨⟩
theorem tw12002877083646513729:True:=⟨⟩
theorem tw8662657144581464410:True:=⟨⟩
theorem tw237270442101865474:True:=⟨⟩
theorem tw4772654977008014096:True:=⟨⟩
theorem tw3008902305597960435:True:=⟨⟩
theorem tw16118934563889126935:True:=⟨⟩
theorem tw8364320180254077800:True:=⟨⟩
theorem tw7844502780487503661:True:=⟨⟩
theorem tw6957814005933052449:True:=⟨⟩
theorem tw18179261608987672802:True:=⟨⟩
theorem tw13324416630310448168:True:=⟨⟩
theorem tw9145423280801550439:True:=⟨⟩
theorem tw3151722729851671245:True:=⟨⟩
theorem tw4272414287656267984:True:=⟨⟩
theorem tw11269571873805827339:True:=⟨⟩
theorem tw5547575928479087288:True:=⟨⟩
theorem tw15778426308672263339:True:=⟨⟩
theorem tw8617825360044442795:True:=⟨⟩
theorem tw9429889283102015204:True:=⟨⟩
theorem tw8464500493557875765:True:=⟨⟩
theorem tw18049147843348132652:True:=⟨⟩
theorem tw4467407264098264062:True:=⟨⟩
theorem tw10254017556241366150:True:=⟨⟩
theorem tw3676458559741884293:True:=⟨⟩
theorem tw6760725429878050740:True:=⟨⟩
theorem tw16691706988240615703:True:=⟨⟩
theorem tw267422106744439725:True:=⟨⟩
theorem tw16385281170121125574:True:=⟨⟩
theorem tw1743984285329343644:True:=⟨⟩
theorem tw4550625692110329026:True:=⟨⟩
theorem tw352346029649649688:True:=⟨⟩
theorem tw5894564624098989790:True:=⟨⟩
theorem tw15325063424310112191:True:=⟨⟩
theorem tw3174942238163483220:True:=⟨⟩
theorem tw260253595694580933:True:=⟨⟩
theorem tw1889025917763313258:True:=⟨⟩
theorem tw10733905793932715038:True:=⟨⟩
theorem tw7609477156783195167:True:=⟨⟩
theorem tw3317515823945186167:True:=⟨⟩
theorem tw9989058867156168605:True:=⟨⟩
theorem tw3404824328269322322:True:=⟨⟩
theorem tw9616029730412220769:True:=⟨⟩
theorem tw16654592173504096599:True:=⟨⟩
theorem tw13006004681729655051:True:=⟨⟩
theorem tw5885332742293996051:True:=⟨⟩
theorem tw2821432748254425533:True:=⟨⟩
theorem tw1578867547662317500:True:=⟨⟩
theorem tw6807140046458469860:True:=⟨⟩
theorem tw6935958660263474783:True:=⟨⟩
theorem tw1596326132579904117:True:=⟨⟩
theorem tw14848584060403120886:True:=⟨⟩
theorem tw7291839274951103854:True:=⟨⟩
theorem tw12067511626285676462:True:=⟨⟩
theorem tw16861865346669805998:True:=⟨⟩
theorem tw914985266953524016:True:=⟨⟩
theorem tw12702439611903886859:True:=⟨⟩
theorem tw13847702269644097741:True:=⟨⟩
theorem tw18101042896117188477:True:=⟨⟩
theorem tw344999235039044853:True:=⟨⟩
theorem tw8214367070122786407:True:=⟨⟩
theorem tw1254461420714423325:True:=⟨⟩
theorem tw15860790852219247815:True:=⟨⟩
theorem tw9553004624229244139:True:=⟨⟩
theorem tw1752631451613672378:True:=⟨⟩
theorem tw9370192891286058487:True:=⟨⟩
theorem tw3670581745279402806:True:=⟨⟩
theorem tw3020352298452830431:True:=⟨⟩
theorem tw14403199785910177837:True:=⟨⟩
theorem tw1494637798428803674:True:=⟨⟩
theorem tw13009059399327026970:True:=⟨⟩
theorem tw15031247681962441489:True:=⟨⟩
theorem tw2253809969502858226:True:=⟨⟩
theorem tw8048277121045696249:True:=⟨⟩
theorem tw1014242851096524893:True:=⟨⟩
theorem tw8790859513836541294:True:=⟨⟩
theorem tw18342864346177763433:True:=⟨⟩
theorem tw11161607118781278856:True:=⟨⟩
theorem tw8525643664071334441:True:=⟨⟩
theorem tw1516939884572106573:True:=⟨⟩
theorem tw17422600471880741828:True:=⟨⟩
theorem tw15968298250072809219:True:=⟨⟩
theorem tw9739739581198277367:True:=⟨⟩
theorem tw11555650686689700233:True:=⟨⟩
theorem tw7173062676602076769:True:=⟨⟩
theorem tw15447812391651426487:True:=⟨⟩
theorem tw9842533625063401095:True:=⟨⟩
theorem tw12581629407682866078:True:=⟨⟩
theorem tw62286996595631220:True:=⟨⟩
theorem tw18139063741445145723:True:=⟨⟩
theorem tw11792671626856692305:True:=⟨⟩
theorem tw2861513100768517202:True:=⟨⟩
theorem tw7451570616028892088:True:=⟨⟩
theorem tw1722545550490534346:True:=⟨⟩
theorem tw1337460337088117568:True:=⟨⟩
theorem tw11569256968963269864:True:=⟨⟩
theorem tw13828426596649134270:True:=⟨⟩
theorem tw2784463412627640255:True:=⟨⟩
theorem tw11906638330261484734:True:=⟨⟩
theorem tw9169358038837547048:True:=⟨⟩
theorem tw1383612450217789104:True:=⟨⟩
theorem tw12293410052654481988:True:=⟨⟩
theorem tw4390143644504333070:True:=⟨⟩
theorem tw109672597635087627:True:=⟨⟩
theorem tw16824489119920954242:True:=⟨⟩
theorem tw8573642854113333954:True:=⟨⟩
theorem tw4279463783737959353:True:=⟨⟩
theorem tw771076382893794431:True:=⟨⟩
theorem tw9568640272056060362:True:=⟨⟩
theorem tw10113421902011957388:True:=⟨⟩
theorem tw6673455963169127109:True:=⟨⟩
theorem tw1861549463638650574:True:=⟨⟩
theorem tw12647545722974107963:True:=⟨⟩
theorem tw3770391278177206039:True:=⟨⟩
theorem tw16688957883708420057:True:=⟨⟩
theorem tw7591215866652829728:True:=⟨⟩
theorem tw3300103265055909767:True:=⟨⟩
theorem tw6505771427991323703:True:=⟨⟩
theorem tw7779606662447795393:True:=⟨⟩
theorem tw13079954726821444215:True:=⟨⟩
theorem tw16444141412743020761:True:=⟨⟩
theorem tw2116261484526964448:True:=⟨⟩
theorem tw10933730773067206490:True:=⟨⟩
theorem tw8113477331585047053:True:=⟨⟩
theorem tw11598311622494932939:True:=⟨⟩
theorem tw17438198223710347713:True:=⟨⟩
theorem tw10163004307977225423:True:=⟨⟩
theorem tw14656436762411134428:True:=⟨⟩
theorem tw2098061545976182593:True:=⟨⟩
theorem tw5178087826079943570:True:=⟨⟩
theorem tw1183206425545455968:True:=⟨⟩
theorem tw9655792968493958956:True:=⟨⟩
theorem tw17034735556872314805:True:=⟨⟩
theorem tw16607621953551042197:True:=⟨⟩
theorem tw9131197392450303596:True:=⟨⟩
theorem tw14927696832134606137:True:=⟨⟩
theorem tw7553452043109490364:True:=⟨⟩
theorem tw15653201619316991310:True:=⟨⟩
theorem tw6860788657505484531:True:=⟨⟩
theorem tw13279437778604537676:True:=⟨⟩
theorem tw5833218980932349311:True:=⟨⟩
theorem tw4980892341571195801:True:=⟨⟩
theorem tw19748710280298997:True:=⟨⟩
theorem tw10058551513668756195:True:=⟨⟩
theorem tw5331188873951228226:True:=⟨⟩
theorem tw3250782264848312410:True:=⟨⟩
theorem tw6059168120639914567:True:=⟨⟩
theorem tw14293876652582905016:True:=⟨⟩
theorem tw3136237445617311522:True:=⟨⟩
theorem tw8878655193944095145:True:=⟨⟩
theorem tw17157231235459655867:True:=⟨⟩
theorem tw2451499047435882346:True:=⟨⟩
theorem tw3427149050269514825:True:=⟨⟩
theorem tw204247929668500141:True:=⟨⟩
theorem tw2132232584914296780:True:=⟨⟩
theorem tw6269887847787418774:True:=⟨⟩
theorem tw6823057609768080576:True:=⟨⟩
theorem tw7222985308676336889:True:=⟨⟩
theorem tw14451403863401530968:True:=⟨⟩
theorem tw1030546228948605617:True:=⟨⟩
theorem tw16842534535921032246:True:=⟨⟩
theorem tw9363046443639511276:True:=⟨⟩
theorem tw6659352046281257153:True:=⟨⟩
theorem tw2363240180776996979:True:=⟨⟩
theorem tw8263494050873789851:True:=⟨⟩
theorem tw12770828826828059456:True:=⟨⟩
theorem tw14659969167232903852:True:=⟨⟩
theorem tw760893396884460463:True:=⟨⟩
theorem tw15546056752668795514:True:=⟨⟩
theorem tw14213428329695688121:True:=⟨⟩
theorem tw12083208760473531488:True:=⟨⟩
theorem tw190844396091077476:True:=⟨⟩
theorem tw5262652400327676127:True:=⟨⟩
theorem tw928231133166417416:True:=⟨⟩
theorem tw3006439484739645033:True:=⟨⟩
theorem tw9619857669421537145:True:=⟨⟩
theorem tw9245894942915939570:True:=⟨⟩
theorem tw6730185365453571789:True:=⟨⟩
theorem tw13904677933886442093:True:=⟨⟩
theorem tw13059194835814952399:True:=⟨⟩
theorem tw14042806731146487707:True:=⟨⟩
theorem tw733567245428475337:True:=⟨⟩
theorem tw15441148518910734355:True:=⟨⟩
theorem tw9536226336546711397:True:=⟨⟩
theorem tw3477883160459326918:True:=⟨⟩
theorem tw10041111732729274195:True:=⟨⟩
theorem tw12199164390292526394:True:=⟨⟩
theorem tw10261773928770500297:True:=⟨⟩
theorem tw10124630261872272015:True:=⟨⟩
theorem tw15812616243908042699:True:=⟨⟩
theorem tw15701713259658467047:True:=⟨⟩
theorem tw939340195908990706:True:=⟨⟩
theorem tw16762443794611536946:True:=⟨⟩
theorem tw15993684573166997967:True:=⟨⟩
theorem tw13481303149685425451:True:=⟨⟩
theorem tw8607287671032833868:True:=⟨⟩
theorem tw15954698986080809416:True:=⟨⟩
theorem tw9048363034753796412:True:=⟨⟩
theorem tw7699507332272404225:True:=⟨⟩
theorem tw703192284586320248:True:=⟨⟩
theorem tw18401315352684736870:True:=⟨⟩
theorem tw4777436162886668022:True:=⟨⟩
theorem tw3819228290642566389:True:=⟨⟩
theorem tw5415375787196114099:True:=⟨⟩
theorem tw8925107309291315566:True:=⟨⟩
theorem tw376236177825241454:True:=⟨⟩
theorem tw15180253238644760103:True:=⟨⟩
theorem tw16344114881423896871:True:=⟨⟩
theorem tw14708737451755757401:True:=⟨⟩
theorem tw9283357160092403657:True:=⟨⟩
theorem tw14087402200679437142:True:=⟨⟩
theorem tw5859043198864492332:True:=⟨⟩
theorem tw7635707013355839850:True:=⟨⟩
theorem tw438979076002667565:True:=⟨⟩
theorem tw14920481612456254438:True:=⟨⟩
theorem tw5252114998629757122:True:=⟨⟩
theorem tw6735225995140945019:True:=⟨⟩
theorem tw5350057829492430452:True:=⟨⟩
theorem tw11243419280642618896:True:=⟨⟩
theorem tw2579082265635173771:True:=⟨⟩
theorem tw9423855815842571913:True:=⟨⟩
theorem tw9020629701906813372:True:=⟨⟩
theorem tw18142248966308263051:True:=⟨⟩
theorem tw3417493735599879099:True:=⟨⟩
theorem tw17890544599529413215:True:=⟨⟩
theorem tw15806801934503834652:True:=⟨⟩
theorem tw13873571353313187478:True:=⟨⟩
theorem tw4162536942168068333:True:=⟨⟩
theorem tw6794944665084774465:True:=⟨⟩
theorem tw13922872487186769327:True:=⟨⟩
theorem tw906991482986392437:True:=⟨⟩
theorem tw3258614917915805606:True:=⟨⟩
theorem tw16966603658875764796:True:=⟨⟩
theorem tw6618986779655265842:True:=⟨⟩
theorem tw2840240838335455527:True:=⟨⟩
theorem tw8500043575399613887:True:=⟨⟩
theorem tw17752180026123150061:True:=⟨⟩
theorem tw14628371672140887915:True:=⟨⟩
theorem tw12875587570465437266:True:=⟨⟩
theorem tw6768974577338330446:True:=⟨⟩
theorem tw2712633481018925480:True:=⟨⟩
theorem tw16333694543051264487:True:=⟨⟩
theorem tw5968949514588882009:True:=⟨⟩
theorem tw15113621954451773982:True:=⟨⟩
theorem tw12749183953720893575:True:=⟨⟩
theorem tw1555242242161084504:True:=⟨⟩
theorem tw3617786337331493089:True:=⟨⟩
theorem tw4570444402020031730:True:=⟨⟩
theorem tw6240344259278726141:True:=⟨⟩
theorem tw1061537168641328522:True:=⟨⟩
theorem tw5960741238435415007:True:=⟨⟩
theorem tw3675057922754672365:True:=⟨⟩
theorem tw3743984501439939651:True:=⟨⟩
theorem tw15964863664002864008:True:=⟨⟩
theorem tw13269918373782953652:True:=⟨⟩
theorem tw11938582264398041436:True:=⟨⟩
theorem tw12157119123902391058:True:=⟨⟩
theorem tw5883973499380679842:True:=⟨⟩
theorem tw18019136766246829571:True:=⟨⟩
theorem tw8826803765705086319:True:=⟨⟩
theorem tw266931240113206700:True:=⟨⟩
theorem tw9751159766246478193:True:=⟨⟩
theorem tw9055518997457272923:True:=⟨⟩
theorem tw17745396949536896047:True:=⟨⟩
theorem tw13874703180145177089:True:=⟨⟩
theorem tw12392858657343384436:True:=⟨⟩
theorem tw8028892158540332105:True:=⟨⟩
theorem tw2634064701002037788:True:=⟨⟩
theorem tw934282588166139090:True:=⟨⟩
theorem tw1429683200487606358:True:=⟨⟩
theorem tw12994888291529435557:True:=⟨⟩
theorem tw4331094213197930250:True:=⟨⟩
theorem tw15846965025551864897:True:=⟨⟩
theorem tw17801574938374959649:True:=⟨⟩
theorem tw5086955185408467749:True:=⟨⟩
theorem tw18035611870289582423:True:=⟨⟩
theorem tw3393435424494579388:True:=⟨⟩
theorem tw18071108618426043696:True:=⟨⟩
theorem tw2847109955789110855:True:=⟨⟩
theorem tw5904052796711694239:True:=⟨⟩
theorem tw17287553904454729678:True:=⟨⟩
theorem tw18358296882306218167:True:=⟨⟩
theorem tw13280777531753536362:True:=⟨⟩
theorem tw9830644932440356239:True:=⟨⟩
theorem tw5796762334433364850:True:=⟨⟩
theorem tw8307544690461397273:True:=⟨⟩
theorem tw1192824661717073834:True:=⟨⟩
theorem tw6000967040401431954:True:=⟨⟩
theorem tw957119168495062285:True:=⟨⟩
theorem tw1969295530375315375:True:=⟨⟩
theorem tw17057400486977763929:True:=⟨⟩
theorem tw14436668056667150288:True:=⟨⟩
theorem tw8719848177830726296:True:=⟨⟩
theorem tw2459638215916213468:True:=⟨⟩
theorem tw1106966606205723013:True:=⟨⟩
theorem tw2271271192968872204:True:=⟨⟩
theorem tw8241984860285403784:True:=⟨⟩
theorem tw8695295864041701314:True:=⟨⟩
theorem tw8745937137867882369:True:=⟨⟩
theorem tw13762214963289813692:True:=⟨⟩
theorem tw7488105652243185055:True:=⟨⟩
theorem tw12121606270519251710:True:=⟨⟩
theorem tw11284211138725676481:True:=⟨⟩
theorem tw2923676065392642721:True:=⟨⟩
theorem tw2423584641432518179:True:=⟨⟩
theorem tw11111023635133029860:True:=⟨⟩
theorem tw11900941197666592786:True:=⟨⟩
theorem tw9598004817114077572:True:=⟨⟩
theorem tw3385186006784386845:True:=⟨⟩
theorem tw8697190425599941377:True:=⟨⟩
theorem tw15689629566696330730:True:=⟨⟩
theorem tw7456300653069134962:True:=⟨⟩
theorem tw1747281770768087551:True:=⟨⟩
theorem tw16788514217436043526:True:=⟨⟩
theorem tw9515105149294298604:True:=⟨⟩
theorem tw12768419492084881115:True:=⟨⟩
theorem tw9651453602196793314:True:=⟨⟩
theorem tw3572400409565605118:True:=⟨⟩
theorem tw4698732231820773771:True:=⟨⟩
theorem tw13888630106819199411:True:=⟨⟩
theorem tw2980994484768355456:True:=⟨⟩
theorem tw17801559984416257761:True:=⟨⟩
theorem tw11645481254589891324:True:=⟨⟩
theorem tw16909702710007972907:True:=⟨⟩
theorem tw17041325100059804274:True:=⟨⟩
theorem tw9409673787185956924:True:=⟨⟩
theorem tw6484330555186295123:True:=⟨⟩
theorem tw13861190055285063558:True:=⟨⟩
theorem tw13214198467781692300:True:=⟨⟩
theorem tw335829099996532629:True:=⟨⟩
theorem tw4005569377587213126:True:=⟨⟩
theorem tw327676629983893212:True:=⟨⟩
theorem tw17138157147471039570:True:=⟨⟩
theorem tw8568384287659012012:True:=⟨⟩
theorem tw9718583915865701708:True:=⟨⟩
theorem tw3326313256979448158:True:=⟨⟩
theorem tw5095718961421580917:True:=⟨⟩
theorem tw13668149889406490785:True:=⟨⟩
theorem tw17716200548790100741:True:=⟨⟩
theorem tw8297835644794951163:True:=⟨⟩
theorem tw14136815000505235253:True:=⟨⟩
theorem tw6764049825769342281:True:=⟨⟩
theorem tw6301301968441208930:True:=⟨⟩
theorem tw3691011881242383459:True:=⟨⟩
theorem tw5051625801382164552:True:=⟨⟩
theorem tw8248243293326159960:True:=⟨⟩
theorem tw5458297274757249799:True:=⟨⟩
theorem tw14013409186830242281:True:=⟨⟩
theorem tw5223649358955567557:True:=⟨⟩
theorem tw11266255353993875117:True:=⟨⟩
theorem tw12367619726026237299:True:=⟨⟩
theorem tw11701378177559729427:True:=⟨⟩
theorem tw18117305327556584776:True:=⟨⟩
theorem tw1493230170278886115:True:=⟨⟩
theorem tw618106222269379786:True:=⟨⟩
theorem tw1885446896225380872:True:=⟨⟩
theorem tw2880889887612502050:True:=⟨⟩
theorem tw9789263874372210995:True:=⟨⟩
theorem tw17945306131047292822:True:=⟨⟩
theorem tw1469740132320662800:True:=⟨⟩
theorem tw18409886047899658469:True:=⟨⟩
theorem tw825091147483190900:True:=⟨⟩
theorem tw12960698491982179860:True:=⟨⟩
theorem tw15300326485615942791:True:=⟨⟩
theorem tw240091449671259848:True:=⟨⟩
theorem tw16099331206427304825:True:=⟨⟩
theorem tw4673053010070935410:True:=⟨⟩
theorem tw5872406951060278158:True:=⟨⟩
theorem tw6526143291281363890:True:=⟨⟩
theorem tw15890594315363037409:True:=⟨⟩
theorem tw12862910740864621627:True:=⟨⟩
theorem tw557302385401852781:True:=⟨⟩
theorem tw12316421045076393373:True:=⟨⟩
theorem tw15983970456253119650:True:=⟨⟩
theorem tw14958727829777386666:True:=⟨⟩
theorem tw16563311695828179607:True:=⟨⟩
theorem tw13664642364822177988:True:=⟨⟩
theorem tw18212567545869005578:True:=⟨⟩
theorem tw1909222028776956906:True:=⟨⟩
theorem tw3336241194635979495:True:=⟨⟩
theorem tw5179088808312337835:True:=⟨⟩
theorem tw14606751178510698630:True:=⟨⟩
theorem tw7220349812107469278:True:=⟨⟩
theorem tw5359853056724840748:True:=⟨⟩
theorem tw4149422174997899628:True:=⟨⟩
theorem tw14584910032598941646:True:=⟨⟩
theorem tw3611487616794388042:True:=⟨⟩
theorem tw7772301644188008397:True:=⟨⟩
theorem tw1633543643577999337:True:=⟨⟩
theorem tw12474774814139523403:True:=⟨⟩
theorem tw3623261762174237514:True:=⟨⟩
theorem tw11235016943218839837:True:=⟨⟩
theorem tw10174266390384834753:True:=⟨⟩
theorem tw14005070209222523329:True:=⟨⟩
theorem tw8487370379798808712:True:=⟨⟩
theorem tw5882897679174938922:True:=⟨⟩
theorem tw14026812924202636283:True:=⟨⟩
theorem tw17763996566798662647:True:=⟨⟩
theorem tw1028616852317555425:True:=⟨⟩
theorem tw15512918775244554147:True:=⟨⟩
theorem tw8785139369082003724:True:=⟨⟩
theorem tw12618679846862128476:True:=⟨⟩
theorem tw14675823627091861579:True:=⟨⟩
theorem tw17227303122310146788:True:=⟨⟩
theorem tw1683984809899008240:True:=⟨⟩
theorem tw888096151245633987:True:=⟨⟩
theorem tw1241189032616261901:True:=⟨⟩
theorem tw9516706804038886818:True:=⟨⟩
theorem tw18070093023355207537:True:=⟨⟩
theorem tw10864897186690260293:True:=⟨⟩
theorem tw6086807156931220490:True:=⟨⟩
theorem tw10079377343731762118:True:=⟨⟩
theorem tw6322536323008770986:True:=⟨⟩
theorem tw16014967070107992556:True:=⟨⟩
theorem tw6512556308131383118:True:=⟨⟩
theorem tw14800907574788314059:True:=⟨⟩
theorem tw4360144791978216640:True:=⟨⟩
theorem tw9169121580204929614:True:=⟨⟩
theorem tw3689464790048046001:True:=⟨⟩
theorem tw11839527984156485896:True:=⟨⟩
theorem tw1725249402385378726:True:=⟨⟩
theorem tw16627813290206246654:True:=⟨⟩
theorem tw11840532058243149215:True:=⟨⟩
theorem tw2920596104714119268:True:=⟨⟩
theorem tw672323930735915641:True:=⟨⟩
theorem tw3545908701736084419:True:=⟨⟩
theorem tw166129544284156743:True:=⟨⟩
theorem tw15262331835828805388:True:=⟨⟩
theorem tw9530142020198532466:True:=⟨⟩
theorem tw6963716799653584437:True:=⟨⟩
theorem tw8076849623296056696:True:=⟨⟩
theorem tw9245771650093529636:True:=⟨⟩
theorem tw7771126432263488985:True:=⟨⟩
theorem tw12299688906667253937:True:=⟨⟩
theorem tw3138600942627909542:True:=⟨⟩
theorem tw8089800264351707110:True:=⟨⟩
theorem tw645367854826964683:True:=⟨⟩
theorem tw10890274342043448409:True:=⟨⟩
theorem tw9471035387058401481:True:=⟨⟩
theorem tw4251548077081958744:True:=⟨⟩
theorem tw3561717403517207620:True:=⟨⟩
theorem tw5899368942274479872:True:=⟨⟩
theorem tw11511591832720080311:True:=⟨⟩
theorem tw5975211616702454401:True:=⟨⟩
theorem tw14354364698627397767:True:=⟨⟩
theorem tw1012300750442840510:True:=⟨⟩
theorem tw6132338565829515251:True:=⟨⟩
theorem tw16354171187363585742:True:=⟨⟩
theorem tw9541656311588976914:True:=⟨⟩
theorem tw1608006852007436636:True:=⟨⟩
theorem tw15427883583785852306:True:=⟨⟩
theorem tw6645514235748222435:True:=⟨⟩
theorem tw3053521228913312594:True:=⟨⟩
theorem tw2573393191921794065:True:=⟨⟩
theorem tw15055180515576489492:True:=⟨⟩
theorem tw4886057345521789924:True:=⟨⟩
theorem tw8384125286459499093:True:=⟨⟩
theorem tw17222699097290880279:True:=⟨⟩
theorem tw667564889778299446:True:=⟨⟩
theorem tw2985595170704429488:True:=⟨⟩
end PySem.W.Fast
end
set_option maxRecDepth 100000 in
set_option maxHeartbeats 0 in
theorem PySem.Challenge.cw_copymeet_k66_sums_and_choices_of_deeds_holds : PySem.Challenge.rw_copymeet_k66_sums_and_choices_of_deeds.Holds := by
 w_on; o_law; k_head; (case hw=>w_witness2)
 k_fill
 refine K66.walk (l:=PySem.Challenge.rw_copymeet_k66_sums_and_choices_of_deeds) rfl rfl (fun w h Y=>PySem.W.kIn_of Y) ?F
 case F=>
  intro w mg fa h KX G hmg
  have hbn:∀ x∈K66.bsL,mg x=none:=fun x hx=>by
   iterate 12 (rcases List.mem_cons.mp hx with rfl | hx; · exact PySem.W.mg_none_of KX G (by k_is))
   cases hx
  refine' K66.all_mk KX G hmg hbn ?h0 ?h1 ?h2 ?h3 ?h4 ?h5 ?h6 ?h7 ?h8 ?h9 ?h10 ?h11 ?h12 ?h13 ?h14 ?h15 ?h16
  (case h0=>repeat' first | exact trivial | refine ⟨⟨_,by k_is,_,_,_,_,_,_,_,_,_,by k_is,by k_is,by k_is⟩,?_⟩)
  (case h1=>exact ⟨by k_is,by k_is,by k_is,by k_is,by k_is,by k_is,by k_is,by k_is,by k_is,by k_is,by k_is,by k_is,by k_is,trivial⟩)
  (case h2=>repeat' first | exact trivial | refine ⟨⟨_,by k_is,by k_is,_,_,_,_,_,_,_,_,_,by k_is,by k_is,by k_is⟩,?_⟩)
  (case h3=>exact ⟨by k_is,by k_is,by k_is,by k_is,by k_is,by k_is,by k_is,by k_is,by k_is,by k_is,by k_is,by k_is,by k_is,trivial⟩)
  (case h4=>repeat' first | exact trivial | refine ⟨⟨_,by k_is,by k_is,_,_,_,_,_,_,_,_,_,by k_is,by k_is,by k_is⟩,?_⟩)
  (case h5=>exact ⟨by k_is,by k_is,by k_is,by k_is,by k_is,by k_is,by k_is,by k_is,by k_is,by k_is,by k_is,by k_is,by k_is,trivial⟩)
  (case h6=>repeat' first | exact trivial | refine ⟨⟨_,by k_is,by k_is,_,_,_,_,_,_,_,_,_,by k_is,by k_is,by k_is⟩,?_⟩)
  (case h7=>exact ⟨by k_is,by k_is,by k_is,by k_is,by k_is,by k_is,by k_is,by k_is,by k_is,by k_is,by k_is,by k_is,by k_is,trivial⟩)
  (case h8=>repeat' first | exact trivial | refine ⟨⟨_,by k_is,by k_is,_,_,_,_,_,_,_,_,_,by k_is,by k_is,by k_is⟩,?_⟩)
  case h9|h10|h13|h14=>k_is
  (case h11=>exact ⟨rfl,⟨_,rfl⟩,⟨_,rfl⟩,rfl,⟨_,rfl⟩,⟨_,rfl⟩,rfl,⟨_,rfl⟩,⟨_,rfl⟩,rfl,⟨_,rfl⟩,⟨_,rfl⟩,rfl,⟨_,rfl⟩,⟨_,rfl⟩,rfl,⟨_,rfl⟩,⟨_,rfl⟩,rfl,⟨_,rfl⟩,⟨_,rfl⟩,rfl,⟨_,rfl⟩,⟨_,rfl⟩,trivial⟩)
  (case h12=>decide +kernel)
  (case h15=>exact (.cons ⟨_,rfl⟩ (.cons ⟨_,rfl⟩ .nil)))
  (case h16=>decide +kernel)
