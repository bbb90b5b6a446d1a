import PyProof.Rows.All
import Wide.All
import OpenK.AllK
import Wide.FinOn
import Lean
import PyProof.EqAt
import PyProof.EqKinds
import PyProof.TupleCall
import PyProof.NeKinds
import KE.KDictOf
import PyProof.AttrMissHeap
import PyProof.WalksMore
import PyProof.MeetsDict
import KE.KDictList
import KE.KRevIter
import PyProof.DictItemsLoops
import PyProof.DictWalks
import KE.KSortTup
import KE.KDictSum
import PyProof.SumAny
import PyProof.Conv_int_bool
import PyProof.Conv_int
import KE.KRevSl
import PyProof.MeetsStr
import PyProof.StrCalls3
import PyProof.Rows.TupDisplay
import PyProof.ZipIter
import PyProof.Draws
import PyProof.EnumMake
import PySem.Challenge.RW_copymeet_k67_bags_of_deeds
set_option compiler.extract_closed false
open PySem renaming wpAny_bind->SB,wpAny_pure->SL,sizeLine->Ve,starEach->Vl,wpAny_newObj_type->Vo,wpAny_callSpecial?_slot->VC,wpAny_call_entry->VD,compareOp->VG,Spec->VL,wpAny_holding->VO,sizeLine_eq->VQ,cellsFrom->V6,mainGlobals->We,wpAny_Call_Name_kw->Wh,sysModules->Wi,wpAny_isInstance->Wn,wpAny_dictEntries->Ws,wpAny_ite_false->WA,binaryOp->WB,wpAny_mono->WE,foldedSetIterable->WG,FuncData->WU,wpAny_attempt->W0,wpAny_fieldsOf->W1,firstArgMember->W3,builtinLookup_eq_fast->W6,wpAny_dictEpoch->W7,wpAny_typeNameOfWhole_itemiter->W9,wpAny_typeNameOfWhole_valiter->Xc,wpAny_of_eq->Xd,wpAny_typeNameOfWhole_keyiter->Xe,attributeBase->Xf,wpAny_specialOf->Xn,codeAny_builtin->Xo,assignEach->Xr,bootBuiltins->Xt,wpAny_typeOf->Xv,DictEntry->Xw,wpAny_notOrdered_dict->XA,wpAny_setField->XH,wpAny_typeNameOf_itemiter->XJ,wpAny_passesOwn->XN,wpAny_truthy_bool->XO,wpAny_rule->XT,wpAny_pyIter_slot->XZ,wpAny_typeNameOf_valiter->X0,wpAny_setState_of->X1,wpAny_typeNameOf_keyiter->X3,mem_of_lookup->X6,plainId_quiet->X8,SetTable->X9,wpAny_setEntries_of->Yb,NameKind->Yi,tupleKind_room_in1->Yj,typeLookup_type->Yo,wpAny_askSetting->YA,wpAny_field->YE,swapsWith->YI,setField->YL
open List renaming getElem?_eq_some_iff->SC,mem_cons_self->UV,length_map->U5,mem_cons_of_mem->U8,mem_cons->U9,size_toArray->Va,prefix_rfl->Vb,mem_singleton->Vc,mem_append_right->Vf,map_cons->Vi,getElem?_map->Vk,range->Vm,mem_map->Vp,pairwise_cons->Vt,mem_append->Vx,all_eq_true->Vy,prefix_append->VA,lookup_cons->VF,getElem?_set_ne->VH,mem_of_getElem?->VI,map_map->VJ,getElem?_eq_getElem->VM,length_cons->VN,getElem?_append_left->VT,map_append->VW,getElem?_set_self->VZ,pairwise_map->V2,length_take->V7,getElem_mem->V9,pairwise_iff_getElem->Wa,mem_append_left->Wc,filterMap_cons->Wj,nodup_cons->Wl,getElem?_cons_succ->Wq,ext_getElem?->Wr,getElem?_append_right->Wu,getD_eq_getElem?_getD->Wv,append_nil->Wy,length_set->Wz,map_congr_left->WC,mem_filter->WK,length_append->WL,filter_cons->WT,take_add_one->WX,find?_cons->W5,mem_range->Xh,nodup_append->Xk,take_of_length_le->Xq,take_length->Xs,toArray->Xy,getElem?_eq_none->XC,replicate->XD,append_assoc->XS,length_range->XX,not_lt->X7,pairwise_singleton->Ya,map_take->Yc,length_reverse->Yd,filter_sublist->Ye,eq_nil_of_length_eq_zero->Yf,range_succ_eq_map->Yg,all_cons->Yq,any_cons->Yr,cons_append->Yx,not_mem_nil->Yz,ext_getElem->YB,lookup->YC
open PySem.Heap renaming get?_push_of_some->SZ,get?_push_size->U7,lt_size->Vd,get?_update_self->VU,get?_update_other->Wg,SameBut->WD,size_push->Xi,get?_push_ne->XU,size_update->Yy
open PySem.W renaming Frag->UF,findIn->V3,kia_one->V5,emptyDict->WH,fnOf->WS,keepIn->WZ,instObj->Xm,mg_of->Yt,plainGet->Yw,codeIn->YS,nsIn->YU
open Nat renaming le_refl->U6,ne_of_lt->Vh,lt_of_lt_of_le->Vs,zero_le->Vw,le_trans->VS,lt_or_eq_of_le->WN,ne_of_gt->WR,lt_irrefl->WY,le_of_lt->Xu,lt_succ_of_lt->XW,le_succ_of_le->XY,le_succ->YD,lt_trans->YG
open PySem.Str renaming ofString->Vg,length->XR
open Bool renaming false_ne_true->Vj,and_eq_true->VE,false_eq_true->VV,eq_iff_iff->W4,beq_eq_decide_eq->Yp
open PySem.Value renaming none->Vn,ref->Vu,int->Wt,type->WV
open Array renaming getElem?_eq_getElem->Vq,getElem?_eq_none->VP,getElem?_toList->V4,length_toList->X5,getD->YQ
open Option renaming map_eq_some_iff->Vr,isSome_some->YJ,map_some->YN
open Option.some renaming inj->Vv
open PySem.Heap.SameBut renaming update->Vz
open PySem.Obj renaming mapSeq->VB,mapFields->W2,data_mapFields->Xa,isFreed_of_fields->XB
open PySem.Builtin.Dict_items renaming ownsTuple->VR
open PySem.Paired renaming length->VX
open PySem.NameKind renaming free->VY,cell->YK
open PyProof.Rows renaming slot_tuple_getitem->V0,callWith_type1->Wm,listUpdate_at->Xz,mirror_perm->Ym,get?_update_seq->Yn
open PySem.Builtin.List renaming listExtendWith->V1,listLengthHint->WO,listSameRef->Xb,listTouch->Yh,listTooLong->YF
open PySem.F renaming slot_dict_itemiterator_next->V8,slot_dict_valueiterator_next->Ww,slot_dict_keyiterator_next->WJ,plainAttrs_dict->Xg,slot_dict_get->Xx,called_set->YH
open PySem.Builtin.Tuple renaming tupleHashOf->Wb,tupleExact->XQ,tupleItemsOf->Yu
open Sum renaming inr->Wd
open PySem.SetTable renaming fresh->Wo,below->XM,grown->YT
open True renaming intro->Wp
open Ne renaming symm->Wx
open PySem.Txt renaming slice->WI
open Classical renaming propDecidable->WM
open PySem.Around renaming under_plainId->WQ
open False renaming elim->WW
open PySem.Builtin.Dict renaming showsAll->W8
open PyProof.Rows.F renaming plain_set_update_loop->Xj
open Int renaming toNat_natCast->Xl,emod_nonneg->YM
open PySem.Calls renaming callWith_builtin->Xp
open PySem.Builtin.Slice renaming slicePlaces->XE,sliceAdjust->Yv
open List.Perm renaming refl->XF,eq_of_pairwise->X2
open List.Nodup renaming length_le_of_subset->X4
open PySem.Builtin.Str renaming strSliceIndices->Yk,glued->YR
open Array.Perm renaming refl->Yl
open List.Pairwise renaming nil->Ys
open Function renaming comp_def->YO
open PySem PySem.Spec PyProof.Rows
open Option renaming some->a_,none->b_
open PySem renaming Value->s_,Shared->td,Addr->t_,Around->v_,Heap->w_,World->x_,Program->y_,Expr->z_,Stmt->A_

local macro_rules|`(tactic|omega)=>`(tactic|lia)
local macro_rules|`(c_ $x)=>`(some (.ref $x))
local macro_rules|`(d_ $x)=>`(some (.int $x))
local macro_rules|`(h_ $x)=>`(PySem.model ($x).prog ($x).w)
local macro_rules|`(e_ $x)=>`(($x).heap.objs.size)
local macro_rules|`(f_ 0)=>`(PySem.Value->PySem.Shared->Prop)
local macro_rules|`(g_ 0)=>`(List (PySem.Addr×PySem.Obj))
local macro_rules|`(j_ $x)=>`($x->PySem.Shared->Prop)
local macro_rules|`(m_ $p $w $x*)=>`(PySem.wpAny (PySem.model $p $w) $x*)
local macro_rules|`(l_ $x)=>`(by simpa using $x)
local macro_rules|`(⋯)=>`(by omega)
local macro_rules|`(nofun)=>`(by decide)
local macro_rules|`(n_ 0)=>`(Array (Option PySem.Value))
local macro_rules|`(o_ 0)=>`(PySem.Str->Option PySem.Value)
open Lean Parser Tactic in
def p_:Nat->Syntax->MacroM (TSyntax `rcasesPat)
|n+1,s=>match s with
 |`($x:ident)=>`(rcasesPat|$x:ident)
 |`(⟨$xs,*⟩)=>do
  let ys<-xs.getElems.mapM λx=>do`(rcasesPatLo|$(<-p_ n x):rcasesPat)
  `(rcasesPat|⟨$ys,*⟩)
 |_=>`(rcasesPat|_)
|_,_=>Macro.throwUnsupported
open Lean Parser Tactic in
local macro_rules|`(tactic|let $p:term:=$e)=>do let q<-`(rcasesPatMed|$(<-p_ 9 p):rcasesPat);`(tactic|obtain $q:rcasesPatMed:=$e)
local macro_rules|`(B_ $x)=>`(List $x)
local macro_rules|`(C_ $x)=>`(Option $x)
set_option bootstrap.genMatcherCode false
set_option Elab.async false
set_option linter.all false
set_option maxRecDepth 1000000
set_option maxHeartbeats 4000000
set_option hygiene false
noncomputable section
set_option genSizeOf false
local macro_rules|`(tactic|let $x:ident:=$e)=>`(tactic|have $x:ident:=$e)
local macro_rules|`(tactic|let $x:ident : $t :=$e)=>`(tactic|have $x:ident : $t :=$e)
local macro_rules|`(tactic|show $e)=>`(tactic|exact $e)
set_option hygiene false
local macro_rules|`(i_ $x*)=>`(Inv X jn σ $x*)
local macro_rules|`(k_ $x*)=>`(m_ prog w A $x*)
local macro_rules|`(r_ $x*)=>`(aB vAt $x*)
local macro_rules|`(u_ $x*)=>`(wpAny _ _ $x*)
local macro_rules|`(D_ $x*)=>`(RV C φ H $x*)
local macro_rules|`(E_ $x*)=>`(RVs C φ H $x*)
local macro_rules|`(F_ $x*)=>`(Ext.app _ $x*)
local macro_rules|`(G_ $x*)=>`(SE C k X $x*)
local macro_rules|`(H_ $x*)=>`(tC P w K mg base cl $x*)
local macro_rules|`(I_ $x*)=>`(RH C φ H $x*)
local macro_rules|`(J_ $x*)=>`(evT lt $x*)
local macro_rules|`(K_ $x*)=>`(tM P w K mg base cl $x*)
local macro_rules|`(L_ $x*)=>`(cL X.prog X.w X.K X.mg X.base $x*)
local macro_rules|`(M_ $x*)=>`(cL X.prog X.w C.K X.mg X.base CX0 j $x*)
local macro_rules|`(N_ 0)=>`(s.heap.get? b)
local macro_rules|`(O_ $x*)=>`(Ext h $x*)
local macro_rules|`(P1 $x*)=>`(i_ H $x*)
local macro_rules|`(P2 $x*)=>`(post C φ H $x*)
local macro_rules|`(P_ $x*)=>`(po.val rh $x*)
local macro_rules|`(Q_ $x*)=>`(FB h a0 l lt lm lf ll $x*)
local macro_rules|`(R_ $x*)=>`(upd H $x*)
local macro_rules|`(S1 $x*)=>`(X.comp sc $x*)
local macro_rules|`(S2 0)=>`(re.mono p1 t1)
local macro_rules|`(S_ $x*)=>`(iE X.env.cells sc.names $x*)
local macro_rules|`(T_ 0)=>`(X.env.cells.lookup x)
local macro_rules|`(U_ 0)=>`(eval e X.env)
local macro_rules|`(V_ 0)=>`(X.env.scope.names.lookup x)
local macro_rules|`(W_ 0)=>`(Vl es X.env)
local macro_rules|`(X_ $x*)=>`(s.heap.update a $x*)
local macro_rules|`(YV $x*)=>`(HT.sIx xs.length $x*)
local macro_rules|`(YW $x*)=>`(sIx items.size $x*)
local macro_rules|`(YX 0)=>`(if_pos rfl)
local macro_rules|`(YY 0)=>`(Array s_)
local macro_rules|`(YZ $x*)=>`(rh.at' n a _ ha $x*)
local macro_rules|`(Y0 0)=>`(D.depths ds)
local macro_rules|`(Y1 $x*)=>`(backTo pos $x*)
local macro_rules|`(Y2 $x*)=>`(aF kvs $x*)
local macro_rules|`(Y3 $x*)=>`(OpS C k X $x*)
local macro_rules|`(Y4 $x*)=>`(t2 w0 $x*)
local macro_rules|`(Y5 $x*)=>`(Cxt C k $x*)
local macro_rules|`(Y6 0)=>`(B_ PV)
local macro_rules|`(Y7 $x*)=>`(OpR X $x*)
local macro_rules|`(Y8 0)=>`(RE C φ H δ σ)
local macro_rules|`(Y9 $x*)=>`(katRev b $x*)
local macro_rules|`(Y_ $x*)=>`(pa' p $x*)
local macro_rules|`(Za $x*)=>`(EP X jn σ $x*)
local macro_rules|`(Zb 0)=>`(s.heap.get? a)
local macro_rules|`(Zc 0)=>`(U7 _ rfl)
local macro_rules|`(Zd 0)=>`(Array Nat)
local macro_rules|`(Ze 0)=>`(sc.names.lookup x)
local macro_rules|`(Zf 0)=>`(h'.get? b)
local macro_rules|`(Zg 0)=>`(B_ Str)
local macro_rules|`(Zh $x*)=>`(h jn s σ H $x*)
local macro_rules|`(Zi $x*)=>`(RKv C φ H $x*)
local macro_rules|`(Zj $x*)=>`(RH C φ' H' $x*)
local macro_rules|`(Zk 0)=>`(RH C φ1 H1 h1)
local macro_rules|`(Zl $x*)=>`(bT X.prog X.w $x*)
local macro_rules|`(Zm 0)=>`(c_ h.length)
local macro_rules|`(Zn 0)=>`(vs.getD i Vn)
local macro_rules|`(Zo $x*)=>`(FB h' h.length h.length lt lm lf ll $x*)
local macro_rules|`(Zp $x*)=>`(SZ _ $x*)
local macro_rules|`(Zq 0)=>`(nomatch z)
local macro_rules|`(Zr $x*)=>`(wX CX P w K mg base N qual scope f $x*)
local macro_rules|`(Zs 0)=>`(if_neg e)
local macro_rules|`(Zt 0)=>`(B_ Key)
local macro_rules|`(Zu 0)=>`(S1 N C fp s₀ H₀)
local macro_rules|`(Zv 0)=>`(s.heap.get? dc)
local macro_rules|`(Zw 0)=>`(ns.map PV.int)
local macro_rules|`(Zx 0)=>`(xs.map PV.int)
local macro_rules|`(Zy $x*)=>`(PE X $x*)
local macro_rules|`(Zz $x*)=>`(slotAt w t $x*)
local macro_rules|`(ZA $x*)=>`(Kp H $x*)
local macro_rules|`(ZC $x*)=>`(aB vEq $x*)
local macro_rules|`(ZD $x*)=>`(kas_asc p $x*)
local macro_rules|`(ZE $x*)=>`(Binds X.K fd ps $x*)
local macro_rules|`(ZF $x*)=>`(SqT K H $x*)
local macro_rules|`(ZG 0)=>`(Rs Bool)
local macro_rules|`(ZH $x*)=>`(aB aS $x*)
local macro_rules|`(ZI $x*)=>`(RelV x $x*)
local macro_rules|`(ZJ $x*)=>`(RelV v $x*)
local macro_rules|`(ZK 0)=>`(ha pos jn s σ H _ I h)
local macro_rules|`(ZL $x*)=>`(SSt C k X $x*)
local macro_rules|`(ZM $x*)=>`(cvB d.seen $x*)
local macro_rules|`(ZN $x*)=>`(kas_place p k $x*)
local macro_rules|`(ZO $x*)=>`(h.set n $x*)
local macro_rules|`(ZP 0)=>`(mk2 w0)
local macro_rules|`(ZQ 0)=>`(B_ s_)
local macro_rules|`(ZR 0)=>`(sv d.seen)
local macro_rules|`(ZS 0)=>`(ns.map V.int)
local macro_rules|`(ZT 0)=>`(eval o X.env)
local macro_rules|`(ZU $x*)=>`(cP b vs.length $x*)
local macro_rules|`(ZV 0)=>`(E_ xs vs)
local macro_rules|`(ZW $x*)=>`(SqL K H $x*)
local macro_rules|`(ZX $x*)=>`(envOfC qual scope $x*)
local macro_rules|`(ZY $x*)=>`(aB cM $x*)
local macro_rules|`(Z0 $x*)=>`(Inv X jn σ' H' $x*)
local macro_rules|`(Z1 0)=>`(t.fits es.size)
local macro_rules|`(Z2 0)=>`(ds.map dP)
local macro_rules|`(Z3 0)=>`(I.tok _)
local macro_rules|`(Z4 0)=>`(zs.map PV.str)
local macro_rules|`(Z5 0)=>`(pv t.nm)
local macro_rules|`(Z6 $x*)=>`(k _ _ $x*)
local macro_rules|`(Z7 0)=>`(C_ Int)
local macro_rules|`(Z8 0)=>`(model prog w)
local macro_rules|`(Z9 0)=>`(B_ Int)
local macro_rules|`(Z_ 0)=>`(if_pos e)
local macro_rules|`(q0a $x*)=>`(cL P w K mg base $x*)
local macro_rules|`(q0b $x*)=>`(s.heap.update it $x*)
local macro_rules|`(q0c 0)=>`(RKd C φ H kvs ks)
local macro_rules|`(q0d $x*)=>`(HOk P w H $x*)
local macro_rules|`(q0e 0)=>`(WG iter X.env x)
local macro_rules|`(q0f $x*)=>`(isD X.K H $x*)
local macro_rules|`(q0g $x*)=>`(kas_rev p $x*)
local macro_rules|`(q0h 0)=>`(kas_descPart n nrem p)
local macro_rules|`(q0i 0)=>`(ha jn s σ H _ I h)
local macro_rules|`(q0j $x*)=>`(IsTup s.heap $x*)
local macro_rules|`(q0k 0)=>`(if_neg nofun)
local macro_rules|`(q0l 0)=>`(YW items.size hi)
local macro_rules|`(q0m 0)=>`(jN w a ep es)
local macro_rules|`(q0n 0)=>`(Heap.ExtBut it s.heap h')
local macro_rules|`(q0o $x*)=>`(TA h lt lm lf $x*)
local macro_rules|`(tactic|rfl')=>`(tactic|refine now ?_)
local macro_rules|`(def $i:declId $s:optDeclSig $v:declVal)=>do let t:Lean.TSyntax ``Lean.Parser.Command.declSig:=⟨.node .none ``Lean.Parser.Command.declSig #[s.raw[0],s.raw[1][0]]⟩;let c<-`(theorem $i:declId $t $v:declVal);pure (c.raw.rewriteBottomUp (·.setInfo .none))
local macro_rules|`(abbrev $i:declId $s:optDeclSig $v:declVal)=>do let c<-`(noncomputable def $i:declId $s:optDeclSig $v:declVal);pure (c.raw.rewriteBottomUp (·.setInfo .none))
set_option tactic.hygienic false
namespace L2
@[reducible]def Key:=Sum Int Str
abbrev uE:Key->s_->Bool
 |.inl k,v=>Value.isInt k v
 |.inr x,v=>Value.isStrOf x v
abbrev Lq(w:x_):Key->Int
 |.inl k=>hashInt k
 |.inr x=>hashStr w x
def bP:∀{k:Key}{v:s_},uE k v=true->(∃i t,k=Sum.inl i/\v=Wt i t)\/(∃x t,k=Wd x/\v=Value.str x t)
 |.inl i,v,h=>by let⟨t,e⟩:=Value.isInt_shape (k:=i) (v:=v) h;show .inl ⟨i,t,rfl,e⟩
 |.inr x,v,h=>by let⟨t,e⟩:=Value.isStrOf_shape (x:=x) (v:=v) h;show .inr ⟨x,t,rfl,e⟩
def EE(i:Int)(t:Tok):uE (.inl i) (.int i t)=true:=by simp[uE,Value.isInt]
def EF(x:Str)(t:Tok):uE (.inr x) (.str x t)=true:=by simp[uE,Value.isStrOf]
def Lr(a b:Int):decide ((Sum.inl a:Key)=Sum.inl b)=(a == b):=by
 by_cases e:a=b
 ·subst e;simp
 ·let h:¬ (Sum.inl a:Key)=Sum.inl b:=λq=>e<|Sum.inl.inj q;rw[decide_eq_false h];show(beq_eq_false_iff_ne.mpr e).symm
def Ls(a b:Str):decide ((Wd a:Key)=Wd b)=decide (a=b):=by
 by_cases e:a=b
 ·subst e;simp
 ·let h:¬ (Wd a:Key)=Wd b:=λq=>e<|Sum.inr.inj q;rw[decide_eq_false h,decide_eq_false e]
def Lu(a:Int)(b:Str):decide ((Sum.inl a:Key)=Wd b)=false:=decide_eq_false<|λq=>nomatch q
def Lv(a:Str)(b:Int):decide ((Wd a:Key)=Sum.inl b)=false:=decide_eq_false<|λq=>nomatch q
abbrev aZ(prog:y_)(w:x_):PySem.KeyKind prog w Key where
 is:=uE
 hash:=Lq w
 inj:=λv a b ha hb=>by
  rcases bP ha with⟨i,t,rfl,rfl⟩|⟨x,t,rfl,rfl⟩
  ·rcases bP hb with⟨j,u,rfl,e⟩|⟨y,u,rfl,e⟩
   ·injection e with e1 _;rw[e1]
   ·show nomatch e
  ·rcases bP hb with⟨j,u,rfl,e⟩|⟨y,u,rfl,e⟩
   ·show nomatch e
   ·injection e with e1 _;rw[e1]
 byValue:=λk v h=>by rcases bP h with⟨i,t,rfl,rfl⟩|⟨x,t,rfl,rfl⟩ <;> rfl
 pyHash:=λhv h=>by
  rcases bP hv with⟨i,t,rfl,rfl⟩|⟨x,t,rfl,rfl⟩
  ·show wpAny_pyHash_int h
  ·show wpAny_pyHash_str h
 eqBool:=λhu hv h=>by
  rcases bP hu with⟨i,t,rfl,rfl⟩|⟨x,t,rfl,rfl⟩
  ·rcases bP hv with⟨j,u,rfl,rfl⟩|⟨y,u,rfl,rfl⟩
   ·rw[Lr]at h;show wpAny_eqBool_int h
   ·rw[Lu]at h;show SeqAt.EqAt.int_str i t y u _ _ _ _ h
  ·rcases bP hv with⟨j,u,rfl,rfl⟩|⟨y,u,rfl,rfl⟩
   ·rw[Lv]at h;show SeqAt.EqAt.str_int x t j u _ _ _ _ h
   ·rw[Ls]at h;show wpAny_eqBool_str h
 «strs»:=λk x t v h=>by
  rcases bP h with⟨i,u,rfl,e⟩|⟨y,u,rfl,e⟩
  ·show nomatch e
  ·injection e with e1 _;subst e1;cases v <;> rfl
def AW(prog:y_)(w:x_)(i:Int)(t:Tok):(aZ prog w).is (.inl i) (.int i t)=true:=EE i t
def sE(prog:y_)(w:x_)(x:Str)(t:Tok):(aZ prog w).is (.inr x) (.str x t)=true:=EF x t
inductive V where
 |non|bl (b:Bool)|int (i:Int)|str (x:Str)|byt (b:Array UInt8)|flt (b:UInt64)|ref (a:Addr)|ty (n:String)
 deriving DecidableEq
abbrev RelV:V->s_->Prop
 |.non,u=>u=Vn
 |.bl b,u=>u=Value.bool b
 |.int i,u=>∃t,u=Wt i t
 |.str x,u=>∃t,u=Value.str x t
 |.byt b,u=>∃t,u=Value.bytes b t
 |.flt b,u=>∃t,u=Value.float b t
 |.ref a,u=>u=Vu a
 |.ty n,u=>u=WV n
@[reducible]def aJ:B_ V->ZQ 0->Prop:=Paired RelV
variable{us:ZQ 0}
def aJ.length{xs:B_ V}(r:aJ xs us):xs.length=us.length:=VX r
def aJ.get:∀{xs:B_ V}{us:ZQ 0}{i:Nat}{x:V},aJ xs us->xs[i]?=a_ x->∃u,us[i]?=a_ u/\ZI u
 |_,_,_,_,.nil,e=>by simp at e
 |_,_,0,_,.cons r _,e=>by simp at e;subst e;show⟨_,rfl,r⟩
 |_,_,i+1,x,.cons _ t,e=>by
  let⟨u,h1,h2⟩:=aJ.get (i:=i) (x:=x) t<|l_ e;show⟨u,l_ h1,h2⟩
variable{u:s_}
def aJ.set{x:V}(r:ZI u):∀{xs:B_ V}{us:ZQ 0}(i:Nat),aJ xs us->aJ (xs.set i x) (us.set i u)
 |_,_,_,.nil=>.nil
 |_,_,0,.cons _ t=>.cons r t
 |_,_,i+1,.cons q t=>.cons q (aJ.set r i t)
def aJ.append:∀{xs ys:B_ V}{us ws:ZQ 0},aJ xs us->aJ ys ws->aJ (xs++ys) (us++ws)
 |_,_,_,_,.nil,s=>s
 |_,_,_,_,.cons r t,s=>.cons r (aJ.append t s)
def aJ.take:∀{xs:B_ V}{us:ZQ 0}(n:Nat),aJ xs us->aJ (xs.take n) (us.take n)
 |_,_,0,_=>.nil
 |_,_,_+1,.nil=>.nil
 |_,_,n+1,.cons r t=>.cons r (aJ.take n t)
def aJ.drop:∀{xs:B_ V}{us:ZQ 0}(n:Nat),aJ xs us->aJ (xs.drop n) (us.drop n)
 |_,_,0,r=>r
 |_,_,_+1,.nil=>.nil
 |_,_,n+1,.cons _ t=>aJ.drop n t
abbrev lH:C_ V->C_ s_->Prop
 |some v,a_ u=>ZJ u
 |none,b_=>True
 |_,_=>False
abbrev KV{κ:Type}:B_ (κ×V)->B_ (κ×s_)->Prop:=Paired λ(p:κ×V)(q:κ×s_)=>p.1=q.1/\RelV p.2 q.2
abbrev kV:Key->V
 |.inl i=>.int i
 |.inr x=>.str x
inductive HO where
 /-- a list -/
 |lst (xs:B_ V)
 /-- a tuple (never changes) -/
 |tup (xs:B_ V)
 /-- a dict whose keys are ints and texts;one whose keys are tuples of ints and texts (the empty one is both) -/
 |dK (kvs:B_ (Key×V))|dT (kvs:B_ (B_ Key×V))
 /-- a set of ints: its members,its size -/
 |set (S:Int->Bool) (n:Nat)
 /-- an instance of the class at C,its dict at dx,its attributes -/
 |ins (C dx:Addr) (fs:B_ (Str×V))
 /-- the dict of the instance at x -/
 |own (x:Addr)
 /-- the dict of an exception -/
 |xd (fs:B_ (Str×V))
 /-- a bound method,f of x -/
 |met (f x:Addr)
 /-- a range object lo,lo+1,.. below hi -/
 |rng (lo hi:Int)
 /-- a thing that is known to the object (the script;a dict while a loop walks it): read,never written while it is so -/
 |frz (o:Obj) (u:HO)
 /-- a code object's table -/
 |tbl (ps:Array Value)
 /-- any other thing,by what is true of its one object (a def of one's own: SetO a S n:=HO.ext λh=>..) -/
 |ext (φ:Heap->Prop)
@[reducible]def Hp:=t_->C_ HO
abbrev upd(H:Hp)(a:t_)(o:HO):Hp:=λb=>if b=a then a_ o else H b
variable{H:Hp}{a:t_}
def aK{o:HO}:R_ a o a=a_ o:=by unfold upd;rw[YX 0]
def aH{b:t_}{o:HO}(h:b≠a):R_ a o b=H b:=by unfold upd;rw[if_neg h]
def O0{b:t_}{o u:HO}(h:H a=a_ o)(h':H b=a_ u)(d:o≠u):a≠b:=by intro e;subst e;rw[h]at h';show d<|Vv h'
def cS{b:t_}{o:HO}(h:H a=a_ o)(h':H b=b_):a≠b:=by intro e;subst e;rw[h]at h';cases h'
abbrev tF(h:w_)(a:t_)(items:YY 0):Prop:=∃o,h.get? a=a_ o/\o.cls=.type "tuple" /\ (∃n,o.data=.seq items n)/\o.dict=b_
variable{items:YY 0}
def tF.is{h:w_}(x:tF h a items):PyProof.Rows.IsTup h a items:=let ⟨o,h1,h2,h3,_⟩:=x;⟨o,h1,h2,h3⟩
def tF.lt{h:w_}(x:tF h a items):a<h.objs.size:=let ⟨_,h1,_⟩:=x;Vd h1
def tF.new(h:w_)(items:YY 0):tF (h.push {cls:=.type "tuple",data:=.seq items 0}) h.objs.size items:=⟨_,Zc 0,rfl,⟨_,rfl⟩,rfl⟩
section
variable(P:y_)(w:x_)
abbrev bT(H:Hp)(h:w_)(a:t_):HO->Prop
 |.lst xs=>xs.length<=Ve/\∃(its:ZQ 0)(n:Nat),aJ xs its/\h.get? a=a_ {cls:=.type "list",data:=.seq its.toArray n}
 |.tup xs=>xs.length<=Ve/\∃its:ZQ 0,aJ xs its/\tF h a its.toArray
 |.dK kvs=>kvs.length<=Ve/\(a == Wi)=false/\∃vs,KV kvs vs/\h.DictOf (aZ P w) a vs
 | .dT kvs=>kvs.length<=Ve/\(a == Wi)=false/\∃ xs:B_ (Zt 0×t_×s_),
   Paired (λ(p:Zt 0×V)(q:Zt 0×t_×s_)=>p.1=q.1/\H q.2.1=a_ (.tup<|p.1.map kV)/\RelV p.2 q.2.2) kvs xs/\
   ∃o es ep,h.get? a=a_ o/\o.ExactDict/\o.data=.dict es ep/\es.toList=xs.map (entryOfKey<|tupleKind<|aZ P w)/\(xs.map (·.1)).Nodup
 |.set S n=>h.SetOf (intKind P w) a S n
 | .ins C dx fs=>H dx=a_ (.own a)/\fs.length<=1000/\dx≠a/\h.get? a=a_ (Xm C dx)/\
   ∃mA,h.Ns1 dx mA/\(∀f,lH (fs.lookup f)<|mA f)/\PySem.Within mA (fs.map (·.1))
 |.own _=>∃o,h.get? a=a_ o
 |.xd fs=>∃mA,h.Ns1 a mA/\∀f,lH (fs.lookup f)<|mA f
 |.rng lo hi=>∃t u v,h.get? a=a_ {cls:=.type "range",data:=.fields #[.int lo t,.int hi u,.int 1 v]}
 |.frz o u=>h.get? a=a_ o/\bT H h a u
 |.tbl ps=>h.get? a=a_ {cls:=.none,data:=.fields ps}
 |.met f x=>h.get? a=a_ (PySem.W.methodObj (.ref f)<|.ref x)
 |.ext φ=>φ h/\(∃o,h.get? a=a_ o)/\∀h1 h2:w_,φ h1->(∀o,h1.get? a=a_ o->h2.get? a=a_ o)->φ h2
abbrev HOk(H:Hp)(h:w_):Prop:=∀a o,H a=a_ o->bT P w H h a o
end
variable{P:y_}{w:x_}
def bT.lt{h:w_}{o:HO}(x:bT P w H h a o):a<h.objs.size:=by
 cases o with
 |lst xs=>let⟨_,_,_,_,e⟩:=x;show Vd e
 |tup xs=>let⟨_,_,_,p⟩:=x;show tF.lt p
 |dK kvs=>let⟨_,_,_,_,o,_,_,e,_⟩:=x;show Vd e
 |dT kvs=>let⟨_,_,_,_,o,_,_,e,_⟩:=x;show Vd e
 |set S n=>let⟨o,_,_,_,e,_⟩:=x;show Vd e
 |ins C dx fs=>let⟨_,_,_,e,_⟩:=x;show Vd e
 |own y=>let⟨_,e⟩:=x;show Vd e
 |xd fs=>let⟨_,⟨_,_,_,e,_⟩,_⟩:=x;show Vd e
 |rng lo hi=>let⟨_,_,_,e⟩:=x;show Vd e
 |frz ob u=>let⟨e,_⟩:=x;show Vd e
 |tbl ps=>exact Vd (show h.get? a=a_ _ from x)
 |met f y=>exact Vd (show h.get? a=a_ _ from x)
 |ext φ=>let⟨_,⟨_,e⟩,_⟩:=x;show Vd e
def Paired.mapP{α β:Type}{F G:α->β->Prop}:∀{l₁:B_ α}{l₂:B_ β},Paired F l₁ l₂->(∀a b,F a b->G a b)->Paired G l₁ l₂
 |_,_,.nil,_=>.nil
 |_,_,.cons r t,f=>.cons (f _ _ r) (Paired.mapP t f)
variable{H':Hp}{h':w_}
def bT.stay{h:w_}{o:HO}(x:bT P w H h a o)(k:∀b u,(b=a\/H b=a_ (.own a))->h.get? b=a_ u->Zf 0=a_ u)(ho:∀b,H b=a_ (.own a)->H' b=a_ (.own a))(ht:∀b xs,H b=a_ (.tup xs)->H' b=a_ (.tup xs)):bT P w H' h' a o:=by
 induction o with
 |lst xs=>let⟨z,its,n,r,e⟩:=x;show⟨z,its,n,r,Z6 (.inl rfl) e⟩
 |tup xs=>let⟨z,its,r,ob,e,c⟩:=x;show⟨z,its,r,ob,Z6 (.inl rfl) e,c⟩
 |dK kvs=>let⟨z,y,vs,r,ob,es,ep,e,c⟩:=x;show⟨z,y,vs,r,ob,es,ep,Z6 (.inl rfl) e,c⟩
 |dT kvs=>let⟨z,y,xs,r,ob,es,ep,e,c⟩:=x;show⟨z,y,xs,Paired.mapP r λp q z=>⟨z.1,ht _ _ z.2.1,z.2.2⟩,ob,es,ep,Z6 (.inl rfl) e,c⟩
 |set S n=>let⟨ob,es,ep,t,e,c⟩:=x;show⟨ob,es,ep,t,Z6 (.inl rfl) e,c⟩
 |ins C dx fs=>let⟨d,z,ne,e,mA,⟨od,es,ep,e2,c⟩,r⟩:=x;show⟨ho _ d,z,ne,Z6 (.inl rfl) e,mA,⟨od,es,ep,Z6 (.inr d) e2,c⟩,r⟩
 |own y=>let⟨ob,e⟩:=x;show⟨ob,Z6 (.inl rfl) e⟩
 |xd fs=>let⟨mA,⟨od,es,ep,e,c⟩,r⟩:=x;show⟨mA,⟨od,es,ep,Z6 (.inl rfl) e,c⟩,r⟩
 |rng lo hi=>let⟨t,u,v,e⟩:=x;show⟨t,u,v,Z6 (.inl rfl) e⟩
 |frz ob u ih=>let⟨e,q⟩:=x;show⟨Z6 (.inl rfl) e,ih q⟩
 |tbl ps=>
  let e:h.get? a=a_ {cls:=.none,data:=.fields ps}:=x
  change h'.get? a=a_ {cls:=.none,data:=.fields ps}
  show k a _ (.inl rfl) e
 |met f y=>
  let e:h.get? a=a_ (PySem.W.methodObj (.ref f)<|.ref y):=x
  change h'.get? a=a_ (PySem.W.methodObj (.ref f)<|.ref y)
  show k a _ (.inl rfl) e
 |ext φ=>let⟨p,⟨o,e⟩,st⟩:=x;show⟨st _ _ p λo q=>Z6 (.inl rfl) q,⟨o,Z6 (.inl rfl) e⟩,st⟩
def HOk.lt{h:w_}{o:HO}(x:q0d h)(e:H a=a_ o):a<h.objs.size:=(x a o e).lt
def HOk.fresh{h:w_}(x:q0d h)(e:h.objs.size<=a):H a=b_:=by
 cases q:H a with
 |none=>rfl
 |some u=>exact absurd (Vs (x.lt q) e)<|WY _
def HOk.kept{h:w_}(x:q0d h)(k:∀b u,h.get? b=a_ u->Zf 0=a_ u):q0d h':=λa o e=>(x a o e).stay (λb u _ q=>k b u q) (λ_ q=>q) λ_ _ q=>q
def HOk.laid{h:w_}{o:HO}(x:q0d h)(k:∀b u,h.get? b=a_ u->Zf 0=a_ u)(hp:h.objs.size<=a)(new:bT P w (R_ a o) h' a o):HOk P w (R_ a o) h':=λb u e=>by
 let hn:=x.fresh hp;by_cases hb:b=a
 ·subst hb;rw[aK]at e;cases e;show new
 ·rw[aH hb]at e;show(x b u e).stay (λc v _ q=>k c v q) (λc q=>by rw[aH<|cS q hn];show q) λc xs q=>by rw[aH<|cS q hn];show q
abbrev Rd(H:Hp)(a:t_)(u:HO):Prop:=H a=a_ u\/∃o,H a=a_ (.frz o u)
def Rd.ok{h:w_}{u:HO}(r:Rd H a u)(x:q0d h):bT P w H h a u:=by
 rcases r with r|⟨o,r⟩
 ·show x a u r
 ·let⟨_,q⟩:=x a _ r;show q
abbrev Mut:C_ HO->Prop
 |some (.lst _)=>True
 |some (.dK _)=>True
 |some (.dT _)=>True
 |some (.set _ _)=>True
 |some (.ins _ _ _)=>True
 |some (.ext _)=>True
 |_=>False
section
variable{h:w_}{x e:t_}{o':HO}
def HOk.write(ok:q0d h)(mu:Mut (H x))(he:e=x\/H e=a_ (.own x))(k:∀b u,b≠e->h.get? b=a_ u->Zf 0=a_ u)(pq:∃u,h'.get? e=a_ u)
  (new:bT P w (R_ x o') h' x o'):HOk P w (R_ x o') h':=λb u q=>by
 let sg:∀c y,H c=a_ (.own y)->c≠x:=λc y r z=>by subst z;rw[r]at mu;show mu
 let yo:∀c xs,H c=a_ (.tup xs)->c≠x:=λc xs r z=>by subst z;rw[r]at mu;show mu
 by_cases hb:b=x
 ·subst hb;rw[aK]at q;cases q;show new
 ·rw[aH hb]at q;by_cases hbe:b=e
  ·let q':H b=a_ (.own x):=by
    rcases he with z|z
    ·show absurd (hbe.trans z) hb
    ·rw[hbe];show z
   rw[q]at q';cases q';let⟨v,hv⟩:=pq;show⟨v,by rw[hbe];show hv⟩
  ·refine(ok b u q).stay (λc v hc r=>k c v ?_ r) (λc r=>by rw[aH<|sg c b r];show r) λc xs r=>by rw[aH<|yo c xs r];show r
   rcases hc with rfl|hc
   ·show hbe
   ·rintro rfl;rcases he with z|z
    ·show sg c b hc z
    ·rw[hc]at z;cases z;show hb rfl
end
structure Un(fs ex:B_ t_)(H H':Hp)(h h':w_):Prop where
 keep:∀b o,h.get? b=some o->H b=none->b∉fs->b∉ex->h'.get? b=some o
 slot:∀b o,h.get? b=some o->H b=none->b∈fs->b∉ex->∃sl,h'.get? b=some { o with slots:=sl}
 free:∀b o,h.get? b=some o->H b=none->b∉ex->H' b=none
 there:∀b o,h.get? b=some o->b∉ex->∃o',h'.get? b=some o'
 tups:∀b xs,H b=some (.tup xs)->H' b=some (.tup xs)
 frzs:∀b o u,H b=some (.frz o u)->H' b=some (.frz o u)
 tbls:∀b ps,H b=some (.tbl ps)->∃more,H' b=some (.tbl (ps++more))
variable{H1:Hp}{ex:B_ t_}{ob:Obj}
section
variable{fs Sm ex':B_ t_}{h h1 h2:w_}{x e:t_}{o:HO}
def Un.any(u:Un fs ex H H1 h h1){b:t_}(q:h.get? b=a_ ob)(n:H b=b_)(hx:b∉ex):∃sl,h1.get? b=a_ { ob with slots:=sl}:=by
 by_cases hb:b∈fs
 ·show u.slot b ob q n hb hx
 ·show⟨ob.slots,u.keep b ob q n hb hx⟩
def Un.kept(k:∀b u,h.get? b=a_ u->Zf 0=a_ u):Un fs ex H H h h':=⟨λb ob q _ _ _=>k b ob q,λb ob q _ _ _=>⟨ob.slots,k b ob q⟩,λ_ _ _ n _=>n,λb ob q _=>⟨ob,k b ob q⟩,λ_ _ q=>q,λ_ _ _ q=>q,λ_ ps q=>⟨#[],by rw[q];simp⟩⟩
def Un.refl:Un fs ex H H h h:=Un.kept λ_ _ q=>q
def Un.laid(k:∀b u,h.get? b=a_ u->Zf 0=a_ u)(hp:h.objs.size<=a)(hn:H a=b_):Un fs ex H (R_ a o) h h' where
 keep:=λb u q _ _ _=>k b u q
 slot:=λb u q _ _ _=>⟨u.slots,k b u q⟩
 free:=λb u q n _=>by rw[aH<|Vh<|Vs (Vd q) hp];show n
 there:=λb u q _=>⟨u,k b u q⟩
 tups:=λb xs q=>by rw[aH<|cS q hn];show q
 frzs:=λb u xs q=>by rw[aH<|cS q hn];show q
 tbls:=λb ps q=>⟨#[],by rw[aH<|cS q hn,q];simp⟩
def Un.write(mu:Mut (H x))(he:e=x\/H e=a_ (.own x))(k:∀b u,b≠e->h.get? b=a_ u->Zf 0=a_ u)(pq:∃u,h'.get? e=a_ u):Un fs ex H (R_ x o) h h':=by
 let hx:∀b,H b=b_->b≠x:=λb n z=>by subst z;rw[n]at mu;show mu
 let hb:∀b,H b=b_->b≠e:=λb n z=>by
  subst z;rcases he with r|r
  ·show hx b n r
  ·rw[n]at r;cases r
 let hm:∀b u,H b=a_ u->¬ Mut (a_ u)->b≠x:=λb u q nm z=>by subst z;rw[q]at mu;show nm mu
 refine⟨λb u q n _ _=>k b u (hb b n) q,λb u q n _ _=>⟨u.slots,k b u (hb b n) q⟩,λb u q n _=>by rw[aH (hx b n)];show n,λb u q _=>?_,
  λb xs q=>by rw[aH (hm b _ q λz=>z)];show q,λb u xs q=>by rw[aH (hm b _ q λz=>z)];show q,λb ps q=>⟨#[],by rw[aH (hm b _ q λz=>z),q];simp⟩⟩
 by_cases hbe:b=e
 ·subst hbe;show pq
 ·show⟨u,k b u hbe q⟩
end
abbrev trk(h:w_)(H:Hp):B_ t_:=(Vm h.objs.size).filter λa=>(H a).isSome
abbrev zV(h:w_)(H:Hp):w_:=PySem.W.hideAll h<|trk h H
def EG(h:w_)(H:Hp):(zV h H).objs.size=h.objs.size:=PySem.W.hideAll_size _ _
def G4{h:w_}{b:t_}{o:Obj}(e:h.get? b=a_ o)(n:H b=b_):(zV h H).get? b=a_ o:=PySem.W.hideAll_get _ e λhm=>by let q:(H b).isSome=true:=(WK.mp hm).2;rw[n]at q;simp at q
def J1{h:w_}{b:t_}{o:Obj}(e:(zV h H).get? b=a_ o):h.get? b=a_ o/\H b=b_:=by
 let e':h.get? b=a_ o:=PySem.W.of_hideAll (trk h H) e;refine⟨e',?_⟩;cases q:H b with
 |none=>rfl
 |some x=>have hm:b∈trk h H:=WK.mpr ⟨Xh.mpr<|Vd e',by simp[q]⟩;let z:(zV h H).get? b=b_:=PySem.W.hideAll_none (trk h H) hm;rw[z]at e;cases e
abbrev J2(g h:w_)(L:t_):g_ 0:=(Vm h.objs.size).filterMap λa=>if a=L\/(g.get? a).isSome=true then b_ else(h.get? a).map λo=>(a,o)
abbrev rest(g h:w_)(L d:t_):g_ 0:=(J2 g h L).filter λp=>decide (p.1≠d)
structure Mod(K:UF)(mg:o_ 0)(base:w_):Prop where
 kin:K.In base
 glob:base.Ns We mg
 blt:∃mb,base.Ns builtinsNs mb/\∀x:Str,x≠"__name__" -> mb x=Xt x
 nolimit:base.NoLimit
structure Cx where
 prog:y_
 w:x_
 K:UF
 mg:o_ 0
 base:w_
 A:v_
 N:B_ Str
 s₀:td
 H₀:Hp
 env:Env
 outer:B_ Env
 stack:B_ Env
 ex:B_ t_
 fn:Str->Bool
 calm:Bool
 pn:g_ 0
 xe:f_ 0
abbrev frs(l:B_ Env):B_ t_:=l.filterMap (·.frame)
@[reducible]def Cx.fs(X:Cx):B_ t_:=frs X.outer
abbrev Vis(sc:Scope)(x:Str):Prop:=Ze 0=a_ .local\/Ze 0=a_ .cell\/Ze 0=a_ .free
abbrev Loc(sc:Scope)(x:Str):Prop:=Ze 0=a_ .local\/Ze 0=a_ .cell
abbrev Look(env:Env)(h:w_)(m:o_ 0)(x:Str)(u:s_):Prop:=(env.kindOf x=a_ .local/\m x=a_ u)\/((env.kindOf x=a_ .cell\/env.kindOf x=a_ .free)/\∃c,env.cells.lookup x=a_ c/\h.IsCell c (a_ u))
structure Cx.Ok(X:Cx):Prop where
 mod:Mod X.K X.mg X.base
 kind:X.env.scope.kind=.function
 glob:X.env.globals=We
 blt:X.env.builtins=builtinsNs
 above:X.s₀.heap.objs.size<=X.env.locals
 inj:∀x y c,X.env.cells.lookup x=some c->X.env.cells.lookup y=some c->x=y
 has:∀x,(X.env.kindOf x=some .cell\/X.env.kindOf x=some .free)->∃c,X.env.cells.lookup x=some c
 cab:∀x c,X.fn x=true->X.env.cells.lookup x=some c->X.s₀.heap.objs.size<=c
 hd:X.calm=true->X.A.handled=none
 frames:X.A.frames=some X.stack
 stk:X.stack=X.outer\/(X.stack=X.env::X.outer/\X.env.frame=some X.env.locals)
 exf:∀b∈X.ex,b≠X.env.locals/\∀x c,X.env.cells.lookup x=some c->c≠b
 bs:∀b o,X.base.get? b=some o->X.s₀.heap.get? b=some o/\X.H₀ b=none
 bsz:X.base.objs.size<=X.s₀.heap.objs.size
 noex:∀b o,X.base.get? b=some o->b∉X.ex
 exfs:∀b∈X.ex,b∉X.fs
 funs:X.s₀.heap.FunFrames X.base X.outer
 frf:∀b∈X.fs,X.H₀ b=none
structure Inv(X:Cx)(jn:g_ 0)(σ:B_ (C_ V))(H:Hp)(s:td):Prop where
 ok:X.Ok
 os:s.os=X.s₀.os
 bare:AllBare s.gens
 base:Un X.fs X.ex X.H₀ H X.s₀.heap s.heap
 loc:∃m,s.heap.Ns X.env.locals m/\∀(i:Nat)(x:Str)(v:V),X.N[i]?=some x->σ[i]?=some (some v)->Vis X.env.scope x->∃u,RelV v u/\Look X.env s.heap m x u
 cell:∀x c,X.env.cells.lookup x=some c->∃v,s.heap.IsCell c v
 free:H X.env.locals=none
 freeC:∀x c,X.env.cells.lookup x=some c->H c=none
 pin:∀p∈X.pn++jn,s.heap.get? p.1=some p.2/\H p.1=none/\p.1≠X.env.locals/\p.1∉X.fs/\∀v,p.2.data≠.cell v
 hok:HOk X.prog X.w H s.heap
 len:σ.length=X.N.length
variable{X:Cx}
def Cx.Ok.nofr(ok:X.Ok){b:t_}{o:Obj}(e:X.base.get? b=a_ o):b∉X.fs:=λhb=>by have:=(ok.funs.mem hb).1;rw[e]at this;cases this
variable{jn:g_ 0}{s:td}{σ:B_ (C_ V)}
def Inv.bs(I:P1 s):∀b o,X.base.get? b=a_ o->N_ 0=a_ o/\H b=b_:=λb o e=>⟨I.base.keep b o (I.ok.bs b o e).1 (I.ok.bs b o e).2 (I.ok.nofr e)<|I.ok.noex b o e,I.base.free b o (I.ok.bs b o e).1 (I.ok.bs b o e).2<|I.ok.noex b o e⟩
def Inv.bk(I:P1 s):∀b o,X.base.get? b=a_ o->N_ 0=a_ o:=λb o e=>(I.bs b o e).1
def Inv.mod(I:P1 s):Mod X.K X.mg X.base:=I.ok.mod
def Inv.kIn(I:P1 s):X.K.In s.heap:=I.ok.mod.kin.keeps I.bk
def Inv.lt(I:P1 s):X.env.locals<(e_ s):=let ⟨_,hn,_⟩:=I.loc;hn.lt
def Inv.sz(I:P1 s):X.s₀.heap.objs.size<=(e_ s):=VS I.ok.above<|Xu I.lt
def Inv.nofs(I:P1 s)(h:(e_ s)<=a):a∉X.fs:=λhb=>by let⟨_,o,ho,_⟩:=I.ok.funs.mem hb;show absurd (Vs (Vd ho)<|VS I.sz h)<|WY _
def Inv.cne(I:P1 s):∀x c,T_ 0=a_ c->c≠X.env.locals:=λx c e z=>by let⟨v,o,ho,hd⟩:=I.cell x c e;let⟨m,⟨o',es,ep,cy,du,_⟩,_⟩:=I.loc;rw[z,cy]at ho;cases ho;rw[du]at hd;cases hd
def Inv.funs(I:P1 s):s.heap.FunFrames X.base X.outer:=by
 let all:∀(l:B_ Env),(∀b∈frs l,b∈X.fs)->X.s₀.heap.FunFrames X.base l->s.heap.FunFrames X.base l:=by
  intro l
  induction l with
  |nil=>intro _ _;trivial
  |cons env r ih=>intro hs hl;let⟨hk,⟨L,o,hf,hn,ho,hd⟩,hr⟩:=hl;let hL:L∈X.fs:=hs L (by unfold frs;rw[Wj,hf];show UV);let⟨sl,e⟩:=I.base.slot L o ho (I.ok.frf L hL) hL λz=>I.ok.exfs L z hL;show⟨hk,⟨L,_,hf,hn,e,hd⟩,ih (λb hb=>hs b (by unfold frs;rw[Wj,hf];show U8 _ hb)) hr⟩
 show all X.outer (λ_ hb=>hb) I.ok.funs
def Inv.stack(I:P1 s):s.heap.FunFrames X.base X.stack:=by
 rcases I.ok.stk with e|⟨e,hf⟩
 ·rw[e];show I.funs
 ·rw[e];let⟨m,hn,_⟩:=I.loc;refine .cons (by rw[I.ok.kind];decide) hf hn ?_ I.funs;show Heap.get?_none_of_le<|VS I.ok.bsz I.ok.above
def Inv.stkSub(I:P1 s):∀b∈frs X.stack,b∈X.env.locals::X.fs:=λb hb=>by
 rcases I.ok.stk with e|⟨e,hf⟩
 ·rw[e]at hb;show U8 _ hb
 ·rw[e]at hb;unfold frs at hb;rw[Wj,hf]at hb;show hb
def Inv.stkFree(I:P1 s):∀b∈frs X.stack,H b=b_:=λb hb=>by
 rcases U9.mp (I.stkSub b hb) with e|hb
 ·rw[e];show I.free
 ·let⟨_,o,ho,_⟩:=I.ok.funs.mem hb;show I.base.free b o ho (I.ok.frf b hb) λz=>I.ok.exfs b z hb
variable{ch:B_ t_}{d':Drawn}{g':Array GenState}{t':Nat}
def Inv.step(I:P1 s)(jg:∀b∈ch,(b∈X.ex\/X.s₀.heap.objs.size<=b)/\b≠X.env.locals/\(∀x c,T_ 0=a_ c->c≠b)/\∀p∈X.pn++jn,p.1≠b)(keep:∀b o,b≠X.env.locals->b∉X.fs->b∉ch->N_ 0=a_ o->H b=b_->Zf 0=a_ o)(slot:∀b o,b≠X.env.locals->b∈X.fs->b∉ch->N_ 0=a_ o->H b=b_->∃sl,Zf 0=a_ { o with slots:=sl})(free:∀b o,b∉ch->N_ 0=a_ o->H b=b_->H' b=b_)(there:∀b o,b∉ch->N_ 0=a_ o->∃o',Zf 0=a_ o')(tups:∀b xs,H b=a_ (.tup xs)->H' b=a_ (.tup xs))(frzs:∀b o u,H b=a_ (.frz o u)->H' b=a_ (.frz o u))(tbls:∀b ps,H b=a_ (.tbl ps)->∃more,H' b=a_ (.tbl<|ps++more))(ns:∀m,s.heap.Ns X.env.locals m->h'.Ns X.env.locals m)(hok:HOk X.prog X.w H' h')(hg:AllBare g'):
  i_ H' {s with heap:=h',gens:=g',drawn:=d',toks:=t'}:=by
 let Ss:∀b o,X.s₀.heap.get? b=a_ o->b≠X.env.locals:=λb o e=>Vh<|Vs (Vd e) I.ok.above;let u7:∀b o,X.s₀.heap.get? b=a_ o->b∉X.ex->b∉ch:=λb o e hx hb=>by
  rcases(jg b hb).1 with z|z
  ·show hx z
  ·show absurd (Vs (Vd e) z) (WY _)
 let cellK:∀x c,T_ 0=a_ c->∀v,s.heap.IsCell c v->h'.IsCell c v:=λx c e v ⟨o,ho,hd⟩=>by
  let qw:c∉ch:=λz=>(jg c z).2.2.1 x c e rfl;by_cases hc:c∈X.fs
  ·let⟨sl,q⟩:=slot c o (I.cne x c e) hc qw ho<|I.freeC x c e;show⟨_,q,hd⟩
  ·show⟨o,keep c o (I.cne x c e) hc qw ho<|I.freeC x c e,hd⟩
 refine⟨I.ok,I.os,hg,⟨λb o e n hb hx=>?_,λb o e n hb hx=>?_,λb o e n hx=>?_,λb o e hx=>?_,λb xs e=>tups b xs<|I.base.tups b xs e,λb o xs e=>frzs b o xs<|I.base.frzs b o xs e,λb ps e=>?_⟩,?_,λx c e=>?_,?_,λx c e=>?_,λp hp=>?_,hok,I.len⟩
 ·show keep b o (Ss b o e) hb (u7 b o e hx) (I.base.keep b o e n hb hx) (I.base.free b o e n hx)
 ·let⟨sl,e1⟩:=I.base.slot b o e n hb hx;let⟨TY,e2⟩:=slot b _ (Ss b o e) hb (u7 b o e hx) e1<|I.base.free b o e n hx;show⟨TY,e2⟩
 ·let⟨o',e1⟩:=I.base.there b o e hx;show free b o' (u7 b o e hx) e1<|I.base.free b o e n hx
 ·let⟨o',e1⟩:=I.base.there b o e hx;show there b o' (u7 b o e hx) e1
 ·let⟨m1,e1⟩:=I.base.tbls b ps e;let⟨m2,e2⟩:=tbls b _ e1;show⟨m1++m2,by rw[e2,Array.append_assoc]⟩
 ·let⟨m,hn,hl⟩:=I.loc;refine⟨m,ns m hn,λi x v e1 e2 e3=>?_⟩;let⟨u,r,l⟩:=hl i x v e1 e2 e3;refine⟨u,r,?_⟩;rcases l with l|⟨k,c,e,z⟩
  ·show .inl l
  ·show .inr ⟨k,c,e,cellK x c e _ z⟩
 ·let⟨v,z⟩:=I.cell x c e;show⟨v,cellK x c e v z⟩
 ·let⟨m,⟨o,_,_,ho,_⟩,_⟩:=I.loc;show free _ o (λz=>(jg _ z).2.1 rfl) ho I.free
 ·let⟨v,o,ho,hd⟩:=I.cell x c e;show free c o (λz=>(jg c z).2.2.1 x c e rfl) ho<|I.freeC x c e
 ·let⟨e,n,ne,nf,d⟩:=I.pin p hp;let qw:p.1∉ch:=λz=>(jg p.1 z).2.2.2 p hp rfl;show⟨keep p.1 p.2 ne nf qw e n,free p.1 p.2 qw e n,ne,nf,d⟩
def Inv.un(I:P1 s)(u:Un X.fs [] H H' s.heap h')(hok:HOk X.prog X.w H' h'):i_ H' {s with heap:=h',toks:=t'}:=by let⟨m,⟨o,es,ep,ho,r⟩,_⟩:=id I.loc;let⟨sl,hL⟩:=u.any ho I.free (by simp);show I.step (g':=s.gens) (d':=s.drawn) (ch:=[]) (λ_ z=>Zq 0) (λb o _ hb _ e n=>u.keep b o e n hb<|by simp) (λb o _ hb _ e n=>u.slot b o e n hb<|by simp) (λb o _ e n=>u.free b o e n<|by simp) (λb o _ e=>u.there b o e<|by simp) u.tups u.frzs u.tbls (λm' hm=>by let⟨o',es',iu,cy,r'⟩:=hm;rw[ho]at cy;cases cy;show⟨_,es',iu,hL,r'⟩) hok I.bare
def Inv.call(I:P1 s)(u:Un (frs X.stack) ch H H' s.heap h')(hok:HOk X.prog X.w H' h')(hg:AllBare g')(jg:∀b∈ch,(b∈X.ex\/X.s₀.heap.objs.size<=b)/\b≠X.env.locals/\(∀x c,T_ 0=a_ c->c≠b)/\∀p∈X.pn++jn,p.1≠b):
  i_ H' {s with heap:=h',gens:=g',drawn:=d',toks:=t'}:=by
 let⟨m,⟨o,es,ep,ho,r⟩,_⟩:=id I.loc;let⟨sl,hL⟩:=u.any ho I.free λz=>(jg _ z).2.1 rfl;show I.step (ch:=ch) jg (λb o hL hb hc e n=>u.keep b o e n (λz=>(U9.mp<|I.stkSub b z).elim hL hb) hc) (λb o _ _ hc e n=>u.any e n hc) (λb o hc e n=>u.free b o e n hc) (λb o hc e=>u.there b o e hc) u.tups u.frzs u.tbls (λm' hm=>by let⟨o',es',iu,cy,r'⟩:=hm;rw[ho]at cy;cases cy;show⟨_,es',iu,hL,r'⟩) hok hg
variable{it:t_}
def Inv.turned(I:P1 s)(k:∀b o,b≠it->N_ 0=a_ o->Zf 0=a_ o)(hn:H it=b_)(hL:it≠X.env.locals)(h1:it∈X.ex\/X.s₀.heap.objs.size<=it)(h2:∀x c,T_ 0=a_ c->c≠it)(h3:∀p∈X.pn++jn,p.1≠it):P1 {s with heap:=h',toks:=t'}:=by
 let sy:∀b u,H b=a_ u->b≠it:=λb u e z=>by rw[z,hn]at e;cases e
 refine I.step (g':=s.gens) (d':=s.drawn) (ch:=[it]) (λb hb=>?_) (λb o _ _ hc e _=>k b o (λz=>hc<|by simp[z]) e) (λb o _ _ hc e _=>⟨o.slots,k b o (λz=>hc<|by simp[z]) e⟩) (λ_ _ _ _ n=>n)
  (λb o hc e=>⟨o,k b o (λz=>hc<|by simp[z]) e⟩) (λ_ _ e=>e) (λ_ _ _ e=>e) (λb ps e=>⟨#[],by rw[e];simp⟩) (λm hm=>?_) (λb u e=>?_) I.bare
 ·let e:b=it:=by simpa using hb
  subst e;show⟨h1,hL,h2,h3⟩
 ·let⟨o,es,ep,ho,r⟩:=hm;show⟨o,es,ep,k _ o (Wx hL) ho,r⟩
 ·refine(I.hok b u e).stay (λc v hc q=>k c v ?_ q) (λ_ q=>q) λ_ _ q=>q;rcases hc with z|z
  ·rw[z];show sy b u e
  ·show sy c _ z
def Inv.tok(I:P1 s)(t:Nat):P1 { s with toks:=t}:=I.un (h':=s.heap) (t':=t) Un.refl I.hok
def Inv.kept(I:P1 s)(k:∀b u,N_ 0=a_ u->Zf 0=a_ u):P1 {s with heap:=h',toks:=t'}:=I.un (Un.kept k)<|I.hok.kept k
def Inv.laid{o:HO}(I:P1 s)(k:∀b u,N_ 0=a_ u->Zf 0=a_ u)(hp:(e_ s)<=a)(new:Zl (R_ a o) h' a o):
  i_ (R_ a o) {s with heap:=h',toks:=t'}:=I.un (Un.laid k hp<|I.hok.fresh hp)<|I.hok.laid k hp new
def Inv.write{x e:t_}{o:HO}(I:P1 s)(mu:Mut (H x))(he:e=x\/H e=a_ (.own x))(k:∀b u,b≠e->N_ 0=a_ u->Zf 0=a_ u)(pq:∃u,h'.get? e=a_ u)(new:Zl (R_ x o) h' x o):i_ (R_ x o) {s with heap:=h',toks:=t'}:=I.un (Un.write mu he k pq)<|I.hok.write mu he k pq new
variable{dj:g_ 0}
def Inv.pins_of(I:P1 s)(h:∀p∈dj,s.heap.get? p.1=a_ p.2/\H p.1=b_/\p.1≠X.env.locals/\p.1∉X.fs/\∀v,p.2.data≠.cell v):Inv X dj σ H s:=⟨I.ok,I.os,I.bare,I.base,I.loc,I.cell,I.free,I.freeC,λp hp=>(Vx.mp hp).elim (λz=>I.pin p<|Wc _ z)<|h p,I.hok,I.len⟩
variable{N:Zg 0}{i j:Nat}{x:Str}
def AX(hN:N.Nodup)(a:N[i]?=a_ x)(b:N[j]?=a_ x):i=j:=by let⟨h1,e1⟩:=SC.mp a;let⟨h2,e2⟩:=SC.mp b;show(List.getElem_inj hN).mp (e1.trans e2.symm)
variable{A:v_}{E:f_ 0}{M:Model}{v:V}
def xZ{Q:j_ Unit}(I:P1 s)(hN:X.N.Nodup)(hi:X.N[i]?=a_ x)(hx:Loc X.env.scope x)(r:ZJ u)(h:∀s',Inv X jn (σ.set i<|a_ v) H s'->(∃a,WD a s.heap s'.heap/\(a=X.env.locals\/T_ 0=a_ a))->Q () s')(hf:X.fn x=true\/V_ 0=a_ .local:=by first|exact .inl rfl|exact .inr rfl|assumption):wpAny M A (storeName X.env x u) Q E s:=by
 let⟨m,hn,hl⟩:=id I.loc;let xa:(X.env.scope.kind == .class || (X.env.scope.kind == .module&&X.env.locals != X.env.globals))=false:=by rw[I.ok.kind];rfl
 let Sb:i<σ.length:=by rw[I.len];show(SC.mp hi).1
 let cne:=I.cne;let tracked:∀{a:t_}{h':w_},(∃o,Zb 0=a_ o/\H a=b_)->WD a s.heap h'->HOk X.prog X.w H h':=λ{a h'} ha hs b ob e=>by
  let⟨_,_,kr⟩:=ha;refine(I.hok b ob e).stay (λc w' hc q=>(hs.2 c ?_).trans q) (λ_ q=>q) λ_ _ q=>q;rintro rfl;rcases hc with rfl|hc
  ·rw[kr]at e;cases e
  ·rw[kr]at hc;cases hc
 rcases hx with hk|hk
 ·refine wpAny_storeName_local hk hn (λh' uv hs=>?_) xa;let⟨oL,_,_,gw,_⟩:=id hn;refine h _ ⟨I.ok,I.os,I.bare,⟨λb o e n hb hx=>?_,λb o e n hb hx=>?_,I.base.free,λb o e hx=>?_,I.base.tups,I.base.frzs,I.base.tbls⟩,⟨_,uv,λj y v' e1 e2 e3=>?_⟩,λy c e=>?_,I.free,I.freeC,λp hp=>?_,tracked ⟨oL,gw,I.free⟩ hs,l_ I.len⟩ ⟨_,hs,.inl rfl⟩
  ·show(hs.2 b<|Vh<|Vs (Vd e) I.ok.above).trans (I.base.keep b o e n hb hx)
  ·let⟨sl,e1⟩:=I.base.slot b o e n hb hx;show⟨sl,(hs.2 b<|Vh<|Vs (Vd e) I.ok.above).trans e1⟩
  ·let⟨o',e1⟩:=I.base.there b o e hx;show⟨o',(hs.2 b<|Vh<|Vs (Vd e) I.ok.above).trans e1⟩
  ·by_cases hj:j=i
   ·subst hj;rw[hi]at e1;cases e1;rw[VZ Sb]at e2;cases e2
    show⟨u,r,.inl ⟨hk,by simp⟩⟩
   ·rw[VH<|Wx hj]at e2;let⟨u',r',q⟩:=hl j y v' e1 e2 e3;refine⟨u',r',?_⟩;rcases q with⟨k,e⟩|⟨k,c,e,z⟩
    ·refine .inl ⟨k,?_⟩;have:y≠x:=λe=>hj<|AX hN e1<|e▸hi;simp[this,e]
    ·show .inr ⟨k,c,e,z.sameBut hs<|cne y c e⟩
  ·let⟨w',z⟩:=I.cell y c e;show⟨w',z.sameBut hs<|cne y c e⟩
  ·let⟨e,n,ne,nf,d⟩:=I.pin p hp;show⟨(hs.2 p.1 ne).trans e,n,ne,nf,d⟩
 ·let vz:X.fn x=true:=by
   rcases hf with z|z
   ·show z
   ·rw[z]at hk;cases hk
  let⟨c,hc⟩:=I.ok.has x<|.inl hk;let⟨w',z⟩:=I.cell x c hc;refine wpAny_storeName_cell I.ok.kind hk hc z<|λh' ly hs=>?_;let⟨oc,je,yw⟩:=id z;refine h {s with heap:=h'} ⟨I.ok,I.os,I.bare,⟨λb o e n hb hx=>?_,λb o e n hb hx=>?_,I.base.free,λb o e hx=>?_,I.base.tups,I.base.frzs,I.base.tbls⟩,⟨m,hn.sameBut hs<|Wx<|cne x c hc,λj y v' e1 e2 e3=>?_⟩,λy c' e=>?_,I.free,I.freeC,λp hp=>?_,tracked ⟨oc,je,I.freeC x c hc⟩ hs,l_ I.len⟩ ⟨c,hs,.inr hc⟩
  ·show(hs.2 b<|Vh<|Vs (Vd e)<|I.ok.cab x c vz hc).trans (I.base.keep b o e n hb hx)
  ·let⟨sl,e1⟩:=I.base.slot b o e n hb hx;show⟨sl,(hs.2 b<|Vh<|Vs (Vd e)<|I.ok.cab x c vz hc).trans e1⟩
  ·let⟨o',e1⟩:=I.base.there b o e hx;show⟨o',(hs.2 b<|Vh<|Vs (Vd e)<|I.ok.cab x c vz hc).trans e1⟩
  ·by_cases hj:j=i
   ·subst hj;rw[hi]at e1;cases e1;rw[VZ Sb]at e2;cases e2
    show⟨u,r,.inr ⟨.inl hk,c,hc,ly⟩⟩
   ·rw[VH<|Wx hj]at e2;let⟨u',r',q⟩:=hl j y v' e1 e2 e3;refine⟨u',r',?_⟩;rcases q with q|⟨k,c',e,z'⟩
    ·show .inl q
    ·refine .inr ⟨k,c',e,z'.sameBut hs ?_⟩;rintro rfl;show hj<|AX hN e1<|I.ok.inj _ _ _ e hc▸hi
  ·by_cases kg:c'=c
   ·subst kg;show⟨_,ly⟩
   ·let⟨w2,z2⟩:=I.cell y c' e;show⟨w2,z2.sameBut hs kg⟩
  ·let⟨e,n,ne,nf,d⟩:=I.pin p hp;refine⟨(hs.2 p.1 ?_).trans e,n,ne,nf,d⟩;intro q;rw[q,je]at e;let q':oc=p.2:=Vv e;show d w' (by rw[<-q'];show yw)
def AY{Q:j_ Unit}(I:P1 s)(hN:X.N.Nodup)(hi:X.N[i]?=a_ x)(hx:Loc X.env.scope x)(r:ZJ u)(h:∀s',Inv X jn (σ.set i<|a_ v) H s'->Q () s')(hf:X.fn x=true\/V_ 0=a_ .local:=by first|exact .inl rfl|exact .inr rfl|assumption):wpAny M A (storeName X.env x u) Q E s:=xZ I hN hi hx r (λs' I' _=>h s' I') hf
variable{s':td}
def Inv.call'(I:P1 s)(ho:s'.os=s.os)(u:Un (frs X.stack) ch H H' s.heap s'.heap)(hok:HOk X.prog X.w H' s'.heap)(hg:AllBare s'.gens)(jg:∀b∈ch,(b∈X.ex\/X.s₀.heap.objs.size<=b)/\b≠X.env.locals/\(∀x c,T_ 0=a_ c->c≠b)/\∀p∈X.pn++jn,p.1≠b):i_ H' s':=by let⟨h',g',d',t',o'⟩:=s';let e:o'=s.os:=ho;subst e;show I.call (g':=g') (t':=t') (d':=d') u hok hg jg
@[reducible]def XK:=s_->C_ t_->Hp->Prop
@[reducible]def St:=B_<|C_ V
@[reducible]def VK:=V->Hp->Prop
@[reducible]def TE:=St->Hp->VK->Prop
@[reducible]def TT:=St->Hp->(Bool->Hp->Prop)->Prop
@[reducible]def TA:=St->Hp->(B_ V->Hp->Prop)->Prop
structure Ends where
 nx:St->Hp->Prop
 rt:VK
 bk:St->Hp->Prop:=λ_ _=>False
 ct:St->Hp->Prop:=λ_ _=>False
@[reducible]def TS:=Ends->St->Hp->Prop
abbrev EP(X:Cx)(jn:g_ 0)(σ:St)(Q:VK)(u:s_)(s':td):Prop:=∃v H',i_ H' s'/\ZJ u/\Q v H'
abbrev TP(X:Cx)(jn:g_ 0)(σ:St)(Q:Bool->Hp->Prop)(b:Bool)(s':td):Prop:=∃H',i_ H' s'/\Q b H'
abbrev AP(X:Cx)(jn:g_ 0)(σ:St)(Q:B_ V->Hp->Prop)(us:ZQ 0)(s':td):Prop:=∃vs H',i_ H' s'/\aJ vs us/\Q vs H'
abbrev SP(X:Cx)(jn:g_ 0)(D:Ends)(f:Flow)(s':td):Prop:=
 match f with
 |.next=>∃σ' H',Z0 s'/\D.nx σ' H'
 |.brk=>∃σ' H',Z0 s'/\D.bk σ' H'
 |.cont=>∃σ' H',Z0 s'/\D.ct σ' H'
 |.ret u=>∃v σ' H',Z0 s'/\ZJ u/\D.rt v H'
abbrev PE(X:Cx)(e:z_)(t:TE):Prop:=
 ∀(jn:g_ 0)(s:td)(σ:St)(H:Hp)(Q:VK),P1 s->t σ H Q->wpAny (h_ X) X.A (U_ 0) (Za Q) X.xe s
abbrev PT(X:Cx)(e:z_)(t:TT):Prop:=
 ∀(jn:g_ 0)(s:td)(σ:St)(H:Hp)(Q:Bool->Hp->Prop),P1 s->t σ H Q->wpAny (h_ X) X.A (isTrue e X.env<|U_ 0) (TP X jn σ Q) X.xe s
abbrev PW(X:Cx)(e:z_)(t:TT):Prop:=
 ∀(whole:Sem s_)(jn:g_ 0)(s:td)(σ:St)(H:Hp)(Q:Bool->Hp->Prop),P1 s->t σ H Q->wpAny (h_ X) X.A (isTrue e X.env whole) (TP X jn σ Q) X.xe s
variable{e:z_}
def PW.pt{t:TT}(h:PW X e t):PT X e t:=h _
abbrev PA(X:Cx)(es:B_ z_)(t:TA):Prop:=
 ∀(pos:Pos)(jn:g_ 0)(s:td)(σ:St)(H:Hp)(Q:B_ V->Hp->Prop),P1 s->t σ H Q->wpAny (h_ X) X.A (spliced<|Y1<|W_ 0) (AP X jn σ Q) X.xe s
abbrev PS(X:Cx)(st:A_)(t:TS):Prop:=
 ∀(jn:g_ 0)(s:td)(σ:St)(H:Hp)(D:Ends),P1 s->t D σ H->wpAny (h_ X) X.A (exec st X.env) (SP X jn D) X.xe s
abbrev PSs(X:Cx)(st:B_ A_)(t:TS):Prop:=
 ∀(jn:g_ 0)(s:td)(σ:St)(H:Hp)(D:Ends),P1 s->t D σ H->wpAny (h_ X) X.A (execs st X.env) (SP X jn D) X.xe s
def thn{α:Type}{t:Sem α}{Q Q':α->td->Prop}(h:wpAny M A t Q E s)(hQ:∀a s,Q a s->Q' a s):wpAny M A t Q' E s:=WE h hQ λ_ _ x=>x
abbrev QB(i:Nat):TE:=λσ H Q=>∃v,σ[i]?=a_ (a_ v)/\Q v H
abbrev tC(v:V):TE:=λ_ H Q=>Q v H
variable{pos:Pos}
def G5(hN:X.N[i]?=a_ x)(hv:Vis X.env.scope x)(hd:(x == ("__debug__" : Str))=false:=by decide)(ik:(x == ("__classdict__" : Str))=false:=by decide):Zy (.Name x pos) (QB i):=by
 intro jn s σ H Q I h;let⟨v,e,h⟩:=h;let⟨m,hn,hl⟩:=I.loc;let⟨u,r,l⟩:=hl i x v hN e hv;let fin:Za Q u s:=⟨v,H,I,r,h⟩;rcases l with⟨hk,hm⟩|⟨hk,c,hc,gi⟩
 ·show wpAny_Name (wpAny_loadName_local I.ok.kind hk hn hm fin) hd
 ·rcases hk with hk|hk
  ·show wpAny_Name (wpAny_loadName_cell I.ok.kind hk hc gi fin) hd
  ·show wpAny_Name (wpAny_loadName_free I.ok.kind hk hc gi fin ik) hd
def Lw{i j pos}:Zy (.Constant (.int i) j pos) (tC<|.int i):=λ_ _ _ H _ I h=>wpAny_Constant_int ⟨.int i,H,Z3 0,⟨_,rfl⟩,h⟩
def O1{b j pos}:Zy (.Constant (.bool b) j pos) (tC<|.bl b):=λ_ _ _ H _ I h=>Constant_bool ⟨.bl b,H,I,rfl,h⟩
def Lx{j pos}:Zy (.Constant .none j pos) (tC .non):=λ_ _ _ H _ I h=>Constant_none ⟨.non,H,I,rfl,h⟩
def Ly{x j pos}:Zy (.Constant (.str x) j pos) (tC<|.str x):=λ_ _ _ H _ I h=>Calls.Constant_str ⟨.str x,H,Z3 0,⟨_,rfl⟩,h⟩
abbrev Gl(X:Cx)(x:Str):Prop:=X.env.kindOf x=a_ .globalImplicit
variable{Q:f_ 0}
def jX{σ:St}(I:P1 s)(hg:Gl X x)(hm:X.mg x=a_ u)(h:Q u s)(hd:(x == ("__debug__" : Str))=false:=by decide):wpAny (h_ X) X.A (eval (.Name x pos) X.env) Q E s:=Calls.Name_function_global I.ok.kind hg (Calls.loadGlobal_global (by rw[I.ok.glob];show I.mod.glob.keeps I.bk) hm h) hd
def jB{σ:St}(I:P1 s)(hg:Gl X x)(hm:X.mg x=b_)(hv:Xt x=a_ u)(h:Q u s)(hn:x≠"__name__" := by decide)(hd:(x == ("__debug__" : Str))=false:=by decide):wpAny (h_ X) X.A (eval (.Name x pos) X.env) Q E s:=by let⟨mb,h1,h2⟩:=I.mod.blt;show Calls.Name_function_global I.ok.kind hg (Calls.loadGlobal_builtin (by rw[I.ok.glob];show I.mod.glob.keeps I.bk) hm (by rw[I.ok.blt];show h1.keeps I.bk) ((h2 x hn).trans hv) h) hd
def DL(hg:Gl X x)(hm:X.mg x=a_ u)(r:ZJ u)(hd:(x == ("__debug__" : Str))=false:=by decide):Zy (.Name x pos) (tC v):=
 λ_ _ _ H _ I h=>jX I hg hm ⟨v,H,I,r,h⟩ hd
def J3(hg:Gl X x)(hm:X.mg x=b_)(hv:Xt x=a_ u)(r:ZJ u)(hn:x≠"__name__" := by decide)(hd:(x == ("__debug__" : Str))=false:=by decide):Zy (.Name x pos) (tC v):=
 λ_ _ _ H _ I h=>jB I hg hm hv ⟨v,H,I,r,h⟩ hn hd
abbrev QC(t u:TT):TT:=λσ H Q=>t σ H λc H1=>if c=true then u σ H1 Q else Q false H1
abbrev tOr(t u:TT):TT:=λσ H Q=>t σ H λc H1=>if c=true then Q true H1 else u σ H1 Q
abbrev QD(t:TT):TT:=λσ H Q=>t σ H λc H1=>Q (!c) H1
variable{tA:TT}
def J4{a:z_}(ha:PT X a tA):PW X (.BoolOp .And [a] pos) tA:=by
 intro wh jn s σ H Q I h;refine isTrue_and<|thn (ha jn s σ H Q I h) λc s1 e=>?_;cases c with
 |true=>exact isTrue_and_nil e
 |false=>exact e
def Lz{a:z_}(ha:PT X a tA):PW X (.BoolOp .Or [a] pos) tA:=by
 intro wh jn s σ H Q I h;refine isTrue_or<|thn (ha jn s σ H Q I h) λc s1 e=>?_;cases c with
 |false=>exact isTrue_or_nil e
 |true=>exact e
variable{uy:TT}
def LA{a:z_}{b:z_}{rest:B_ z_}(ha:PT X a tA)(hb:PW X (.BoolOp .And (b::rest) pos) uy):PW X (.BoolOp .And (a::b::rest) pos) (QC tA uy):=by
 intro wh jn s σ H Q I h;refine isTrue_and<|thn (q0i 0) λc s1 z9=>?_;let⟨H1,I1,q1⟩:=z9;cases c with
 |true=>exact hb wh jn s1 σ H1 Q I1 q1
 |false=>exact⟨H1,I1,q1⟩
def O2{a:z_}{b:z_}{rest:B_ z_}(ha:PT X a tA)(hb:PW X (.BoolOp .Or (b::rest) pos) uy):PW X (.BoolOp .Or (a::b::rest) pos) (tOr tA uy):=by
 intro wh jn s σ H Q I h;refine isTrue_or<|thn (q0i 0) λc s1 z9=>?_;let⟨H1,I1,q1⟩:=z9;cases c with
 |true=>exact⟨H1,I1,q1⟩
 |false=>exact hb wh jn s1 σ H1 Q I1 q1
def LB{a:z_}(ha:PT X a tA):PT X (.UnaryOp .Not a pos) (QD tA):=by intro jn s σ H Q I h;show isTrue_not<|ha jn s σ H (λc H1=>Q (!c) H1) I h
def LC{a:z_}{op}{t:TE}(h:Zy a t):Zy (.BoolOp op [a] pos) t:=λjn s σ H Q I hw=>BoolOp_one<|Zh Q I hw
abbrev tIf(t:TT)(ta tb:TE):TE:=λσ H Q=>t σ H λc H1=>if c=true then ta σ H1 Q else tb σ H1 Q
variable{c:z_}{ta tb:TE}
def G7{a:z_}{b:z_}(hc:PT X c tA)(ha:Zy a ta)(hb:Zy b tb):Zy (.IfExp c a b pos) (tIf tA ta tb):=by
 intro jn s σ H Q I h;refine wpAny_IfExp<|thn (hc jn s σ H _ I h) λd s1 z9=>?_;let⟨H1,I1,q1⟩:=z9;cases d with
 |true=>exact ha jn s1 σ H1 Q I1 q1
 |false=>exact hb jn s1 σ H1 Q I1 q1
abbrev SqL(K:UF)(H:Hp)(a:t_)(xs:B_ V):Prop:=
 Rd H a (.lst xs)\/
  ∃(o:Obj)(its:YY 0)(n:Nat),K.lookup a=a_ o/\o.cls=.type "list" /\ o.dict=b_/\o.data=.seq its n/\its.size<=Ve/\aJ xs its.toList
abbrev SqT(K:UF)(H:Hp)(a:t_)(xs:B_ V):Prop:=
 Rd H a (.tup xs)\/
  ∃(o:Obj)(its:YY 0)(n:Nat),K.lookup a=a_ o/\o.cls=.type "tuple" /\ o.data=.seq its n/\its.size<=Ve/\aJ xs its.toList/\o.dict=b_
abbrev QE:s_->C_ V
 |.none=>a_ .non
 |.bool b=>a_ (.bl b)
 |.int i _=>d_ i
 |.str x _=>a_ (.str x)
 |.bytes b _=>a_ (.byt b)
 |.float b _=>a_ (.flt b)
 |.ref a=>c_ a
 |.type n=>a_ (.ty n)
 |_=>b_
def RelV.abs{x:V}(r:ZI u):QE u=a_ x:=by
 cases x with
 |non=>cases r;rfl
 |bl _=>cases r;rfl
 |int _=>let⟨t,rfl⟩:=r;rfl
 |str _=>let⟨t,rfl⟩:=r;rfl
 |byt _=>let⟨t,rfl⟩:=r;rfl
 |flt _=>let⟨t,rfl⟩:=r;rfl
 |ref _=>cases r;rfl
 |ty _=>cases r;rfl
variable{y:V}
def RelV.inj{x:V}(r:ZI u)(q:RelV y u):x=y:=Vv<|r.abs.symm.trans q.abs
def aJ.inj:∀{xs ys:B_ V}{us:ZQ 0},aJ xs us->aJ ys us->xs=ys
 |_,_,_,.nil,.nil=>rfl
 |_,_,_,.cons r t,.cons r' t'=>by rw[r.inj r',aJ.inj t t']
variable{K:UF}
section
variable{σ:St}{xs ys:B_ V}
def SqL.of(h:H a=a_ (.lst xs)):ZW a xs:=.inl<|.inl h
def SqT.of(h:H a=a_ (.tup xs)):ZF a xs:=.inl<|.inl h
def Inv.list(I:P1 s)(h:SqL X.K H a xs):∃its:ZQ 0,aJ xs its/\PlainL s.heap a its.toArray/\xs.length<=Ve:=by
 rcases h with h|⟨o,its,n,hk,hc,hd,hs,hz,r⟩
 ·let⟨z,its,n,r,e⟩:=h.ok I.hok;show⟨its,r,⟨_,n,e,rfl,rfl,rfl⟩,z⟩
 ·refine⟨its.toList,r,⟨o,n,I.kIn a o hk,hc,hd,l_ hs⟩,?_⟩;let e:=r.length;simp only[X5]at e;omega
def Inv.tuple(I:P1 s)(h:SqT X.K H a xs):∃its:ZQ 0,aJ xs its/\q0j a its.toArray/\xs.length<=Ve:=by
 rcases h with h|⟨o,its,n,hk,hc,hs,hz,r,_⟩
 ·let⟨z,its,r,p⟩:=h.ok I.hok;show⟨its,r,p.is,z⟩
 ·refine⟨its.toList,r,⟨o,I.kIn a o hk,hc,n,l_ hs⟩,?_⟩;let e:=r.length;simp only[X5]at e;omega
def Inv.list_inj(I:P1 s)(h:SqL X.K H a xs)(h':SqL X.K H a ys):xs=ys:=by
 let⟨its,r,⟨o,n,e,_,_,d⟩,_⟩:=I.list h;let⟨its',r',⟨o',n',e',_,_,d'⟩,_⟩:=I.list h';rw[e]at e';cases e';rw[d]at d';injection d' with d1 _;have:its=its':=by simpa using congrArg Array.toList d1
 subst this;show r.inj r'
def Inv.tuple_inj(I:P1 s)(h:SqT X.K H a xs)(h':SqT X.K H a ys):xs=ys:=by
 let⟨its,r,⟨o,e,_,n,d⟩,_⟩:=I.tuple h;let⟨its',r',⟨o',e',_,n',d'⟩,_⟩:=I.tuple h';rw[e]at e';cases e';rw[d]at d';injection d' with d1 _;have:its=its':=by simpa using congrArg Array.toList d1
 subst this;show r.inj r'
end
@[reducible]def Cx.wish(X:Cx)(E:f_ 0):Cx:={ X with xe:=E}
@[reducible]def Cx.nox(X:Cx):Cx:=X.wish λ_ _=>False
def Cx.Ok.wish(ok:X.Ok)(E:f_ 0):(X.wish E).Ok:=⟨ok.mod,ok.kind,ok.glob,ok.blt,ok.above,ok.inj,ok.has,ok.cab,ok.hd,ok.frames,ok.stk,ok.exf,ok.bs,ok.bsz,ok.noex,ok.exfs,ok.funs,ok.frf⟩
def Cx.Ok.unwish(ok:(X.wish E).Ok):X.Ok:=⟨ok.mod,ok.kind,ok.glob,ok.blt,ok.above,ok.inj,ok.has,ok.cab,ok.hd,ok.frames,ok.stk,ok.exf,ok.bs,ok.bsz,ok.noex,ok.exfs,ok.funs,ok.frf⟩
section
variable{σ:St}
def Inv.wish(I:P1 s)(E:f_ 0):Inv (X.wish E) jn σ H s:=⟨I.ok.wish E,I.os,I.bare,I.base,I.loc,I.cell,I.free,I.freeC,I.pin,I.hok,I.len⟩
def Inv.unwish(I:Inv (X.wish E) jn σ H s):P1 s:=⟨I.ok.unwish,I.os,I.bare,I.base,I.loc,I.cell,I.free,I.freeC,I.pin,I.hok,I.len⟩
def SP.unwish{D:Ends}{f:Flow}(h:SP (X.wish E) jn D f s'):SP X jn D f s':=by
 cases f with
 |next=>let⟨σ',H',I,q⟩:=h;show⟨σ',H',I.unwish,q⟩
 |brk=>let⟨σ',H',I,q⟩:=h;show⟨σ',H',I.unwish,q⟩
 |cont=>let⟨σ',H',I,q⟩:=h;show⟨σ',H',I.unwish,q⟩
 |ret u=>let⟨v,σ',H',I,r,q⟩:=h;show⟨v,σ',H',I.unwish,r,q⟩
def PSs.nox{st:B_ A_}{t:TS}(h:PSs X.nox st t):PSs X st t:=λjn s σ H D I hw=>WE (Zh D (I.wish _) hw) (λ_ _ q=>q.unwish) λ_ _ z=>WW z
end
variable{st:A_}{te:TE}{tc:TT}
section
variable{rest:B_ A_}{t u:TS}
abbrev O3:TS:=λD σ H=>D.nx σ H
abbrev QF(t u:TS):TS:=λD σ H=>t { D with nx:=u D} σ H
def J5:PSs X [] O3:=λ_ _ σ H _ I h=>wpAny_execs_nil ⟨σ,H,I,h⟩
def G8(h1:PS X st t)(h2:PSs X rest u):PSs X (st::rest) (QF t u):=by
 intro jn s σ H D I h;refine wpAny_execs_cons<|thn (h1 jn s σ H { D with nx:=u D} I h) λf s1 q=>?_;cases f with
 |next=>let⟨σ',H',I',q⟩:=q;show h2 jn s1 σ' H' D I' q
 |ret v=>exact q
 |brk=>exact q
 |cont=>exact q
def J6(h1:PS X st t):PSs X [st] t:=by
 intro jn s σ H D I h;refine wpAny_execs_cons<|thn (h1 jn s σ H D I h) λf s1 q=>?_;cases f with
 |next=>exact wpAny_execs_nil q
 |ret v=>exact q
 |brk=>exact q
 |cont=>exact q
abbrev O4:TS:=λD σ H=>D.ct σ H
def AZ:PS X (.Continue pos) O4:=λ_ _ σ H _ I h=>wpAny_Continue ⟨σ,H,I,h⟩
def Inv.quiet{σ:St}(I:P1 s):interactive X.env=false:=by simp[interactive,I.ok.kind]
abbrev O5(te:TE):TS:=λD σ H=>te σ H λ_ H1=>D.nx σ H1
def J7(he:Zy e te)(hs:YI e b_ pos.line X.env=pure false:=by rfl):PS X (.Expr e pos) (O5 te):=by intro jn s σ H D I h;show wpAny_Expr_any (thn (he jn s σ H _ I h) λv s1 ⟨x,H1,I1,r1,q1⟩=>⟨σ,H1,I1,q1⟩) I.quiet hs
abbrev QG(te:TE):TS:=λD σ H=>te σ H D.rt
def LD(he:Zy e te):PS X (.Return (a_ e) pos) (QG te):=by intro jn s σ H D I h;show wpAny_Return_some<|thn (he jn s σ H _ I h) λv s1 ⟨x,H1,I1,r1,q1⟩=>⟨x,σ,H1,I1,r1,q1⟩
abbrev QH(c:TT)(t u:TS):TS:=λD σ H=>c σ H λb H1=>if b=true then t D σ H1 else u D σ H1
def O6{a b:B_ A_}(hc:PT X c tc)(ha:PSs X a t)(hb:PSs X b u):PS X (.If c a b pos) (QH tc t u):=by
 intro jn s σ H D I h;refine wpAny_If<|thn (hc jn s σ H _ I h) λd s1 z9=>?_;let⟨H1,I1,q1⟩:=z9;cases d with
 |true=>exact ha jn s1 σ H1 D I1 q1
 |false=>exact hb jn s1 σ H1 D I1 q1
end
@[reducible]def TG:=V->St->Hp->(St->Hp->Prop)->Prop
@[reducible]def TGs:=B_ V->St->Hp->(St->Hp->Prop)->Prop
abbrev PG(X:Cx)(target:z_)(t:TG):Prop:=
 ∀(jn:g_ 0)(s:td)(σ:St)(H:Hp)(v:V)(u:s_)(Q:St->Hp->Prop),P1 s->ZJ u->t v σ H Q->
  wpAny (h_ X) X.A (assign target X.env u) (λ_ s'=>∃σ' H',Z0 s'/\Q σ' H') X.xe s
abbrev PGs(X:Cx)(ts:B_ z_)(t:TGs):Prop:=
 ∀(jn:g_ 0)(s:td)(σ:St)(H:Hp)(vs:B_ V)(us:ZQ 0)(Q:St->Hp->Prop),P1 s->aJ vs us->t vs σ H Q->
  wpAny (h_ X) X.A (assignInOrder ((Xr ts X.env).map (·.2)) us) (λ_ s'=>∃σ' H',Z0 s'/\Q σ' H') X.xe s
@[reducible]def QI:=V->V->V->Hp->(Hp->Prop)->Prop
abbrev QJ(X:Cx)(t:QI):Prop:=
 ∀(jn:g_ 0)(s:td)(σ:St)(H:Hp)(o i v:V)(ov iv u:s_)(Q:Hp->Prop),P1 s->RelV o ov->RelV i iv->ZJ u->t o i v H Q->
  wpAny (h_ X) X.A (setItem ov iv u) (λ_ s'=>∃H',i_ H' s'/\Q H') X.xe s
abbrev G9(i:Nat):TG:=λv σ H Q=>Q (σ.set i<|a_ v) H
def J8(hN:X.N.Nodup)(hi:X.N[i]?=a_ x)(hx:Loc X.env.scope x)(hf:X.fn x=true\/V_ 0=a_ .local:=by first|exact .inl rfl|exact .inr rfl|assumption):PG X (.Name x pos) (G9 i):=by intro jn s σ H v u Q I r h;show wpAny_assign_Name<|AY I hN hi hx r (λs' I'=>⟨_,H,I',h⟩) hf
abbrev QK:TGs:=λvs σ H Q=>vs=[]/\Q σ H
abbrev O7(t:TG)(u:TGs):TGs:=λvs σ H Q=>∃v r,vs=v::r/\t v σ H λσ' H'=>u r σ' H' Q
def J9:PGs X [] QK:=by
 intro jn s σ H vs us Q I r h;let⟨e,h⟩:=h;subst e;cases r
 show assignInOrder_nil ⟨σ,H,I,h⟩
variable{es:B_ z_}
def Ga{t:TG}{u:TGs}(h1:PG X e t)(h2:PGs X es u)(hs:(Xr (e::es) X.env).map (·.2)=assign e X.env::(Xr es X.env).map (·.2):=by rfl):PGs X (e::es) (O7 t u):=by
 intro jn s σ H vs us Q I r h;let⟨v,vr,e1,h⟩:=h;subst e1;cases r with
 |cons r rr=>rw[hs];refine assignInOrder_cons<|thn (h1 jn s σ H _ _ _ I r h) λ_ s1 z9=>?_;let⟨σ1,H1,I1,q1⟩:=z9;show h2 jn s1 σ1 H1 _ _ Q I1 rr q1
abbrev O8(K:UF)(n:Nat)(t:TGs):TG:=λv σ H Q=>∃a xs,v=.ref a/\ZF a xs/\xs.length=n/\t xs σ H Q
variable{n:Nat}
def LF{k:Nat}{t:TGs}(hc:X.calm=true)(h:PGs X es t)(hn:(Xr es X.env).length=n:=by rfl)(cg:(Xr es X.env).findIdx? (·.1)=b_:=by rfl):PG X (.Tuple es k pos) (O8 X.K n t):=by
 intro jn s σ H v u Q I r hw;let⟨a,xs,e1,hq,hl,hw⟩:=hw;subst e1;cases r
 let⟨its,rv,ht,hz⟩:=I.tuple hq;refine assign_Tuple_tuple (I.ok.hd hc) ht (by simp[hn,<-hl,rv.length]) cg λh' hx=>?_;let I1:P1 {s with heap:=h'}:=I.kept (t':=s.toks) λb o e=>hx b o (Vh<|Vd e) e;show h jn _ σ H xs _ Q I1 (l_ rv) hw
abbrev LG(te:TE)(g:TG):TS:=λD σ H=>te σ H λx H1=>g x σ H1 D.nx
variable{tg:z_}
def LH{g:TG}(he:Zy e te)(hg:PG X tg g)(hs:swapsWithSole [tg] e pos.line X.env=pure false:=by rfl)(hw:swappedStores [tg] e X.env=pure b_:=by rfl)(h1:(Xr [tg] X.env).map (·.2)=[assign tg X.env]:=by rfl):PS X (.Assign [tg] e pos) (LG te g):=by intro jn s σ H D I h;refine wpAny_Assign_stores (thn (he jn s σ H _ I h) λv s1 z9=>?_) hs hw;let⟨x,H1,I1,r1,q1⟩:=z9;rw[h1];show thn (hg jn s1 σ H1 x v _ I1 r1 q1) λ_ s2 q=>q
variable{pos':Pos}
def LI(hN:X.N.Nodup)(hi:X.N[i]?=a_ x)(hx:Loc X.env.scope x)(he:Zy e te)(hs:YI e (a_<|.Name x pos') pos.line X.env=pure false:=by rfl)(hf:X.fn x=true\/V_ 0=a_ .local:=by first|exact .inl rfl|exact .inr rfl|assumption):
  PS X (.Assign [.Name x pos'] e pos) (LG te<|G9 i):=by
 intro jn s σ H D I h;refine wpAny_Assign_Name (thn (he jn s σ H _ I h) λv s1 z9=>?_) hs;let⟨y,H1,I1,r1,q1⟩:=z9;show AY I1 hN hi hx r1 (λs2 I2=>⟨_,H1,I2,q1⟩) hf
abbrev LJ(c:TT)(tb:TS):TS:=λD σ H=>∃W:Nat->St->Hp->Prop,(∃m,W m σ H)/\∀m σ H,W m σ H->
 c σ H λb H1=>if b=true then ∃N:St->Hp->Prop,(∀σ' H',N σ' H'->∃m',m'<m/\W m' σ' H')/\tb { D with nx:=N,ct:=N,bk:=D.nx} σ H1 else D.nx σ H1
variable{body:B_ A_}
def Gb{tb:TS}(hp:PassesOwn (h_ X) X.A X.env X.xe)(hc:PT X c tc)(hb:PSs X body tb):PS X (.While c body [] pos) (LJ tc tb):=by
 intro jn s σ H D I h;let⟨W,⟨m0,w0⟩,turn⟩:=h;refine wpAny_While<|codeAny_whileLoop (λn s'=>∃σ' H',Z0 s'/\W n σ' H') ?_ m0 ⟨σ,H,I,w0⟩;rintro n s1 ⟨σ1,H1,I1,w1⟩;refine XN hp<|thn (hc jn s1 σ1 H1 _ I1<|turn n σ1 H1 w1) λb s2 z9=>?_;let⟨H2,I2,q2⟩:=z9;cases b with
 |true=>
  let⟨N,hN,q2⟩:=q2;rw[YX 0];refine XN hp<|thn (hb jn s2 σ1 H2 _ I2 q2) λf s3 q3=>?_;cases f with
  |next=>let⟨σ3,H3,I3,n3⟩:=q3;let⟨m',hm,w3⟩:=hN σ3 H3 n3;show⟨m',hm,σ3,H3,I3,w3⟩
  |cont=>let⟨σ3,H3,I3,n3⟩:=q3;let⟨m',hm,w3⟩:=hN σ3 H3 n3;show⟨m',hm,σ3,H3,I3,w3⟩
  |brk=>exact q3
  |ret v=>exact q3
 |false=>rw[if_neg Vj];show wpAny_execs_nil ⟨σ1,H2,I2,q2⟩
structure It where
 go:Nat->Hp->Prop
 yld:Nat->Hp->V->Hp->Prop
 stop:Nat->Hp->Prop
abbrev B0(X:Cx)(jn:g_ 0)(H:Hp)(b:t_):Prop:=H b=b_/\b≠X.env.locals/\b∉X.fs/\(b∈X.ex\/X.s₀.heap.objs.size<=b)/\(∀x c,T_ 0=a_ c->c≠b)/\∀p∈X.pn++jn,p.1≠b
def Inv.fpOk{σ:St}{b:t_}(I:P1 s)(hb:(e_ s)<=b)(hn:H' b=b_):B0 X jn H' b:=by
 refine⟨hn,WR<|Vs I.lt hb,I.nofs hb,.inr<|VS I.sz hb,λx c e z=>?_,λp hp z=>?_⟩
 ·let⟨v,q⟩:=I.cell x c e;show absurd (Vs q.lt (by rw[z];show hb))<|WY _
 ·show absurd (Vs (Vd (I.pin p hp).1) (by rw[z];show hb)) (WY _)
structure Turn(P:y_)(w:x_)(K:UF)(tg:z_)(J:It)(fp:B_ t_)(it:t_)(tn:Nat->w_->Prop):Prop where
 mem:it∈fp
 obj:∀i h,tn i h->∀b∈fp,∃o,h.get? b=some o/\∀v,o.data≠.cell v
 keep:∀i h h',tn i h->(∀b∈fp,∀o,h.get? b=some o->h'.get? b=some o)->tn i h'
 item:∀(X:Cx),X.prog=P->X.w=w->X.K=K->X.calm=true->∀(i:Nat)(jn:g_ 0)(s:td)(σ:St)(H:Hp)(E:f_ 0),Inv X jn σ H s->(∀b∈fp,B0 X jn H b)->tn i s.heap->J.go i H->
  wpAny (model P w) X.A (pyNext (.ref it)) (λr s1=>∃u,r=some u/\
   wpAny (model P w) X.A (letOwnedTupleGo tg (.ref it) u) (λ_ s2=>∃x H',Inv X jn σ H' s2/\RelV x u/\J.yld i H x H'/\tn (i+1) s2.heap/\∀b∈fp,H' b=none) E s1) E s
 done:∀(X:Cx),X.prog=P->X.w=w->X.K=K->X.calm=true->∀(i:Nat)(jn:g_ 0)(s:td)(σ:St)(H:Hp)(E:f_ 0),Inv X jn σ H s->(∀b∈fp,B0 X jn H b)->tn i s.heap->J.stop i H->
  wpAny (model P w) X.A (pyNext (.ref it)) (λr s1=>r=none/\Inv X jn σ H s1) E s
 self:∀(A:v_)(i:Nat)(s:td)(Q:f_ 0)(E:f_ 0),tn i s.heap->Q (.ref it) s->wpAny (model P w) A (pyIter (.ref it)) Q E s
@[reducible]def TI:=St->Hp->(It->Hp->Prop)->Prop
abbrev PIE(X:Cx)(jn:g_ 0)(σ:St)(tg:z_)(R:It->Hp->Prop)(yb:s_)(s2:td):Prop:=
 ∃(it:t_)(fp:B_ t_)(tn:Nat->w_->Prop)(J:It)(H':Hp),yb=.ref it/\i_ H' s2/\Turn X.prog X.w X.K tg J fp it tn/\tn 0 s2.heap/\(∀b∈fp,B0 X jn H' b)/\R J H'
abbrev PI(X:Cx)(tg iter:z_)(wi:TI):Prop:=
 ∀(jn:g_ 0)(s:td)(σ:St)(H:Hp)(R:It->Hp->Prop),P1 s->wi σ H R->
  wpAny (h_ X) X.A (eval iter X.env) (λv s1=>wpAny (h_ X) X.A (pyIter v) (PIE X jn σ tg R) X.xe s1) X.xe s
def B1{o:Obj}{n:String}{vs:YY 0}{Q:j_ Unit}(ho:s.heap.get? it=a_ o)(hc:o.cls=.type n)(hd:o.data=.fields vs)(hn:["enumerate","zip","dict_itemiterator","dict_reverseitemiterator","odict_iterator","itertools.zip_longest","itertools.pairwise"].contains n=false)(hQ:Q () s):wpAny M A (letOwnedTupleGo tg (.ref it) u) Q E s:=by
 unfold letOwnedTupleGo;cases tg <;> first
  |exact SL hQ
  | (cases u <;> first
    |exact SL hQ
    | (refine SB (wpAny_load ho ?_)
       rw[hc,hd]
       change wpAny M A (if(["enumerate","zip","dict_itemiterator","dict_reverseitemiterator","odict_iterator","itertools.zip_longest","itertools.pairwise"].contains n&&vs[0]? == a_ (rawInt _))=true then _ else _) Q E s
       rw[if_neg (by intro h;rw[hn,Bool.false_and]at h;cases h)];show SL hQ))
abbrev Itl(K:UF)(a:t_):It:=⟨λi H=>∃xs x,ZW a xs/\xs[i]?=a_ x,λi H x H'=>H'=H/\∀xs,ZW a xs->xs[i]?=a_ x,λi H=>∃xs,ZW a xs/\xs.length<=i⟩
abbrev Itt(K:UF)(a:t_):It:=⟨λi H=>∃xs x,ZF a xs/\xs[i]?=a_ x,λi H x H'=>H'=H/\∀xs,ZF a xs->xs[i]?=a_ x,λi H=>∃xs,ZF a xs/\xs.length<=i⟩
abbrev Itr(lo:Int)(n:Nat):It:=⟨λi _=>i<n,λi H x H'=>H'=H/\x=.int (lo+i),λi _=>n<=i⟩
def yA(a it:t_):Turn P w K tg (Itl K a) [it] it (λi h=>h.IsListIter it a i) where
 mem:=by simp
 obj:=λi h st b hb=>by
  let e:b=it:=by simpa using hb
  subst e;let⟨o,e,c,d⟩:=st;show⟨o,e,λv z=>by rw[d]at z;cases z⟩
 keep:=λi h h' st k=>st.at λo e=>k it (by simp) o e
 item:=by
  intro X hP hw hK hc i jn s σ H E I hf st hg;subst hP hw hK;let⟨xs,x,hq,hx⟩:=hg;let⟨its,rv,p,hz⟩:=I.list hq;let⟨u,hu,ru⟩:=rv.get hx;let⟨f0,f1,f2,f3,f4,f5⟩:=hf it (by simp);refine wpAny_pyNext_list_item st p.isList (x:=u) (l_ hu) λh' bu sb=>?_;let I1:P1 {s with heap:=h'}:=I.turned (t':=s.toks) (λb o hb e=>(sb.2 b hb).trans e) f0 f1 f3 f4 f5;let⟨o,e,c,d⟩:=id bu;show⟨u,rfl,B1 (s:={s with heap:=h'}) e c d nofun ⟨x,H,I1,ru,⟨rfl,λys hy=>by rw[I.list_inj hy hq];show hx⟩,bu,λb hb=>(hf b hb).1⟩⟩
 done:=by intro X hP hw hK hc i jn s σ H E I hf st hg;subst hP hw hK;let⟨xs,hq,hx⟩:=hg;let⟨its,rv,p,hz⟩:=I.list hq;let⟨f0,f1,f2,f3,f4,f5⟩:=hf it (by simp);let hl:=rv.length;show wpAny_pyNext_list_end (I.ok.hd hc) st p.isList (by simp;omega) λh' eb=>⟨rfl,I.turned (t':=s.toks) (λb o hb e=>eb b o hb e) f0 f1 f3 f4 f5⟩
 self:=λ_ _ _ _ _ st h=>wpAny_pyIter_listiter st h
def Cc(a it:t_):Turn P w K tg (Itt K a) [it] it (λi h=>h.IsTupleIter it a i) where
 mem:=by simp
 obj:=λi h st b hb=>by
  let e:b=it:=by simpa using hb
  subst e;let⟨o,e,c,d⟩:=st;show⟨o,e,λv z=>by rw[d]at z;cases z⟩
 keep:=λi h h' st k=>st.at λo e=>k it (by simp) o e
 item:=by
  intro X hP hw hK hc i jn s σ H E I hf st hg;subst hP hw hK;let⟨xs,x,hq,hx⟩:=hg;let⟨its,rv,p,hz⟩:=I.tuple hq;let⟨u,hu,ru⟩:=rv.get hx;let⟨f0,f1,f2,f3,f4,f5⟩:=hf it (by simp);refine wpAny_pyNext_tuple_item st (show s.heap.IsTuple a its.toArray from p) (x:=u) (l_ hu) λh' bu sb=>?_
  let I1:P1 {s with heap:=h'}:=I.turned (t':=s.toks) (λb o hb e=>(sb.2 b hb).trans e) f0 f1 f3 f4 f5;let⟨o,e,c,d⟩:=id bu;show⟨u,rfl,B1 (s:={s with heap:=h'}) e c d nofun ⟨x,H,I1,ru,⟨rfl,λys hy=>by rw[I.tuple_inj hy hq];show hx⟩,bu,λb hb=>(hf b hb).1⟩⟩
 done:=by intro X hP hw hK hc i jn s σ H E I hf st hg;subst hP hw hK;let⟨xs,hq,hx⟩:=hg;let⟨its,rv,p,hz⟩:=I.tuple hq;let⟨f0,f1,f2,f3,f4,f5⟩:=hf it (by simp);let hl:=rv.length;show wpAny_pyNext_tuple_end (I.ok.hd hc) st (show s.heap.IsTuple a its.toArray from p) (by simp;omega) λh' eb=>⟨rfl,I.turned (t':=s.toks) (λb o hb e=>eb b o hb e) f0 f1 f3 f4 f5⟩
 self:=λ_ _ _ _ _ st h=>wpAny_pyIter_tupleiter st h
def Cd(it:t_)(lo:Int)(n:Nat):Turn P w K tg (Itr lo n) [it] it (λi h=>IsRangeIter h it (lo+(i:Nat)*1) ((n:Int)-(i:Nat)) 1) where
 mem:=by simp
 obj:=λi h st b hb=>by
  let e:b=it:=by simpa using hb
  subst e;show⟨_,st,λv z=>by let z':Data.fields _=Data.cell v:=z;cases z'⟩
 keep:=λi h h' st k=>k it (by simp) _ st
 item:=by
  intro X hP hw hK hc i jn s σ H E I hf st hg;subst hP hw hK;let⟨f0,f1,f2,f3,f4,f5⟩:=hf it (by simp);let W:=Walks.range (prog:=X.prog) (w:=X.w) (I.ok.hd hc) it lo 1 n;refine W.item i s _ _ hg st λv h' tk hv bu kk=>?_;let⟨t,rfl⟩:=hv;let I1:P1 {s with heap:=h',toks:=tk}:=I.turned (λb o hb e=>kk b o (l_ hb) e) f0 f1 f3 f4 f5;refine⟨_,rfl,B1 (s:={s with heap:=h',toks:=tk}) (n:="range_iterator") bu rfl rfl nofun ⟨.int<|lo+i,H,I1,⟨t,?_⟩,⟨rfl,rfl⟩,bu,λb hb=>(hf b hb).1⟩⟩;rw[Int.mul_one]
 done:=by intro X hP hw hK hc i jn s σ H E I hf st hg;subst hP hw hK;let⟨f0,f1,f2,f3,f4,f5⟩:=hf it (by simp);show wpAny_pyNext_range_end (I.ok.hd hc) st (by have:n<=i:=hg;omega) λh' eb=>⟨rfl,I.turned (t':=s.toks) (λb o hb e=>eb b o hb e) f0 f1 f3 f4 f5⟩
 self:=λ_ _ _ _ _ st h=>wpAny_pyIter_rangeiter st h
def B2{σ:St}{R:It->Hp->Prop}{lo hi:Int}{t u v:Tok}{tk:Nat}(I:P1 s)(h1:-(2 ^ 62)<=lo)(h2:lo<2 ^ 62)(h3:-(2 ^ 62)<=hi)(h4:hi<2 ^ 62)(q:R (Itr lo (hi-lo).toNat) H):wpAny (h_ X) X.A (pyIter<|.ref<|e_ s) (PIE X jn σ tg R) E {s with heap:=s.heap.push {cls:=.type "range",data:=.fields #[.int lo t,.int hi u,.int 1 v]},toks:=tk}:=by
 refine wpAny_pyIter_range (IsRange.new ..) (small_one h1 h2 h3 h4) ?_;let I1:P1 {s with heap:=s.heap.push {cls:=.type "range",data:=.fields #[.int lo t,.int hi u,.int 1 v]},toks:=tk}:=I.kept λb o e=>Zp e;refine⟨(s.heap.push {cls:=.type "range",data:=.fields #[.int lo t,.int hi u,.int 1 v]}).objs.size,[(s.heap.push {cls:=.type "range",data:=.fields #[.int lo t,.int hi u,.int 1 v]}).objs.size],_,_,H,rfl,
  I1.kept (t':=tk) λb o e=>Zp e,Cd _ lo (hi-lo).toNat,?_,λb hb=>?_,q⟩
 ·let e1:lo+((0:Nat):Int)*1=lo:=by simp
  let e2:(((hi-lo).toNat:Nat):Int)-((0:Nat):Int)=Builtin.Range.rangeSize lo hi 1:=by rw[rangeSize_one];split <;> omega
  change IsRangeIter _ _ (lo+((0:Nat):Int)*1) ((((hi-lo).toNat:Nat):Int)-((0:Nat):Int)) 1
  rw[e1,e2];show Zc 0
 ·let e:b=(s.heap.push {cls:=.type "range",data:=.fields #[.int lo t,.int hi u,.int 1 v]}).objs.size:=by simpa using hb
  subst e;show I1.fpOk (U6 _)<|I1.hok.fresh<|U6 _
abbrev QL(wi:TI)(g:TG)(tb:TS):TS:=λD σ H=>wi σ H λJ H1=>∃W:Nat->Nat->St->Hp->Prop,(∃m,W 0 m σ H1)/\∀i m σ H,W i m σ H->
 (J.stop i H/\D.nx σ H)\/(J.go i H/\∃N:St->Hp->Prop,(∀σ' H',N σ' H'->∃m',m'<m/\W (i+1) m' σ' H')/\∀x H',J.yld i H x H'->g x σ H' λσ2 H2=>tb { D with nx:=N,ct:=N,bk:=D.nx} σ2 H2)
abbrev uF(fp:B_ t_)(h:w_):g_ 0:=fp.filterMap λb=>(h.get? b).map λo=>(b,o)
variable{fp:B_ t_}
def jY{h:w_}{b:t_}{o:Obj}(hb:b∈fp)(e:h.get? b=a_ o):(b,o)∈uF fp h:=List.mem_filterMap.mpr ⟨b,hb,by rw[e];rfl⟩
def EH{h:w_}{p:t_×Obj}(hp:p∈uF fp h):p.1∈fp/\h.get? p.1=a_ p.2:=by
 let⟨b,hb,e⟩:=List.mem_filterMap.mp hp;cases q:h.get? b with
 |none=>rw[q]at e;cases e
 |some o=>rw[q]at e;let e':(b,o)=p:=Vv e;subst e';show⟨hb,q⟩
def Inv.pinned{σ:St}(I:P1 s)(hf:∀b∈fp,B0 X jn H b)(ho:∀b∈fp,∃o,N_ 0=a_ o/\∀v,o.data≠.cell v):Inv X (jn++uF fp s.heap) σ H s:=I.pins_of λp hp=>(Vx.mp hp).elim (λz=>I.pin p<|Vf _ z) λz=>by let⟨hb,e⟩:=EH z;let⟨f0,f1,f2,_⟩:=hf p.1 hb;let⟨o,e',d⟩:=ho p.1 hb;rw[e]at e';cases e';show⟨e,f0,f1,f2,d⟩
def Inv.unpinned{pl:g_ 0}{σ:St}(I:Inv X (jn++pl) σ H s):P1 s:=I.pins_of λp hp=>I.pin p<|Vf _<|Wc _ hp
variable{iter:z_}{wi:TI}
def LK{g:TG}{tb:TS}(hp:PassesOwn (h_ X) X.A X.env X.xe)(hc:X.calm=true)(hi:PI X tg iter wi)(hg:PG X tg g)(hb:PSs X body tb)(hs:∀x,q0e 0=pure x:=by intro _;rfl):PS X (.For tg iter body [] pos) (QL wi g tb):=by
 intro jn s σ H D I h;refine wpAny_For (thn (hi jn s σ H _ I h) λv s1 h1=>thn h1 λyb s2 h2=>?_) hs;let⟨it,fp,tn,J,H2,e,I2,T,jm,f2,W,⟨m0,w0⟩,turn⟩:=h2;subst e
 -- what stays true of the iterator's objects through the loop
 let n5:∀{H':Hp},(∀b∈fp,H' b=b_)->∀b∈fp,B0 X jn H' b:=λhn b hb=>⟨hn b hb,(f2 b hb).2⟩;refine codeAny_forLoop_any (λn s'=>∃i σ' H',Z0 s'/\tn i s'.heap/\(∀b∈fp,H' b=b_)/\W i n σ' H') ?_ m0 ⟨0,σ,H2,I2,jm,λb hb=>(f2 b hb).1,w0⟩;rintro n s3 ⟨i,σ3,H3,I3,r8,fr3,w3⟩;rcases turn i n σ3 H3 w3 with⟨stop,qn⟩|⟨go,N,hN,step⟩
 ·refine XN hp (thn (T.done X rfl rfl rfl hc i jn s3 σ3 H3 X.xe I3 (n5 fr3) r8 stop) λr s4 z9=>?_);let⟨hr,I4⟩:=z9;subst hr;show wpAny_execs_nil ⟨σ3,H3,I4,qn⟩
 ·refine XN hp (thn (T.item X rfl rfl rfl hc i jn s3 σ3 H3 X.xe I3 (n5 fr3) r8 go) λr s4 z9=>?_);let⟨u,hr,h4⟩:=z9;subst hr;refine XN hp<|thn h4 λ_ s5 z9=>?_;let⟨x,H5,I5,r5,y5,ot,j6⟩:=z9;let Te:=I5.pinned (n5 j6)<|T.obj _ _ ot;refine XN hp<|thn (hg _ s5 σ3 H5 x u _ Te r5<|step x H5 y5) λ_ s6 z9=>?_;let⟨σ6,H6,I6,q6⟩:=z9;refine XN hp<|thn (hb _ s6 σ6 H6 _ I6 q6) λf s7 q7=>?_;let again:∀{σ7:St}{H7:Hp},Inv X (jn++uF fp s5.heap) σ7 H7 s7->N σ7 H7->∃m,m<n/\∃i σ' H',Z0 s7/\tn i s7.heap/\(∀b∈fp,H' b=b_)/\W i m σ' H':=λ{σ7 H7} I7 n7=>by let⟨m',hm,w7⟩:=hN σ7 H7 n7;refine⟨m',hm,i+1,σ7,H7,I7.unpinned,T.keep _ _ _ ot λb hb o e=>(I7.pin (b,o)<|Vf _<|Vf _<|jY hb e).1,λb hb=>?_,w7⟩;let⟨o,e,d⟩:=T.obj _ _ ot b hb;show(I7.pin (b,o)<|Vf _<|Vf _<|jY hb e).2.1
  cases f with
  |next=>let⟨σ7,H7,I7,n7⟩:=q7;show again I7 n7
  |cont=>let⟨σ7,H7,I7,n7⟩:=q7;show again I7 n7
  |brk=>let⟨σ7,H7,I7,q7⟩:=q7;show⟨σ7,H7,I7.unpinned,q7⟩
  |ret v=>let⟨x7,σ7,H7,I7,r7,q7⟩:=q7;show⟨x7,σ7,H7,I7.unpinned,r7,q7⟩
@[reducible]def R2:=V->V->Hp->VK->Prop
abbrev OpR(X:Cx)(f:s_->s_->Sem s_)(r:R2):Prop:=
 ∀(jn:g_ 0)(s:td)(σ:St)(H:Hp)(x y:V)(v u:s_)(Q:VK),P1 s->ZI v->RelV y u->r x y H Q->
  wpAny (h_ X) X.A (f v u) (Za Q) X.xe s
abbrev cO(X:Cx)(f:s_)(r:B_ V->Hp->VK->Prop):Prop:=
 ∀(jn:g_ 0)(s:td)(σ:St)(H:Hp)(xs:B_ V)(us:ZQ 0)(Q:VK),P1 s->aJ xs us->r xs H Q->
  wpAny (h_ X) X.A (call f us) (Za Q) X.xe s
abbrev QM(X:Cx)(r:V->Hp->(Bool->Hp->Prop)->Prop):Prop:=
 ∀(jn:g_ 0)(s:td)(σ:St)(H:Hp)(x:V)(v:s_)(Q:Bool->Hp->Prop),P1 s->ZI v->r x H Q->
  wpAny (h_ X) X.A (truthy v) (TP X jn σ Q) X.xe s
abbrev tOp(r:R2)(ta tb:TE):TE:=λσ H Q=>ta σ H λx H1=>tb σ H1 λy H2=>r x y H2 Q
abbrev rI(C:Int->Int->Prop)(g:Int->Int->V):R2:=λx y H Q=>∃i j,x=.int i/\y=.int j/\C i j/\Q (g i j) H
abbrev rI0(g:Int->Int->V):R2:=λx y H Q=>∃i j,x=.int i/\y=.int j/\Q (g i j) H
variable{f:s_->s_->Sem s_}{g:Int->Int->Int}
section
variable{a b:z_}{tc:TE}
def LL(ha:Zy a ta)(hb:Zy b tb){σ:St}{R:V->V->Hp->Prop}(I:P1 s)(h:ta σ H λx H1=>tb σ H1 λy H2=>R x y H2)(hf:∀v u s2 x y H2,i_ H2 s2->ZI v->RelV y u->R x y H2->wpAny (h_ X) X.A (f v u) Q X.xe s2):
  wpAny (h_ X) X.A (eval a X.env) (λv s₁=>wpAny (h_ X) X.A (eval b X.env) (λu s₂=>wpAny (h_ X) X.A (f v u) Q X.xe s₂) X.xe s₁) X.xe s:=by
 refine thn (q0i 0) λv s1 z9=>?_;let⟨x,H1,I1,r1,q1⟩:=z9;refine thn (hb jn s1 σ H1 _ I1 q1) λu s2 z9=>?_;let⟨y,H2,I2,r2,q2⟩:=z9;show hf v u s2 x y H2 I2 r1 r2 q2
def O9{op:Operator}{r:R2}(ho:Y7 (WB op) r)(ha:Zy a ta)(hb:Zy b tb):Zy (.BinOp a op b pos) (tOp r ta tb):=by intro jn s σ H Q I h;show wpAny_BinOp<|LL ha hb I h λv u s2 x y H2 I2 rx ry q=>ho jn s2 σ H2 x y v u Q I2 rx ry q
def opI{C:Int->Int->Prop}(rule:∀(i j:Int)(t u:Tok)(s:td)(Q:f_ 0)(E:f_ 0),C i j->Q (.int (g i j) s.toks) { s with toks:=s.toks+1}->wpAny (h_ X) X.A (f (.int i t)<|.int j u) Q E s):
  Y7 f (rI C λi j=>.int<|g i j):=by
 intro jn s σ H x y v u Q I rx ry h;let⟨i,j,rfl,rfl,hc,q⟩:=h;let⟨t,rfl⟩:=rx;let⟨t',rfl⟩:=ry;show rule i j t t' s _ _ hc ⟨.int<|g i j,H,Z3 0,⟨_,rfl⟩,q⟩
def Oa(rule:∀(i j:Int)(t u:Tok)(s:td)(Q:f_ 0)(E:f_ 0),Q (.int (g i j) s.toks) { s with toks:=s.toks+1}->wpAny (h_ X) X.A (f (.int i t)<|.int j u) Q E s):
  Y7 f (rI0 λi j=>.int<|g i j):=by
 intro jn s σ H x y v u Q I rx ry h;let⟨i,j,rfl,rfl,q⟩:=h;let⟨t,rfl⟩:=rx;let⟨t',rfl⟩:=ry;show rule i j t t' s _ _ ⟨.int<|g i j,H,Z3 0,⟨_,rfl⟩,q⟩
def J'{g:Int->Int->Bool}(rule:∀(i j:Int)(t u:Tok)(s:td)(Q:f_ 0)(E:f_ 0),Q (.bool<|g i j) s->wpAny (h_ X) X.A (f (.int i t)<|.int j u) Q E s):
  Y7 f (rI0 λi j=>.bl<|g i j):=by
 intro jn s σ H x y v u Q I rx ry h;let⟨i,j,rfl,rfl,q⟩:=h;let⟨t,rfl⟩:=rx;let⟨t',rfl⟩:=ry;show rule i j t t' s _ _ ⟨.bl<|g i j,H,I,rfl,q⟩
abbrev Gc(i j:Int):Prop:=0<j/\j<1073741824
abbrev EI(i j:Int):Prop:=0<=j/\j<=1000000/\i.natAbs<2 ^ 64
abbrev B3(i j:Int):Prop:=(-(2 ^ 64)<i/\i<2 ^ 64)\/(-(2 ^ 64)<j/\j<2 ^ 64)
def B3.ok{i j:Int}(h:B3 i j):IntMulOk i j:=by
 rcases h with⟨h1,h2⟩|⟨h1,h2⟩
 ·show .of_left (intBits_le_64 h1 h2)
 ·show .of_right (intBits_le_64 h1 h2)
def LM:Y7 (WB .Add) (rI0 λi j=>.int<|i+j):=Oa λ_ _ _ _ _ _ _ q=>add_int q
def LN:Y7 (WB .Sub) (rI0 λi j=>.int<|i-j):=Oa λ_ _ _ _ _ _ _ q=>sub_int q
def LO:Y7 (WB .Mult) (rI B3 λi j=>.int<|i*j):=opI λ_ _ _ _ _ _ _ hc q=>mul_int q hc.ok
def Ja:Y7 (WB .FloorDiv) (rI Gc λi j=>.int<|i/j):=opI λi j _ _ _ _ _ hc q=>by let h1:(0:Int)<j:=hc.1;let h2:j<1073741824:=hc.2;show floordiv_int ⋯ (by rw[Int.fdiv_eq_ediv_of_nonneg i ⋯];show q) (.inl<|PyProof.noPylong_small ⋯)
def LP:Y7 (WB .Mod) (rI (λ_ j=>0<j) λi j=>.int<|i%j):=opI λi j _ _ _ _ _ hc q=>by let h1:(0:Int)<j:=hc;show mod_int' ⋯ (by rw[Int.fmod_eq_emod_of_nonneg i ⋯];show q)
def LR:Y7 (WB .Pow) (rI EI λi j=>.int<|i ^ j.toNat):=opI λ_ _ _ _ _ _ _ hc q=>pow_int_small hc.1 hc.2.1 hc.2.2 q
end
def Jb{i j:Int}:decide (V.int i=V.int j)=(i == j):=by rw[W4];simp
def Jc{i j:Str}:decide (V.str i=V.str j)=(i == j):=by rw[W4];simp
def oC{σ:St}{Q:VK}{k k':Bool}(I:P1 s)(q:Q (.bl k) H)(e:k=k'):Za Q (.bool k') s:=by subst e;show⟨.bl k,H,I,rfl,q⟩
def Ob:Y7 (VG .Lt) (rI0 λi j=>.bl<|decide (i<j)):=J' λ_ _ _ _ _ _ _ q=>lt_int q
def Oc:Y7 (VG .LtE) (rI0 λi j=>.bl<|decide (i<=j)):=J' λ_ _ _ _ _ _ _ q=>le_int q
def Od:Y7 (VG .Gt) (rI0 λi j=>.bl<|decide (j<i)):=J' λ_ _ _ _ _ _ _ q=>gt_int q
def Oe:Y7 (VG .GtE) (rI0 λi j=>.bl<|decide (j<=i)):=J' λ_ _ _ _ _ _ _ q=>ge_int q
def EJ:Y7 (VG .Lt) (λx y H Q=>∃i j,x=.str i/\y=.str j/\Q (.bl<|decide (i.cps.toList<j.cps.toList)) H):=by intro jn s σ H x y v u Q I rx ry h;let⟨i,j,rfl,rfl,q⟩:=h;let⟨t,rfl⟩:=rx;let⟨t',rfl⟩:=ry;show lt_str<|oC I q rfl
def Jd:Y7 (VG .IsNot) (λx y H Q=>y=.non/\Q (.bl<|!decide (x=.non)) H):=by
 intro jn s σ H x y v u Q I rx ry h;let⟨rfl,q⟩:=h;cases ry
 refine isnot_none_gen<|oC I q ?_;cases x <;> first
  |(cases rx;rfl)
  |(let⟨t,rfl⟩:=rx;rfl)
def OpR.or{r r':R2}(h:Y7 f r)(h':Y7 f r'):Y7 f (λx y H Q=>r x y H Q\/r' x y H Q):=by
 intro jn s σ H x y v u Q I rx ry q;rcases q with q|q
 ·show Zh x y v u Q I rx ry q
 ·show h' jn s σ H x y v u Q I rx ry q
variable{op:CmpOp}
def Gd(b:z_)(h:op≠.In:=by decide)(h2:op≠.NotIn:=by decide):behindInMarks op b=false:=by
 let e1:(op == CmpOp.In)=false:=by cases op <;> first|rfl|exact absurd rfl h
 let e2:(op == CmpOp.NotIn)=false:=by cases op <;> first|rfl|exact absurd rfl h2
 cases b <;> simp[behindInMarks,e1,e2]
def Je{a:z_}{b:z_}{r:R2}(ho:Y7 (VG op) r)(ha:Zy a ta)(hb:Zy b tb)(hm:behindInMarks op b=false):Zy (.Compare a [op] [b] pos) (tOp r ta tb):=by intro jn s σ H Q I h;show wpAny_Compare1 (LL ha hb I h λv u s2 x y H2 I2 rx ry q=>ho jn s2 σ H2 x y v u Q I2 rx ry q) hm
abbrev Of(t:TE):TT:=λσ H Q=>t σ H λx H'=>∃k,x=.bl k/\Q k H'
abbrev Ge(r r':R2)(ta tb tc:TE):TE:=λσ H Q=>ta σ H λx H1=>tb σ H1 λy H2=>r x y H2 λz H3=>∃k,z=.bl k/\
 (if k=true then tc σ H3 λw' H4=>r' y w' H4 Q else Q (.bl false) H3)
variable{m4:CmpOp}
def Gf{a:z_}{b:z_}{tc:TE}{r r':R2}(ho:Y7 (VG op) r)(cy:Y7 (VG m4) r')(ha:Zy a ta)(hb:Zy b tb)(hc:Zy c tc)(hm:lastMarks [op,m4] [b,c]=false:=by with_unfolding_all rfl):PT X (.Compare a [op,m4] [b,c] pos) (Of<|Ge r r' ta tb tc):=by
 intro jn s σ H Q I h;refine isTrue_chain (thn (q0i 0) λv s1 ⟨x,H1,I1,r1,q1⟩=>test_link<|thn (hb jn s1 σ H1 _ I1 q1) λu s2 ⟨y,H2,I2,r2,q2⟩=>thn (ho jn s2 σ H2 x y v u _ I2 r1 r2 q2) λd s3 ⟨z,H3,I3,r3,k,e,q3⟩=>?_) hm;subst e;cases r3
 refine XO ?_;cases k with
 |false=>
  let⟨k',e',q'⟩:=q3;cases e'
  show ite_ff ⟨H3,I3,q'⟩
 |true=>
  refine ite_tt<|test_last<|thn (hc jn s3 σ H3 _ I3 q3) λw' s4 ⟨z',H4,I4,r4,q4⟩=>thn (cy jn s4 σ H4 y z' u w' _ I4 r2 r4 q4) λd' s5 z9=>?_;let⟨z2,H5,I5,r5,k2,e2,q5⟩:=z9;subst e2;cases r5
  show XO ⟨H5,I5,q5⟩
abbrev Ce(K:UF)(x:V)(H:Hp)(k:Bool):Prop:=
 match x with
 |.non=>k=false
 |.bl b=>k=b
 |.int i=>k=(i != 0)
 |.str y=>y.length<=Ve/\k=((y.length:Int) != 0)
 |.byt y=>y.size<=Ve/\k=((y.size:Int) != 0)
 |.ref p=>(∃xs,ZW p xs/\k=!xs.isEmpty)\/(∃xs,ZF p xs/\k=!xs.isEmpty)\/∃kvs,H p=a_ (.dK kvs)/\k=!kvs.isEmpty
 |_=>False
def Cf{κ:Type}{kvs:B_ (κ×V)}{vs:B_ (κ×s_)}(r:KV kvs vs):(!vs.isEmpty)=!kvs.isEmpty:=by cases r <;> rfl
variable{its:ZQ 0}
def uG{xs:B_ V}(r:aJ xs its):(!its.toArray.isEmpty)=!xs.isEmpty:=by cases r <;> simp
def oE:(Ve:Nat)<2 ^ 63:=by rw[VQ];decide
def Gg:QM X (λx H Q=>∃k,Ce X.K x H k/\Q k H):=by
 intro jn s σ H x v Q I rx h;let⟨k,e,q⟩:=h;let hl:=oE;let hs:Ve=16777216:=VQ;cases x with
 |non=>
  cases rx
  let e':k=false:=e;subst e';show truthy_none ⟨H,I,q⟩
 |bl b=>
  cases rx
  let e':k=b:=e;subst e';show XO ⟨H,I,q⟩
 |int i=>let⟨t,rfl⟩:=rx;let e':k=(i != 0):=e;subst e';show PySem.P.truthy_int ⟨H,I,q⟩
 |str y=>let⟨t,rfl⟩:=rx;obtain⟨hy,e'⟩:y.length<=Ve/\k=((y.length:Int) != 0):=e;subst e';show PySem.P.truthy_str ⋯ ⟨H,Z3 0,q⟩
 |byt y=>let⟨t,rfl⟩:=rx;obtain⟨hy,e'⟩:y.size<=Ve/\k=((y.size:Int) != 0):=e;subst e';show PySem.W.truthy_bytes ⋯ ⟨H,Z3 0,q⟩
 |ref p=>
  cases rx
  let e':(∃xs,SqL X.K H p xs/\k=!xs.isEmpty)\/(∃xs,SqT X.K H p xs/\k=!xs.isEmpty)\/∃kvs,H p=a_ (.dK kvs)/\k=!kvs.isEmpty:=e;rcases e' with⟨xs,hx,e'⟩|⟨xs,hx,e'⟩|⟨kvs,hx,e'⟩
  ·subst e';let⟨its,r,pl,hz⟩:=I.list hx;let hlen:=r.length;show wpAny_truthy_list pl.isList (by simp only[Va];omega) ⟨H,Z3 0,by rw[uG r];show q⟩
  ·subst e';let⟨its,r,pl,hz⟩:=I.tuple hx;let hlen:=r.length;show truthy_tuple pl (by simp only[Va];omega) ⟨H,Z3 0,by rw[uG r];show q⟩
  ·subst e';obtain⟨hz,hS,vs,r,m⟩:kvs.length<=Ve/\(p == Wi)=false/\∃vs,KV kvs vs/\s.heap.DictOf (aZ X.prog X.w) p vs:=I.hok p _ hx;let hlen:kvs.length=vs.length:=VX r;show wpAny_truthy_dict hS m ⋯ ⟨H,Z3 0,by rw[Cf r];show q⟩
 |_=>exact(show False from e).elim
def Gh{a:z_}(ha:Zy a ta)(he:∀whole,isTrue a X.env whole=(do let v <-whole;standAt a.pos;holding [v] (truthy v))):
  PT X a (λσ H Q=>ta σ H λx H'=>∃k,Ce X.K x H' k/\Q k H'):=by
 intro jn s σ H Q I h
 exact isTrue_plain (thn (q0i 0) λv s1 ⟨x,H1,I1,r1,q1⟩=>Gg jn s1 σ H1 x v Q I1 r1 q1)<|he _
def Cg:Y7 (WB .Add) (λx y H Q=>∃i j,x=.str i/\y=.str j/\i.length+j.length<=Ve/\Q (.str<|i++j) H):=by intro jn s σ H x y v u Q I rx ry h;let⟨i,j,rfl,rfl,hz,q⟩:=h;let⟨t,rfl⟩:=rx;let⟨t',rfl⟩:=ry;show add_str (λt' tk=>⟨.str<|i++j,H,Z3 0,⟨_,rfl⟩,q⟩) hz
def vals1{x:V}(r:aJ [x] us):∃u,us=[u]/\ZI u:=by
 cases r with
 |cons r1 r2=>cases r2;show⟨_,rfl,r1⟩
def vals2{x:V}(r:aJ [x,y] us):∃u w',us=[u,w']/\ZI u/\RelV y w':=by
 cases r with
 |cons r1 r2=>
  cases r2 with
  |cons r3 r4=>cases r4;show⟨_,_,rfl,r1,r3⟩
def EK(hc:X.calm=true):cO X (.builtin "max") (λxs H Q=>∃i j,xs=[.int i,.int j]/\Q (.int<|if j>i then j else i) H):=by
 intro jn s σ H xs us Q I r h;let⟨i,j,rfl,q⟩:=h;let⟨u,w',rfl,⟨t,rfl⟩,⟨t',rfl⟩⟩:=vals2 r;refine max_two_ints (I.ok.hd hc) λh' tk k=>⟨_,H,I.kept k,?_,q⟩;by_cases hj:j>i
 ·rw[if_pos hj,if_pos hj];show⟨_,rfl⟩
 ·rw[if_neg hj,if_neg hj];show⟨_,rfl⟩
abbrev QN(K:UF)(x:V)(H:Hp)(n:Nat):Prop:=
 match x with
 |.str y=>y.length<=Ve/\n=y.length
 |.byt y=>y.size<=Ve/\n=y.size
 |.ref p=>(∃xs,ZW p xs/\n=xs.length)\/∃xs,ZF p xs/\n=xs.length
 |_=>False
def Gi:cO X (.builtin "len") (λxs H Q=>∃x n,xs=[x]/\QN X.K x H n/\Q (.int n) H):=by
 intro jn s σ H xs us Q I r h;let⟨x,n,rfl,e,q⟩:=h;let⟨u,rfl,rx⟩:=vals1 r;let hl:=oE;let hs:Ve=16777216:=VQ;cases x with
 |str y=>let⟨t,rfl⟩:=rx;obtain⟨hy,e'⟩:y.length<=Ve/\n=y.length:=e;subst e';show len_str ⋯ ⟨.int _,H,Z3 0,⟨_,rfl⟩,q⟩
 |byt y=>let⟨t,rfl⟩:=rx;obtain⟨hy,e'⟩:y.size<=Ve/\n=y.size:=e;subst e';show PySem.W.len_bytes ⋯ ⟨.int _,H,Z3 0,⟨_,rfl⟩,q⟩
 |ref p=>
  cases rx
  let e':(∃xs,SqL X.K H p xs/\n=xs.length)\/∃xs,SqT X.K H p xs/\n=xs.length:=e;rcases e' with⟨xs,hx,e'⟩|⟨xs,hx,e'⟩
  ·subst e';let⟨its,r',pl,hz⟩:=I.list hx;let hlen:=r'.length;show Calls.call_len_list pl.isList (by simp only[Va];omega) ⟨.int xs.length,H,Z3 0,⟨_,by simp only[Va];rw[hlen]⟩,q⟩
  ·subst e';let⟨its,r',pl,hz⟩:=I.tuple hx;let hlen:=r'.length;show len_tuple pl (by simp only[Va];omega) ⟨.int xs.length,H,Z3 0,⟨_,by simp only[Va];rw[hlen]⟩,q⟩
 |_=>exact(show False from e).elim
structure Ci(h:w_)(x dx C:t_)(mA:o_ 0):Prop where
 obj:h.get? x=some (Xm C dx)
 ns:h.Ns1 dx mA
 ne:dx≠x
variable{dx:t_}{mA:o_ 0}
set_option tactic.hygienic true in
def EL{h:w_}(n:h.Ns1 dx mA):∃od,h.get? dx=a_ od/\∀name,PySem.W.lookIn name od=a_ (mA name):=by
 let⟨o,es,ep,ho,hd,hk,_,hm⟩:=n;refine⟨o,ho,λname=>?_⟩;let e:=hm name;unfold nsFind findBy at e;rw[<-Array.find?_toList]at e;unfold PySem.W.lookIn;rw[hd];dsimp only;split
 ·rename_i y q;rw[q]at e;show congrArg a_ e
 ·rename_i q;rw[q]at e;let a:es.toList.any (·.refKey)=false:=by rw[List.any_eq_false];intro y hy;let⟨z,t,ba⟩:=hk y<|Array.mem_toList_iff.mp hy;simp[DictEntry.refKey,ba]
  let a':¬ es.toList.any (·.refKey)=true:=by rw[a];show Vj
  rw[if_neg a'];show congrArg a_ e
def Ci.look{h:w_}{x C:t_}(I:Ci h x dx C mA):∃od,PySem.W.InstAt h x (Xm C dx) C (a_ od)/\∀name,PySem.W.lookIn name od=a_ (mA name):=
 let ⟨od,ho,hl⟩:=EL I.ns
 ⟨od,⟨I.obj,rfl,rfl,ho⟩,hl⟩
variable{expr:Bool}{name:Str}{prog:y_}{R:j_ Result}{kw:B_ (Str×s_)}
section
variable{x C f:t_}{v:s_}
def get_map(X:K.In s.heap)(I:Ci s.heap x dx C mA)(hg:Yw K C name=true)(hh:PySem.W.hasDictIn K C=true)(ha:V3 K (.ref C) name=a_ b_)(hv:mA name=a_ v)(o9:PySem.W.handedIn v=true)(h:Q v { s with toks:=s.toks+1}):
  k_ (getAttr (.ref x) name expr) Q E s:=by
 let⟨od,J,hl⟩:=I.look;show PySem.W.get_value X J (PySem.W.plainGet_of hg).1 (PySem.W.findObj_own hh ha rfl<|by rw[hl,hv]) o9 h
def Gj{pl:Sem Bool}{Q:s_×ZQ 0->td->Prop}(X:K.In s.heap)(I:Ci s.heap x dx C mA)(hg:Yw K C name=true)
  (hf:V3 K (.ref C) name=a_ (c_ f)) (ht:PySem.W.isFn K (.ref f)=true) (hv:mA name=b_) (h:Q (.ref f,[.ref x]) s):
  k_ (getMethod (.ref x) name pl) Q E s:=by
 let⟨od,J,hl⟩:=I.look;show PySem.W.method_fn X J (PySem.W.plainGet_of hg).1 (PySem.W.plainGet_of hg).2 hf (beq_iff_eq.mp ht) (by change(PySem.W.lookIn name od).map (·.isSome)=a_ false;rw[hl,hv];rfl) h
def Jf{ns:Zg 0}{Q:j_ Unit}(X:K.In s.heap)(I:Ci s.heap x dx C mA)
  (hs:V3 K (.ref C) "__setattr__" = a_ (a_<|.builtin "object.__setattr__")) (hp:PySem.W.plainOver K C=true) (ht:PySem.W.takerIn K C name=a_ b_) (hh:PySem.W.hasDictIn K C=true)
  (hw:PySem.Within mA ns) (hsz:ns.length<=Ve)
  (h:∀h',Ci h' x dx C (λy=>if y=name then a_ v else mA y)->WD dx s.heap h'->Q () {s with heap:=h',toks:=s.toks+2}):
  k_ (setAttr (.ref x) name v) Q E s:=by
 let⟨od,J,hl⟩:=I.look;refine PySem.W.set_plain X J hs<|PySem.W.osa_open (s:={ s with toks:=s.toks+1}) (r:=b_) X J hp ht λb=>?_;let⟨cd,hc,du⟩:=PySem.W.any_some hh;let hx:s.heap.get? x=a_ ⟨.ref C,a_ dx,.plain,#[]⟩:=I.obj;refine SB<|SL<|SB<|SB<|wpAny_loadPart hx<|SB<|PySem.W.Looks.here (s:={ s with toks:=s.toks+1}) (PySem.W.looks_clsIn X hc) ?_;rw[du];refine SL (a:=a_ dx)<|SB<|SL<|SB ?_;refine wpAny_nsSet1 (s:={ s with toks:=s.toks+1}) I.ns λh' vh gf=>?_;let⟨oD,esD,epD,Us,hdD,Tg⟩:=vh.count<|PySem.Within.cons name v hw;refine SB (wpAny_lookBehind Us (by rw[hdD];show pastItsLine_dict<|VS Tg (by rw[VN];omega)) ?_);show SL<|h _ ⟨(gf.2 _<|Wx I.ne).trans I.obj,vh,I.ne⟩ gf
def Gk{vs:ZQ 0}(X:K.In s.heap)(hm:PySem.W.makesIn K C=true)(hi:V3 K (.ref C) "__init__" = a_ (c_ f))(hf:PySem.W.typeIn K (.ref f)=a_ (.type "function"))(h:codeAny (Z8 0) (A.under (.builtin "type.__call__" ⟨.ref C::vs,kw⟩)) (.call (.ref f) ⟨.ref (s.heap.objs.size+1)::vs,kw⟩) (PySem.W.InitBack (s.heap.objs.size+1) R)
   {s with heap:=(s.heap.push WH).push (Xm C (e_ s))}):
  codeAny (Z8 0) A (.call (.ref C) ⟨vs,kw⟩) R s:=by
 let⟨hh,g,d,t,os⟩:=s;show PySem.W.make_core (PySem.W.makes_of X hm) (PySem.W.looks_findIn X hi) (λself=>PySem.W.bind_fn X self hf) (.inl rfl) h
end
abbrev jJ(f:Str)(v:V):B_ (Str×V)->B_ (Str×V)
 |[]=>[(f,v)]
 |(g,x)::r=>if g=f then(g,v)::r else(g,x)::jJ f v r
def sF(f g:Str)(v:V):∀fs:B_ (Str×V),(jJ f v fs).lookup g=if g=f then a_ v else fs.lookup g
 |[]=>by
  change YC g [(f,v)]=_
  by_cases h:g=f
  ·let hb:(g == f)=true:=beq_iff_eq.mpr h;simp only[YC,hb,if_pos h]
  ·let hb:(g == f)=false:=beq_eq_false_iff_ne.mpr h;simp only[YC,hb,if_neg h]
 |(k,x)::r=>by
  let ih:=sF f g v r;rw[show jJ f v ((k,x)::r)=(if k=f then(k,v)::r else(k,x)::jJ f v r) from rfl]
  by_cases hk:k=f
  ·rw[if_pos hk];by_cases h:g=k
   ·let hb:(g == k)=true:=beq_iff_eq.mpr h;simp only[YC,hb,if_pos<|h.trans hk]
   ·let hb:(g == k)=false:=beq_eq_false_iff_ne.mpr h;simp only[YC,hb,if_neg (λe:g=f=>h<|e.trans hk.symm)]
  ·rw[if_neg hk];by_cases h:g=k
   ·let hb:(g == k)=true:=beq_iff_eq.mpr h;simp only[YC,hb,if_neg (λe:g=f=>hk<|h.symm.trans e)]
   ·let hb:(g == k)=false:=beq_eq_false_iff_ne.mpr h;simp only[YC,hb];show ih
def qR(f:Str)(v:V):∀fs:B_ (Str×V),f∈(jJ f v fs).map (·.1)/\∀g,g∈fs.map (·.1)->g∈(jJ f v fs).map (·.1)
 |[]=>⟨by simp[jJ],λg h=>by simp at h⟩
 |(k,x)::r=>by
  let⟨i1,i2⟩:=qR f v r;rw[show jJ f v ((k,x)::r)=(if k=f then(k,v)::r else(k,x)::jJ f v r) from rfl]
  by_cases hk:k=f
  ·rw[if_pos hk];subst hk;show⟨by simp,λg h=>by simpa using h⟩
  ·rw[if_neg hk];refine⟨?_,λg h=>?_⟩
   ·rw[Vi];show U8 _ i1
   ·rw[Vi]at h⊢;rcases U9.mp h with e|e
    ·show U9.mpr (.inl e)
    ·show U8 _ (i2 g e)
def sG(f:Str)(v:V):∀fs:B_ (Str×V),(jJ f v fs).length<=fs.length+1
 |[]=>by simp[jJ]
 |(k,x)::r=>by
  let ih:=sG f v r;rw[show jJ f v ((k,x)::r)=(if k=f then(k,v)::r else(k,x)::jJ f v r) from rfl]
  by_cases hk:k=f
  ·rw[if_pos hk,VN,VN];omega
  ·rw[if_neg hk,VN,VN];omega
def lH.some_of{o:C_ s_}(r:lH (a_ v) o):∃u,o=a_ u/\ZJ u:=by
 cases o with
 |none=>exact(show False from r).elim
 |some u=>exact⟨u,rfl,r⟩
def lH.none_of{o:C_ s_}(r:lH b_ o):o=b_:=by
 cases o with
 |none=>rfl
 |some u=>exact(show False from r).elim
def EM(r:ZJ u):PySem.W.handedIn u=true:=by
 cases v with
 |non=>cases(show u=Vn from r);rfl
 |bl b=>cases(show u=Value.bool b from r);rfl
 |int i=>let⟨t,e⟩:=(show ∃t,u=Wt i t from r);cases e;rfl
 |str x=>let⟨t,e⟩:=(show ∃t,u=Value.str x t from r);cases e;rfl
 |byt b=>let⟨t,e⟩:=(show ∃t,u=Value.bytes b t from r);cases e;rfl
 |flt b=>let⟨t,e⟩:=(show ∃t,u=Value.float b t from r);cases e;rfl
 |ref a=>cases(show u=Vu a from r);rfl
 |ty n=>cases(show u=WV n from r);rfl
section
variable{h:w_}{C:t_}{fs Sm:B_ (Str×V)}
def tR(hok:q0d h)(e:H a=a_ (.ins C dx fs)):∃mA,Ci h a dx C mA/\(∀f,lH (fs.lookup f)<|mA f)/\PySem.Within mA (fs.map (·.1))/\fs.length<=1000/\H dx=a_ (.own a):=by
 let⟨d,z,ne,ob,mA,n,r,q⟩:=(show bT P w H h a (.ins C dx fs) from hok a _ e)
 show⟨mA,⟨ob,n,ne⟩,r,q,z,d⟩
end
structure Cls(K:UF)(C:t_):Prop where
 pg:Yw K C Str.empty=true
 hd:PySem.W.hasDictIn K C=true
 po:PySem.W.plainOver K C=true
 sa:V3 K (.ref C) "__setattr__" = some (some (.builtin "object.__setattr__"))
def Cls.get{C:t_}(c:Cls K C)(f:Str):Yw K C f=true:=c.pg
abbrev jZ(K:UF)(C:t_)(f:Str):Prop:=V3 K (.ref C) f=a_ b_
def jZ.taker{C:t_}{f:Str}(n:jZ K C f):PySem.W.takerIn K C f=a_ b_:=by
 unfold PySem.W.takerIn;rw[show V3 K (.ref C) f=a_ b_ from n]
 rfl
structure Cj(K:UF)(C:t_)(m:Str)(f:t_):Prop where
 at_:V3 K (.ref C) m=some (c_ f)
 fn:PySem.W.isFn K (.ref f)=true
 kp:WZ K (.ref f)=true
variable{b:Bool}{env:Env}
section
variable{σ:St}{C:t_}{fs:B_ (Str×V)}{f:Str}
def Ck(I:P1 s)(e:H a=a_ (.ins C dx fs))(c:Cls X.K C)(n:jZ X.K C f)(l:fs.lookup f=a_ v)(h:∀u s',P1 s'->ZJ u->Q u s'):wpAny (h_ X) A (getAttr (.ref a) f b) Q E s:=by let⟨mA,O,r,_,_,_⟩:=tR I.hok e;let⟨u,hu,ru⟩:=lH.some_of (v:=v) (o:=mA f) (by rw[<-l];show r f);show get_map I.kIn O (c.get f) c.hd n hu (EM ru)<|h u _ (Z3 0) ru
def uH{m:Str}{g:t_}{pl:Sem Bool}{Q:s_×ZQ 0->td->Prop}(I:P1 s)(e:H a=a_ (.ins C dx fs))(c:Cls X.K C)(k:Cj X.K C m g)(l:fs.lookup m=b_)
  (h:Q (.ref g,[.ref a]) s):wpAny (h_ X) A (getMethod (.ref a) m pl) Q E s:=by
 let⟨mA,O,r,_,_,_⟩:=tR I.hok e;let hn:mA m=b_:=lH.none_of (by rw[<-l];show r m);show Gj I.kIn O (c.get m) k.at_ k.fn hn h
def Cm{Q:j_ Unit}(I:P1 s)(e:H a=a_ (.ins C dx fs))(c:Cls X.K C)(n:jZ X.K C f)(hl:fs.length<1000)(ry:RelV y u)(h:∀s',i_ (R_ a<|.ins C dx<|jJ f y fs) s'->Q () s'):wpAny (h_ X) A (setAttr (.ref a) f u) Q E s:=by
 let⟨mA,O,r,wi,_,ho⟩:=tR I.hok e;let hz:(fs.map (·.1)).length<=Ve:=by rw[U5,VQ];omega
 refine Jf I.kIn O c.sa c.po n.taker c.hd wi hz λh' O' sb=>h _ ?_;let hd:∃o,h'.get? dx=a_ o:=let ⟨o,_,_,e',_⟩:=O'.ns;⟨o,e'⟩;refine I.write (x:=a) (e:=dx) (by rw[e];show Wp) (.inr ho) (λb q hb z=>(sb.2 b hb).trans z) hd ?_;refine⟨by rw[aH O.ne];show ho,?_,O.ne,O'.obj,_,O'.ns,λg=>?_,λg hg=>?_⟩
 ·have:=sG f y fs;omega
 ·change lH ((jJ f y fs).lookup g) (if g=f then a_ u else mA g)
  rw[sF];by_cases q:g=f
  ·rw[if_pos q,if_pos q];show ry
  ·rw[if_neg q,if_neg q];show r g
 ·by_cases q:g=f
  ·rw[q];show(qR f y fs).1
  ·refine(qR f y fs).2 g (wi g λz=>hg ?_)
   change(if g=f then a_ u else mA g)=b_
   rw[if_neg q];show z
def Inv.made(I:P1 s):i_ (upd (R_ (e_ s)<|.own<|s.heap.objs.size+1) (s.heap.objs.size+1)<|.ins C (e_ s) [])
  {s with heap:=(s.heap.push WH).push (Xm C<|e_ s)}:=by
 let e1:(s.heap.push WH).get? (e_ s)=a_ WH:=U7 s.heap rfl;let e2:((s.heap.push WH).push<|Xm C<|e_ s).get? (s.heap.objs.size+1)=a_ (Xm C<|e_ s):=by
  have:=U7 (s.heap.push WH) (o:=Xm C<|e_ s) rfl
  rwa[Xi]at this
 let e3:(s.heap.push WH).Ns (e_ s) (λ_=>b_):=⟨WH,#[],_,e1,rfl,(λe he=>absurd he<|by simp),λ_=>rfl⟩;let I1:=I.laid (a:=(e_ s)) (o:=.own<|s.heap.objs.size+1) (h':=s.heap.push WH) (t':=s.toks) (λb u q=>Zp q) (U6 _) ⟨_,e1⟩;refine I1.laid (a:=(e_ s)+1) (o:=.ins C (e_ s) []) (t':=s.toks) (λb u q=>Zp q) (Nat.le_of_eq<|Xi _ _) ?_;let ne:(e_ s)≠(e_ s)+1:=Vh<|Nat.lt_succ_self _;refine⟨by rw[aH ne,aK],Vw _,ne,e2,λ_=>b_,(Heap.Ns1.of_empty e3).at λo q=>Zp q,λ_=>Wp,λy hy=>absurd rfl hy⟩
def Jg{f:Str}(hb:Xf e f env (eval e env)=eval e env)(h:k_ (eval e env) (λo s₁=>k_ (getAttr o f true) Q E s₁) E s):k_ (eval (.Attribute e f pos) env) Q E s:=Attribute_any_ h (by rw[arm_eval_Attribute,hb])
end
abbrev QO(K:UF)(ta:TE)(f:Str):TE:=λσ H Q=>ta σ H λx H1=>∃a C dx fs v,x=.ref a/\H1 a=a_ (.ins C dx fs)/\Cls K C/\jZ K C f/\fs.lookup f=a_ v/\Q v H1
abbrev QP(K:UF)(ta tv:TE)(f:Str):TS:=λD σ H=>tv σ H λy H1=>ta σ H1 λx H2=>∃a C dx fs,x=.ref a/\H2 a=a_ (.ins C dx fs)/\Cls K C/\jZ K C f/\fs.length<1000/\
 D.nx σ (upd H2 a<|.ins C dx<|jJ f y fs)
variable{value:z_}
section
variable{o:z_}{f:Str}{ql:Pos}{tv:TE}
def LS(he:Zy e ta)(hb:Xf e f X.env (U_ 0)=U_ 0):Zy (.Attribute e f pos) (QO X.K ta f):=by intro jn s σ H Q I h;refine Jg hb<|thn (he jn s σ H _ I h) λu s1 z9=>?_;let⟨x,H1,I1,rx,a,C,dx,fs,v,ex,ea,c,n,l,q⟩:=z9;subst ex;obtain rfl:u=Vu a:=rx;show Ck I1 ea c n l λu' s2 I2 ru=>⟨v,H1,I2,ru,q⟩
def LU(ha:Zy o ta)(hv:Zy value tv)(hs:YI value (a_<|.Attribute o f pos') pos.line X.env=pure false):PS X (.Assign [.Attribute o f pos'] value pos) (QP X.K ta tv f):=by intro jn s σ H D I h;refine plainObj_wpAny_Assign_Attribute (thn (hv jn s σ H _ I h) λu s1 ⟨y,H1,I1,ry,q⟩=>thn (ha jn s1 σ H1 _ I1 q) λov s2 z9=>?_) hs;let⟨x,H2,I2,rx,a,C,dx,fs,ex,ea,c,n,l,q2⟩:=z9;subst ex;obtain rfl:ov=Vu a:=rx;show Cm I2 ea c n l ry λs3 I3=>⟨σ,_,I3,q2⟩
end
section
variable{σ:St}{c:s_}
inductive qS(K:UF)(H:Hp):V->Value->Prop where
 |non:qS K H .non (.type "NoneType")
 |bl (x:Bool):qS K H (.bl x) (.type "bool")
 |int (i:Int):qS K H (.int i) (.type "int")
 |str (x:Str):qS K H (.str x) (.type "str")
 |flt (x:UInt64):qS K H (.flt x) (.type "float")
 |lst {a:Addr} {xs:B_ V} (e:H a=some (.lst xs)):qS K H (.ref a) (.type "list")
 |frz {a:Addr} {o:Obj} {xs:B_ V} (e:H a=some (.frz o (.lst xs))):qS K H (.ref a) (.type "list")
 |tup {a:Addr} {xs:B_ V} (e:H a=some (.tup xs)):qS K H (.ref a) (.type "tuple")
 |dK {a:Addr} {kvs:B_ (Key×V)} (e:H a=some (.dK kvs)):qS K H (.ref a) (.type "dict")
 |dT {a:Addr} {kvs:B_ (B_ Key×V)} (e:H a=some (.dT kvs)):qS K H (.ref a) (.type "dict")
 | ins {a C dx:Addr} {fs:B_ (Str×V)} (e:H a=some (.ins C dx fs)) (cl:Cls K C) (ha:V3 K (.ref C) "__class__" = some (some (.builtin "object.__class__")))
   (hn:PySem.W.specialIn K (.builtin "object.__class__") "__get__" = some (some (.builtin "getset_descriptor.__get__"))) (htk:PySem.W.takesIn K (.builtin "object.__class__")=some true)
   (hm:PySem.W.mroIn K C (.type "object")=some true):qS K H (.ref a) (.ref C)
def EN{x:V}{t:s_}(I:P1 s)(rx:ZI u)(ty:qS X.K H x t)(e:PySem.W.kitOne X.K t c=a_ b)(h:∀tk,Q (.bool b) { s with toks:=tk}):
  wpAny (h_ X) A (call (.builtin "isinstance") [u,c]) Q E s:=by
 cases ty with
 |non=>cases(show u=Vn from rx);show V5 PySem.W.kitx_none I.kIn Wp e (λz=>Zq 0) h
 |bl y=>cases(show u=Value.bool y from rx);show V5 PySem.W.kitx_bool I.kIn Wp e (λz=>Zq 0) h
 |int i=>let⟨t,q⟩:=(show ∃t,u=Wt i t from rx);cases q;show V5 PySem.W.kitx_int I.kIn Wp e (λz=>Zq 0) h
 |str y=>let⟨t,q⟩:=(show ∃t,u=Value.str y t from rx);cases q;show V5 PySem.W.kitx_str I.kIn Wp e (λz=>Zq 0) h
 |flt y=>let⟨t,q⟩:=(show ∃t,u=Value.float y t from rx);cases q;show V5 PySem.W.kitx_float I.kIn Wp e (λz=>Zq 0) h
 | @lst a xs ea=>
  cases(show u=Vu a from rx)
  let⟨_,_,n,_,h1⟩:=(show Zl H s.heap a (.lst xs) from I.hok a _ ea)
  show V5 PySem.W.kitx_list I.kIn ⟨_,h1,rfl⟩ e (λz=>Zq 0) h
 | @frz a ob xs ea=>
  cases(show u=Vu a from rx)
  let⟨_,_,_,n,_,h1⟩:=(show Zl H s.heap a (.frz ob<|.lst xs) from I.hok a _ ea)
  show V5 PySem.W.kitx_list I.kIn ⟨_,h1,rfl⟩ e (λz=>Zq 0) h
 | @tup a xs ea=>
  cases(show u=Vu a from rx)
  let⟨_,_,_,p⟩:=(show Zl H s.heap a (.tup xs) from I.hok a _ ea)
  let⟨o,h1,h2,_⟩:=p;show V5 PySem.W.kitx_tuple I.kIn ⟨o,h1,h2⟩ e (λz=>Zq 0) h
 | @dK a kvs ea=>
  cases(show u=Vu a from rx)
  let⟨_,_,vs,_,p⟩:=(show Zl H s.heap a (.dK kvs) from I.hok a _ ea)
  let⟨o,es,ep,h1,h2,_⟩:=p;show V5 PySem.W.kitx_dict I.kIn ⟨o,h1,h2.1⟩ e (λz=>Zq 0) h
 | @dT a kvs ea=>
  cases(show u=Vu a from rx)
  let⟨_,_,xs,_,o,es,ep,h1,h2,_⟩:=(show Zl H s.heap a (.dT kvs) from I.hok a _ ea)
  show V5 PySem.W.kitx_dict I.kIn ⟨o,h1,h2.1⟩ e (λz=>Zq 0) h
 | @ins a C dx fs ea cl ha hn htk hm=>
  cases(show u=Vu a from rx)
  let⟨mA,O,_⟩:=tR I.hok ea;let⟨od,J,_⟩:=O.look;show V5 (PySem.W.kitx_own (cl.get _) cl.hd ha hn htk hm) I.kIn J e (λz=>Zq 0) h
end
structure dX(k:Nat)(A:v_):Prop where
 hd:A.handled=none
 dp:A.depth+3*k+5<recursionLimit
 un:A.units+16*k+200<cLine
def dX.mono{k:Nat}(r:dX k A)(h:j<=k):dX j A:=⟨r.hd,by have:=r.dp;omega,by have:=r.un;omega⟩
def dX.deeper{k:Nat}(r:dX (k+1) A)(env:Env):dX k (A.deeper env):=⟨r.hd,by have:=r.dp;change A.depth+1+3*k+5<_;omega,by have:=r.un;change A.units+3+16*k+200<_;omega⟩
def dX.in1{k:Nat}(r:dX (k+1) A):dX k A.in1:=⟨r.hd,by have:=r.dp;change A.depth+3*k+5<_;omega,by have:=r.un;change A.units+1+16*k+200<_;omega⟩
def Cn{C:t_}:(A.under<|.builtin "type.__call__" ⟨.ref C::us,kw⟩).depth=A.depth+1:=by first|rfl|simp[Around.under,Code.weight,Code.isCreation,Code.isGuard,Code.isCaller,Code.frames,Code.isFrame,guardIds]
def Co{C:t_}:(A.under<|.builtin "type.__call__" ⟨.ref C::us,kw⟩).units=A.units+1:=by first|rfl|simp[Around.under,Code.cUnits,Code.frames,Code.isFrame]
def dX.make{k:Nat}(r:dX (k+1) A)(C:t_)(us:ZQ 0)(kw:B_ (Str×s_)):dX k (A.under<|.builtin "type.__call__" ⟨.ref C::us,kw⟩):=⟨r.hd,by have:=r.dp;rw[Cn];omega,by have:=r.un;rw[Co];omega⟩
def dX.depth{k:Nat}(r:dX k A):A.depth<recursionLimit:=by have:=r.dp;omega
def dX.units{k:Nat}(r:dX k A):A.units+64<cLine:=by have:=r.un;omega
abbrev Jh:TA:=λ_ H Q=>Q [] H
abbrev L7(ta:TE)(tr:TA):TA:=λσ H Q=>ta σ H λx H1=>tr σ H1 λxs H2=>Q (x::xs) H2
section
variable{t:TA}
def qT:PA X [] Jh:=λ_ _ _ _ H Q I h=>Calls.spliced_nil ⟨[],H,I,.nil,h⟩
def nA(ha:Zy e te)(hr:PA X es t)(hs:Vl (e::es) X.env=(false,U_ 0)::W_ 0:=by rfl):PA X (e::es) (L7 te t):=by
 intro pos jn s σ H Q I h;rw[hs]
 change u_ (spliced ((false,U_ 0)::Y1 (W_ 0))) _ _ s
 refine Calls.spliced_cons<|thn (q0i 0) λu s1 z9=>?_;let⟨x,H1,I1,r1,q1⟩:=z9;show thn (hr pos jn s1 σ H1 _ I1 q1) λus s2 ⟨xs,H2,I2,r2,q2⟩=>⟨x::xs,H2,I2,.cons r1 r2,q2⟩
abbrev QQ(t:TA):TE:=λσ H Q=>t σ H λxs H1=>xs.length<=Ve/\∀p,H1 p=b_->Q (.ref p) (upd H1 p<|.tup xs)
abbrev QR(t:TA):TE:=λσ H Q=>t σ H λxs H1=>xs.length<=Ve/\∀p,H1 p=b_->Q (.ref p) (upd H1 p<|.lst xs)
def LW{x1}(h:PA X es t):Zy (.Tuple es x1 pos) (QQ t):=by intro jn s σ H Q I hq;refine wpAny_Tuple_spliced (thn (h pos jn s σ H _ I hq) λus s1 ⟨xs,H1,I1,r,z,q⟩=>⟨by rw[<-r.length];show z,?_⟩);let hf:H1 (e_ s1)=b_:=I1.hok.fresh<|U6 _;refine⟨.ref<|e_ s1,upd H1 (e_ s1)<|.tup xs,I1.laid (t':=s1.toks) (λb u e=>Zp e) (U6 _) ?_,rfl,q _ hf⟩;show⟨z,us,r,⟨_,Zc 0,rfl,⟨_,rfl⟩,rfl⟩⟩
def LX(h:PA X es t):Zy (.List es pos) (QR t):=by intro jn s σ H Q I hq;refine wpAny_List_spliced (thn (h pos jn s σ H _ I hq) λus s1 ⟨xs,H1,I1,r,z,q⟩=>⟨by rw[<-r.length];show z,?_⟩);let hf:H1 (e_ s1)=b_:=I1.hok.fresh<|U6 _;refine⟨.ref<|e_ s1,upd H1 (e_ s1)<|.lst xs,I1.laid (t':=s1.toks) (λb u e=>Zp e) (U6 _) ?_,rfl,q _ hf⟩;show⟨z,us,0,r,Zc 0⟩
end
@[reducible]def Sp:=B_ V->Hp->VK->XK->Prop
@[reducible]def CXT:=B_ Env->Hp->td->XK->f_ 0
structure wW(P:y_)(w:x_)(K:UF)(mg:o_ 0)(base:w_)(A:v_)(outer:B_ Env)(s:td)(H:Hp):Prop where
 frames:A.frames=some outer
 mod:Mod K mg base
 bs:∀b o,base.get? b=some o->s.heap.get? b=some o/\H b=none
 bsz:base.objs.size<=(e_ s)
 funs:s.heap.FunFrames base outer
 frf:∀b∈frs outer,H b=none
 hok:HOk P w H s.heap
 bare:AllBare s.gens
abbrev CE(outer:B_ Env)(P:y_)(w:x_)(H:Hp)(s:td)(Q:VK)(u:s_)(s':td):Prop:=
 ∃v H',s'.os=s.os/\AllBare s'.gens/\Un (frs outer) [] H H' s.heap s'.heap/\HOk P w H' s'.heap/\ZJ u/\Q v H'
abbrev CR(CX:CXT)(outer:B_ Env)(P:y_)(w:x_)(H:Hp)(s:td)(Q:VK)(E:XK)(r:Result)(s':td):Prop:=
 match r with
 |.ok (.ret u)=>CE outer P w H s Q u s'
 |.ok _=>False
 |.error e=>CX outer H s E e s'
structure cL(P:y_)(w:x_)(K:UF)(mg:o_ 0)(base:w_)(CX:CXT)(k:Nat)(f:t_)(fd:WU)(ps:B_ Str)(sp:Sp):Prop where
 len:∀vs H Q E,sp vs H Q E->vs.length=ps.length
 run:∀(A:v_)(outer:B_ Env)(s:td)(H:Hp)(args:Args)(us:B_ s_)(vs:B_ V)(Q:VK)(E:XK),dX k A->wW P w K mg base A outer s H->BindsTo s fd args (ps.zip us)->aJ vs us->sp vs H Q E->
  codeAny (model P w) A (.call (.ref f) args) (CR CX outer P w H s Q E) s
variable{CX:CXT}{base:w_}{fd:WU}{mg:o_ 0}{ps:Zg 0}{sp:Sp}
def cL.imp{k:Nat}{f:t_}{zo:Sp}(F:q0a CX k f fd ps sp)(h:∀vs H Q E,zo vs H Q E->sp vs H Q E):q0a CX k f fd ps zo:=⟨λvs H Q E q=>F.len vs H Q E<|h _ _ _ _ q,λA outer s H args us vs Q E hr he hb hv hs=>F.run A outer s H args us vs Q E hr he hb hv<|h _ _ _ _ hs⟩
variable{outer:B_ Env}
def wW.make(e:wW P w K mg base A outer s H)(C:t_)(us:ZQ 0)(kw:B_ (Str×s_)):
  wW P w K mg base (A.under<|.builtin "type.__call__" ⟨.ref C::us,kw⟩) outer s H:=⟨by first|exact e.frames|(simpa[Around.under,Code.envs,Code.isFrame,pushEnvs] using e.frames),e.mod,e.bs,e.bsz,e.funs,e.frf,e.hok,e.bare⟩
def wW.in1(e:wW P w K mg base A outer s H):
  wW P w K mg base A.in1 outer s H:=⟨e.frames,e.mod,e.bs,e.bsz,e.funs,e.frf,e.hok,e.bare⟩
section
variable{σ:St}
def Inv.env0(I:P1 s):wW X.prog X.w X.K X.mg X.base X.A X.stack s H:=⟨I.ok.frames,I.ok.mod,I.bs,VS I.ok.bsz I.sz,I.stack,I.stkFree,I.hok,I.bare⟩
def Inv.after{Q:VK}(I:P1 s)(h:CE X.stack X.prog X.w H s Q u s'):Za Q u s':=by let⟨v,H',os,bare,un,hok,r,q⟩:=h;let⟨hh,g,d,t,Uj⟩:=s';obtain rfl:Uj=s.os:=os;show⟨v,H',I.call (h':=hh) (g':=g) (d':=d) (t':=t) (ch:=[]) un hok bare<|λb z=>absurd z<|by simp,r,q⟩
end
abbrev Gm(sp:Sp)(df:B_ V)(E:XK)(t:TA):TE:=λσ H Q=>t σ H λvs H1=>sp (vs++df) H1 Q E
abbrev L8(C:t_)(sp:Sp)(df:B_ V)(E:XK)(t:TA):TE:=λσ H Q=>t σ H λvs H1=>∀x dx,H1 x=b_->H1 dx=b_->dx≠x->
 sp (.ref x::(vs++df)) (upd (upd H1 dx<|.own x) x<|.ins C dx []) (λv H2=>v=.non/\Q (.ref x) H2) E
abbrev Binds(K:UF)(fd:WU)(ps:Zg 0)(ds:ZQ 0):Prop:=
 ∀(s:td)(us:ZQ 0),K.In s.heap->(us++ds).length=ps.length->BindsTo s fd ⟨us,[]⟩ (ps.zip<|us++ds)
def Binds.all(h:∀us:ZQ 0,us.length=ps.length->bindArgs fd ⟨us,[]⟩=pure (ps.zip us)):Binds K fd ps []:=λs us _ hl=>by rw[Wy]at hl⊢;show .of_eq<|h us hl
abbrev oF(CX:CXT)(X:Cx)(E:XK):Prop:=∀(jn:g_ 0)(σ:St)(H:Hp)(s:td)(e:s_)(s':td),P1 s->CX X.stack H s E e s'->X.xe e s'
variable{df vs:B_ V}
section
variable{k:Nat}{f C:t_}{ds:ZQ 0}{E:XK}{m:Str}{p:Pos}{o:z_}{t:TA}
def zW{σ:St}{Q:VK}(F:L_ CX k f fd ps sp)(hr:dX k X.A)(hb:ZE ds)(hd:aJ df ds)(hx:oF CX X E)(I:P1 s)(r:aJ vs us)(h:sp (vs++df) H Q E):wpAny (h_ X) X.A (call (.ref f) us) (Za Q) X.xe s:=by
 let r2:aJ (vs++df) (us++ds):=r.append hd;let hl:(us++ds).length=ps.length:=by rw[<-r2.length];show F.len _ _ _ _ h
 refine wpAny_call<|codeAny_mono (F.run X.A X.stack s H ⟨us,[]⟩ (us++ds) (vs++df) Q E hr I.env0 (hb s us I.kIn hl) r2 h) λr s' hq=>?_;cases r with
 |error e=>exact hx jn σ H s e s' I hq
 |ok fl=>
  cases fl with
  |ret u=>exact I.after hq
  |next=>exact WW hq
  |brk=>exact WW hq
  |cont=>exact WW hq
def Ji(F:L_ CX k f fd ps sp)(hr:dX k X.A)(hg:Gl X x)(hm:X.mg x=c_ f)(hk:WZ X.K (.ref f)=true)(hb:ZE ds)(hd:aJ df ds)(hx:oF CX X E)
  (ha:PA X (e::es) t) (cf:(x == ("__debug__" : Str))=false:=by decide) (he:Vl (e::es) X.env=(false,U_ 0)::W_ 0:=by rfl) (a7:(Y1<|W_ 0).any (·.1)=false:=by rfl):
  Zy (.Call (.Name x p) (e::es) [] pos) (Gm sp df E t):=by
 intro jn s σ H Q I h;refine Wh<|jX I hg hm ?_ cf;refine PySem.W.callWith_K (h₀:=X.base) I.ok.mod.kin hk (thn (ZK 0) λus s1 ⟨vs,H1,I1,r,q⟩=>⟨I1.kIn,?_⟩) he a7;show zW F hr hb hd hx I1 r q
def Gn(F:L_ CX k f fd ps sp)(hr:dX k X.A)(hg:Gl X x)(hm:X.mg x=c_ f)(hk:WZ X.K (.ref f)=true)(hb:ZE ds)(hd:aJ df ds)(hx:oF CX X E)
  (cf:(x == ("__debug__" : Str))=false:=by decide):Zy (.Call (.Name x p) [] [] pos) (Gm sp df E Jh):=by
 intro jn s σ H Q I h;refine Wh<|jX I hg hm ?_ cf;show PySem.W.callWith_K0 I.kIn hk<|zW (us:=[]) F hr hb hd hx I .nil h
structure Mk(K:UF)(C f:t_):Prop where
 makes:PySem.W.makesIn K C=true
 init:V3 K (.ref C) "__init__" = some (c_ f)
 fn:PySem.W.isFn K (.ref f)=true
 kp:WZ K (.ref C)=true
def B4{σ:St}{Q:VK}(M:Mk X.K C f)(F:L_ CX k f fd ps sp)(hr:dX (k+1) X.A)(hb:ZE ds)(hd:aJ df ds)(hx:oF CX X E)(I:P1 s)(r:aJ vs us)(h:∀x dx,H x=b_->H dx=b_->dx≠x->sp (.ref x::(vs++df)) (upd (R_ dx<|.own x) x<|.ins C dx []) (λv H2=>v=.non/\Q (.ref x) H2) E):
  wpAny (h_ X) X.A (call (.ref C) us) (Za Q) X.xe s:=by
 let hq:=h (s.heap.objs.size+1) (e_ s) (I.hok.fresh<|YD _) (I.hok.fresh<|U6 _)<|Vh<|Nat.lt_succ_self _;let I2:=Inv.made (C:=C) I;let r2:aJ (V.ref (s.heap.objs.size+1)::(vs++df)) (Vu (s.heap.objs.size+1)::(us++ds)):=.cons rfl<|r.append hd;let hl:(Vu (s.heap.objs.size+1)::us++ds).length=ps.length:=by let e:=r2.length;rw[F.len _ _ _ _ hq]at e;show e.symm
 refine wpAny_call (Gk (f:=f) I.kIn M.makes M.init (beq_iff_eq.mp M.fn) (codeAny_mono (F.run _ X.stack _ _ ⟨Vu (s.heap.objs.size+1)::us,[]⟩ (Vu (s.heap.objs.size+1)::(us++ds)) _ _ E (hr.make C us [])
  (I2.env0.make C us []) (hb _ (Vu (s.heap.objs.size+1)::us) I2.kIn hl) r2 hq) λr s' f9=>?_))
 cases r with
 |error e=>exact hx jn σ _ _ e s' I2 f9
 |ok fl=>
  cases fl with
  |ret u=>let⟨v,H',I3,rv,ev,q3⟩:=I2.after f9;subst ev;show⟨rv,⟨V.ref<|s.heap.objs.size+1,H',I3,rfl,q3⟩⟩
  |next=>exact WW f9
  |brk=>exact WW f9
  |cont=>exact WW f9
def Jj(M:Mk X.K C f)(F:L_ CX k f fd ps sp)(hr:dX (k+1) X.A)(hg:Gl X x)(hm:X.mg x=c_ C)(hb:ZE ds)(hd:aJ df ds)(hx:oF CX X E)
  (ha:PA X (e::es) t) (cf:(x == ("__debug__" : Str))=false:=by decide) (he:Vl (e::es) X.env=(false,U_ 0)::W_ 0:=by rfl) (a7:(Y1<|W_ 0).any (·.1)=false:=by rfl):
  Zy (.Call (.Name x p) (e::es) [] pos) (L8 C sp df E t):=by
 intro jn s σ H Q I h;refine Wh<|jX I hg hm ?_ cf;refine PySem.W.callWith_K (h₀:=X.base) I.ok.mod.kin M.kp (thn (ZK 0) λus s1 ⟨vs,H1,I1,r,q⟩=>⟨I1.kIn,?_⟩) he a7;show B4 M F hr hb hd hx I1 r q
def Gp(M:Mk X.K C f)(F:L_ CX k f fd ps sp)(hr:dX (k+1) X.A)(hg:Gl X x)(hm:X.mg x=c_ C)(hb:ZE ds)(hd:aJ df ds)(hx:oF CX X E)
  (cf:(x == ("__debug__" : Str))=false:=by decide):Zy (.Call (.Name x p) [] [] pos) (L8 C sp df E Jh):=by
 intro jn s σ H Q I h;refine Wh<|jX I hg hm ?_ cf;show PySem.W.callWith_K0 I.kIn M.kp<|B4 (us:=[]) M F hr hb hd hx I .nil h
end
structure pL(N P:B_ Str)(sc:Scope):Prop where
 kind:sc.kind=.function
 co:sc.isCoroutine=false
 gen:sc.isGenerator=false
 nd:N.Nodup
 pre:N.take P.length=P
 par:∀x∈P,sc.names.lookup x=some .local\/sc.names.lookup x=some .cell
 nofree:∀y∈sc.names,y.2≠.free
def yB{kindOf:Str->C_ Yi}{x:Str}:∀{binds:B_ (Str×s_)}{m:o_ 0},(∀v,(x,v)∉binds)->bindL kindOf binds m x=m x
 |[],_,_=>rfl
 |(n,v)::r,m,h=>by
  unfold bindL;rw[yB λw hw=>h w<|U8 _ hw];split
  ·have:x≠n:=by rintro rfl;show h v UV
   simp[this]
  ·rfl
def yC{kindOf:Str->C_ Yi}{x:Str}:∀{binds:B_ (Str×s_)}{m:o_ 0},(∀v,(x,v)∉binds)->bindC kindOf binds m x=m x
 |[],_,_=>rfl
 |(n,v)::r,m,h=>by
  unfold bindC;rw[yC λw hw=>h w<|U8 _ hw];split
  ·rfl
  ·have:x≠n:=by rintro rfl;show h v UV
   simp[this]
def yD{kindOf:Str->C_ Yi}{x:Str}{v:s_}:∀{P:Zg 0}{vs:ZQ 0}{i:Nat}{m:o_ 0},P.Nodup->P[i]?=a_ x->vs[i]?=a_ v->kindOf x=a_ .local->
  bindL kindOf (P.zip vs) m x=a_ v
 |[],_,_,_,_,h,_,_=>by simp at h
 |_::_,[],_,_,_,_,h,_=>by simp at h
 |p::P,w::vs,0,m,nd,h1,h2,hk=>by
  simp at h1 h2;subst h1;subst h2
  change bindL kindOf ((p,w)::P.zip vs) m p=_
  unfold bindL;rw[yB λv hv=>(Wl.mp nd).1 (List.of_mem_zip hv).1,if_pos hk];simp
 |p::P,w::vs,i+1,m,nd,h1,h2,hk=>by
  change bindL kindOf ((p,w)::P.zip vs) m x=_
  unfold bindL;show yD (i:=i) (Wl.mp nd).2 (l_ h1) (l_ h2) hk
def yE{kindOf:Str->C_ Yi}{x:Str}{v:s_}:∀{P:Zg 0}{vs:ZQ 0}{i:Nat}{m:o_ 0},P.Nodup->P[i]?=a_ x->vs[i]?=a_ v->kindOf x≠a_ .local->
  bindC kindOf (P.zip vs) m x=a_ v
 |[],_,_,_,_,h,_,_=>by simp at h
 |_::_,[],_,_,_,_,h,_=>by simp at h
 |p::P,w::vs,0,m,nd,h1,h2,hk=>by
  simp at h1 h2;subst h1;subst h2
  change bindC kindOf ((p,w)::P.zip vs) m p=_
  unfold bindC;rw[yC λv hv=>(Wl.mp nd).1 (List.of_mem_zip hv).1,if_neg hk];simp
 |p::P,w::vs,i+1,m,nd,h1,h2,hk=>by
  change bindC kindOf ((p,w)::P.zip vs) m x=_
  unfold bindC;show yE (i:=i) (Wl.mp nd).2 (l_ h1) (l_ h2) hk
abbrev start(N:Zg 0)(vs:B_ V):St:=vs.map a_++XD (N.length-vs.length) b_
abbrev wX(CX:CXT)(P:y_)(w:x_)(K:UF)(mg:o_ 0)(base:w_)(N:Zg 0)(qual:Str)(scope:Scope)(f:t_)(cd:s_)(A:v_)(outer:B_ Env)(s:td)(H:Hp)(E:XK):Cx where
 prog:=P
 w:=w
 K:=K
 mg:=mg
 base:=base
 A:=A.deeper<|ZX (e_ s) f cd
 N:=N
 s₀:=s
 H₀:=H
 env:=ZX (e_ s) f cd
 outer:=outer
 stack:=ZX (e_ s) f cd::outer
 ex:=[]
 calm:=true
 fn:=λ_=>true
 pn:=[]
 xe:=λe s'=>wpAny (model P w) (A.deeper<|ZX (e_ s) f cd) (leaving (ZX (e_ s) f cd) e) (λ_ di=>CX outer H s E e di) (λe' di=>CX outer H s E e' di) s'
variable{sc:Scope}
def B5(h:Ze 0=a_ .cell):∃c,(V6 n sc.names []).lookup x=a_ c:=by let q:=PySem.W.cellsFrom_some sc.names n []<|.inl h;show Option.isSome_iff_exists.mp q
variable{cd:s_}{qual:Str}{s1:td}{scope:Scope}
def EO{f:t_}{E:XK}(S:pL N ps scope)(hd:A.handled=b_)(e0:wW P w K mg base A outer s H)(hl:vs.length=ps.length)(r:aJ vs us)(x:InCallC s (e_ s) (bindL (ZX (e_ s) f cd).kindOf (ps.zip us) λ_=>b_) (V6 (s.heap.objs.size+1) scope.names []) (bindC (ZX (e_ s) f cd).kindOf (ps.zip us) λ_=>b_) s1):
  Inv (Zr cd A outer s H E) [] (start N vs) H s1:=by
 let a7:ps.length<=N.length:=by have:=congrArg List.length S.pre;rw[V7]at this;omega
 let⟨h1,tk,rfl,hk⟩:=x.done;let sx:∀b:t_,b∉(Zr cd A outer s H E).ex:=λb z=>absurd (show b∈([]:B_ t_) from z) (by simp)
 refine⟨⟨e0.mod,S.kind,rfl,rfl,U6 _,λy z c h1 h2=>?_,λy hy=>?_,λy c _ h=>?_,λ_=>hd,Around.frames_deeper e0.frames,.inr ⟨rfl,rfl⟩,λb z=>absurd z (sx b),e0.bs,e0.bsz,λb _ _=>sx b,λb z=>absurd z (sx b),e0.funs,e0.frf⟩,
  rfl,e0.bare,Un.kept hk,⟨_,x.toInCall.ns,λi y v h1 h2 h3=>?_⟩,λy c h=>⟨_,x.cell y c h⟩,e0.hok.fresh (U6 _),λy c h=>?_,λp hp=>absurd (show p∈([]:g_ 0) from hp) (by simp),e0.hok.kept hk,?_⟩
 ·show name_of_addr x.apart (X6 h1) (X6 h2)
 ·let hy:scope.names.lookup y=a_ .cell\/scope.names.lookup y=a_ .free:=hy;rcases hy with hy|hy
  ·show B5 hy
  ·show absurd rfl (S.nofree _<|X6 hy)
 ·show Xu (x.above y c<|X6 h)
 ·let hi:i<vs.length:=by
   unfold start at h2;by_cases hi:i<vs.length
   ·show hi
   ·rw[Wu<|l_ hi]at h2;rw[List.getElem?_replicate]at h2;split at h2 <;> cases h2
  let ha:vs[i]?=a_ v:=by
   unfold start at h2;rw[VT<|l_ hi,Vk]at h2;cases e:vs[i]? with
   |none=>rw[e]at h2;cases h2
   |some a=>rw[e]at h2;cases h2;rfl
  let⟨u,hu,rv⟩:=r.get ha;let hp:ps[i]?=a_ y:=by rw[<-S.pre,List.getElem?_take_of_lt ⋯];show h1
  let RL:ps.Nodup:=by rw[<-S.pre];show S.nd.sublist<|List.take_sublist _ _
  refine⟨u,rv,?_⟩;rcases S.par y (VI hp) with k|k
  ·show .inl ⟨k,yD RL hp hu k⟩
  ·let⟨c,e⟩:=B5 (n:=(e_ s)+1) k;refine .inr ⟨.inl k,c,e,?_⟩;let q:=x.cell y c e;rw[yE RL hp hu (by change scope.names.lookup y≠_;rw[k];decide)]at q;show q
 ·show e0.hok.fresh (Xu<|x.above y c<|X6 h)
 ·unfold start
  change _=N.length
  rw[WL,U5,List.length_replicate];omega
variable{an od:C_ t_}{cdv ct doc pm:s_}{osl:n_ 0}{params:Arguments}
def Og{k:Nat}{f:t_}{dV kV oc:s_}(lk:K.lookup f=a_ ⟨oc,od,.func (WS name qual params body scope dV kV doc pm an cdv ct),osl⟩)(ik:YS K cdv qual=true)(S:pL N ps scope)(len:∀vs H Q E,sp vs H Q E->vs.length=ps.length)(iz:∀(A:v_)(outer:B_ Env)(s:td)(H:Hp)(vs:B_ V)(Q:VK)(E:XK),dX k (A.deeper (ZX (e_ s) f cdv))->sp vs H Q E->
   ∃t,PSs (Zr cdv A outer s H E) body t/\t { nx:=λ_ H'=>Q .non H',rt:=Q} (start N vs) H):
  q0a CX (k+1) f (WS name qual params body scope dV kV doc pm an cdv ct) ps sp:=by
 refine⟨len,λA outer s H args us vs Q E hr e0 hb r km=>?_⟩;let hl:=len _ _ _ _ km;let KX:K.In s.heap:=e0.mod.kin.keeps λb o e=>(e0.bs b o e).1;let lim:s.heap.NoLimit:=e0.mod.nolimit.keeps λb o e=>(e0.bs b o e).1;let qq:∀y∈ps.zip us,scope.names.lookup y.1=a_ .local\/(scope.names.lookup y.1=a_ .cell/\((V6 (s.heap.objs.size+1) scope.names []).lookup y.1).isSome=true):=λ⟨n,v⟩ hy=>by
  rcases S.par n (List.of_mem_zip hy).1 with q|q
  ·show .inl q
  ·show .inr ⟨q,PySem.W.cellsFrom_some _ _ _<|.inl q⟩
 refine codeAny_call_function hr.depth (KX _ _ lk) rfl S.co S.gen rfl (PySem.W.codeRec_of KX ik)<|hb _ _ _ _ ?_;refine wpAny_newFunctionEnv_cells S.kind qq λenv he s1 x=>?_;subst he;refine⟨lim.keeps x.toInCall.keep,codeAny_func ?_⟩;let⟨t,ht,hq⟩:=iz A outer s H vs Q E (hr.deeper _) km;let I:Inv (Zr cdv A outer s H E) [] (start N vs) H s1:=EO S hr.hd e0 hl r x;refine WE (ht [] s1 (start N vs) H _ I hq) (λfl s' hs=>?_) λe s' hs=>hs;let fin:∀{σ':St}{H':Hp}{v:V}{u:s_},Inv (Zr cdv A outer s H E) [] σ' H' s'->ZJ u->Q v H'->CE outer P w H s Q u s':=
  λ{σ' H' v u} J rv q=>⟨v,H',J.os,J.bare,J.base,J.hok,rv,q⟩
 cases fl with
 |ret u=>let⟨v,σ',H',J,rv,q⟩:=hs;show fin J rv q
 |next=>let⟨σ',H',J,q⟩:=hs;show fin (v:=V.non) (u:=Vn) J rfl q
 |brk=>let⟨_,_,_,q⟩:=hs;show WW q
 |cont=>let⟨_,_,_,q⟩:=hs;show WW q
variable{T:String}
section
variable{p:Pos}{t:TA}{id:String}{r:B_ V->Hp->VK->Prop}
abbrev tCB(r:B_ V->Hp->VK->Prop)(t:TA):TE:=λσ H Q=>t σ H λvs H1=>r vs H1 Q
def B6(hc:cO X (.builtin id) r)(hg:Gl X x)(hm:X.mg x=b_)(hv:Xt x=a_ (.builtin id))(ha:PA X (e::es) t)(hn:x≠"__name__" := by decide)(cf:(x == ("__debug__" : Str))=false:=by decide)
  (he:Vl (e::es) X.env=(false,U_ 0)::W_ 0:=by rfl) (a7:(Y1<|W_ 0).any (·.1)=false:=by rfl):Zy (.Call (.Name x p) (e::es) [] pos) (tCB r t):=by
 intro jn s σ H Q I h;refine Wh<|jB I hg hm hv ?_ hn cf;show PyProof.Rows.callWith_builtin1 (thn (ZK 0) λus s1 ⟨vs,H1,I1,r1,q1⟩=>hc jn s1 σ H1 vs us Q I1 r1 q1) he a7
def yF(hc:cO X (.type T) r)(hg:Gl X x)(hm:X.mg x=b_)(hv:Xt x=a_ (.type T))(ha:PA X (e::es) t)(hn:x≠"__name__" := by decide)(cf:(x == ("__debug__" : Str))=false:=by decide)
  (he:Vl (e::es) X.env=(false,U_ 0)::W_ 0:=by rfl) (a7:(Y1<|W_ 0).any (·.1)=false:=by rfl):Zy (.Call (.Name x p) (e::es) [] pos) (tCB r t):=by
 intro jn s σ H Q I h;refine Wh<|jB I hg hm hv ?_ hn cf;show Wm (thn (ZK 0) λus s1 ⟨vs,H1,I1,r1,q1⟩=>hc jn s1 σ H1 vs us Q I1 r1 q1) he a7
end
end L2
namespace HT
open PySem PyProof.Rows
variable{A:v_}{E Q:f_ 0}{prog:y_}{s:td}{vs ws:ZQ 0}{w:x_}
def cat_tup{t b:t_}(ht:q0j t vs.toArray)(hb:q0j b ws.toArray)(hv:vs≠[])(h1:ws=[]->Q (.ref t) s)(h2:ws≠[]->Q (.ref<|e_ s) {s with heap:=s.heap.push {cls:=.type "tuple",data:=.seq (vs++ws).toArray} })(hsz:vs.length+ws.length<=Ve):k_ (WB .Add (.ref t)<|.ref b) Q E s:=by
 let⟨⟨cls,dd,data,sl⟩,ho,hc,n,hd⟩:=id ht;let⟨⟨yi,vi,data2,u5⟩,nu,f7,n2,hd2⟩:=id hb;simp only at hc hd f7 hd2;subst hc hd f7 hd2;let e:vs.toArray++ws.toArray=(vs++ws).toArray:=by simp
 by_cases hw:ws=[]
 ·show concat_meets ⟨_,ho,rfl⟩ ⟨_,nu,rfl⟩ noFill_tuple_add seq_tuple_add PySem.F.slot_tuple_add PySem.F.entry_tuple_add (PySem.F.args_tuple_add_2 _ _)
   (tuple_addW1 t b vs.toArray ws.toArray n n2 dd vi sl u5 (l_ hv)<|by simp[hw]) ⟨ho,nu,h1 hw⟩
 ·refine concat_meets ⟨_,ho,rfl⟩ ⟨_,nu,rfl⟩ noFill_tuple_add seq_tuple_add PySem.F.slot_tuple_add PySem.F.entry_tuple_add (PySem.F.args_tuple_add_2 _ _)
   (tuple_addW2 t b vs.toArray ws.toArray n n2 dd vi sl u5 (l_ hv) (l_ hw) (by rw[Va,Va];show hsz)) ⟨ho,nu,?_⟩
  rw[e];show h2 hw
abbrev sIx(n d:Nat):Z7 0->Nat
 |none=>d
 |some v=>if v<0 then(v+(n:Int)).toNat else min v.toNat n
def LY(n d:Nat)(hd:d<=n)(o:Z7 0):sIx n d o<=n:=by
 cases o with
 |none=>exact hd
 |some v=>
  change(if v<0 then(v+(n:Int)).toNat else min v.toNat n)<=n
  by_cases hv:v<0
  ·rw[if_pos hv];omega
  ·rw[if_neg hv];show Nat.min_le_right _ _
def DM(v:Int)(n d:Nat):(if v<0 then max (v+(n:Int)) 0 else min v (n:Int))=((sIx n d (a_ v):Nat):Int):=by
 change(if v<0 then max (v+(n:Int)) 0 else min v (n:Int))=(((if v<0 then(v+(n:Int)).toNat else min v.toNat n):Nat):Int)
 by_cases hv:v<0
 ·simp only[if_pos hv];omega
 ·simp only[if_neg hv];omega
def Cp(lo hi:Z7 0)(n:Nat):Yv lo hi 1 (n:Int)=(((sIx n 0 lo:Nat):Int),((sIx n n hi:Nat):Int)):=by
 let h1:¬ ((1:Int)<0):=⋯;unfold Yv;simp only[h1,if_false];refine Prod.ext ?_ ?_
 ·cases lo with
  |none=>rfl
  |some v=>exact DM v n 0
 ·cases hi with
  |none=>rfl
  |some v=>exact DM v n n
def Cq(i j:Nat):XE (i:Int) (j:Int) 1=j-i:=by
 unfold XE;let h1:(1:Int)>0:=⋯;simp only[h1,if_true,Int.ediv_one];split <;> omega
variable{o:Z7 0}{v:s_}
def uI{Q:Z7 0->td->Prop}(p:IsPart v o)(h:Q o s):k_ (Builtin.Slice.slicePartIndex v) Q E s:=by
 cases p with
 |none=>exact slicePart_none h
 |int i t=>exact slicePart_int h
variable{hi lo:Z7 0}{n:Nat}{sl:t_}{vl vu:s_}
def sliceApplied_gen{Q:Int×Int×Nat->td->Prop}(hs:s.heap.IsSliceOf sl vl vu .none)(pl:IsPart vl lo)(pu:IsPart vu hi)(h:Q (((sIx n 0 lo:Nat):Int),1,sIx n n hi-sIx n 0 lo) s):k_ (Builtin.Slice.sliceApplied (.ref sl)<|pure (n:Int)) Q E s:=by
 let⟨os,ju,qi,oq⟩:=id hs;unfold Builtin.Slice.sliceApplied Builtin.Slice.sliceFields;refine SB<|SB<|YE ju oq (x:=vl) rfl<|SB<|YE ju oq (x:=vu) rfl<|SB<|YE ju oq (x:=.none) rfl<|SL ?_;refine SB<|slicePart_none ?_
 change u_ (if((1:Int) == 0)=true then _ else _) _ _ s
 rw[q0k 0];refine SB<|uI pl<|SB<|uI pu<|SB<|SL ?_
 change u_ (match Yv lo hi 1 (n:Int) with|(lo,hi)=>pure (lo,(1:Int),XE lo hi 1)) _ _ s
 rw[Cp lo hi n]
 change u_ (pure (((sIx n 0 lo:Nat):Int),(1:Int),XE ((sIx n 0 lo:Nat):Int) ((sIx n n hi:Nat):Int) 1)) _ _ s
 rw[Cq];show SL h
def Gq(xs:YY 0)(i k:Nat):((Vm k).filterMap λ(m:Nat)=>xs[((i:Int)+(m:Int)*1).toNat]?).toArray=((xs.toList.drop i).take k).toArray:=by
 let e:(λ(m:Nat)=>xs[((i:Int)+(m:Int)*1).toNat]?)=λm=>xs[i+m]?:=by
  funext m;have:((i:Int)+(m:Int)*1).toNat=i+m:=⋯;rw[this]
 rw[e];have:=pick_run xs i k;rw[List.filterMap_map]at this;let e2:((λx=>xs[x]?)∘λx=>i+x)=λm=>xs[i+m]?:=rfl;rw[e2]at this;rw[this]
variable{items:YY 0}
def getItem_tuple_cut{t:t_}(ht:q0j t items)(hs:s.heap.IsSliceOf sl vl vu .none)(pl:IsPart vl lo)(pu:IsPart vu hi)(hw:¬ (YW 0 lo=0/\q0l 0=items.size))(h:Q (.ref<|e_ s) {s with heap:=s.heap.push {cls:=.type "tuple",data:=.seq ((items.toList.drop<|YW 0 lo).take<|q0l 0-YW 0 lo).toArray} })(hsz:items.size<=Ve):k_ (getItem (.ref t)<|.ref sl) Q E s:=by
 let gp:sizeOk (.seq ((items.toList.drop<|YW 0 lo).take<|q0l 0-YW 0 lo).toArray):=by
  change((items.toList.drop<|YW 0 lo).take<|q0l 0-YW 0 lo).toArray.size<=Ve
  rw[Va,V7,List.length_drop,X5];omega
 let hj:q0l 0<=items.size:=LY _ _ (U6 _) hi;let⟨os,ju,qi,oq⟩:=id hs;let ya:s.TypeIs (.ref sl) "slice" := ⟨os,ju,qi⟩;unfold getItem
 try with_reducible refine VO ?_
 first|refine SB (SL ?_)|skip
 refine SB (wpAny_sequenceKey ht.typeIs nofun ?_);refine SB (VC (name:=Vg "__getitem__") ht.typeIs V0
  (VD V0 ht.typeIs entry_tuple_getitem ?_ (args_tuple_getitem _ _)))
 change u_ (Yu (.ref t) >>= _) _ _ s
 refine SB<|tupleItemsOf_ ht ?_;refine SB<|Xv ya ?_;rw[if_pos nofun];refine SB<|sliceApplied_gen hs pl pu ?_;let yz:¬ ((((sIx items.size 0 lo:Nat):Int) == 0&&(1:Int) == 1&&(q0l 0-YW 0 lo) == items.size)=true):=by intro q;rw[VE,VE]at q;let q1:((sIx items.size 0 lo:Nat):Int)=0:=eq_of_beq q.1.1;let q2:q0l 0-YW 0 lo=items.size:=eq_of_beq q.2;show hw ⟨⋯,⋯⟩
 change u_ (if(((sIx items.size 0 lo:Nat):Int) == 0&&(1:Int) == 1&&(q0l 0-YW 0 lo) == items.size)=true then _ else _) _ _ s
 rw[if_neg yz,Gq]
 first
  |exact SB (m:=XQ _) (Vo (SL ⟨_,rfl,SL h⟩) gp)
  |exact SB (m:=XQ _) (Vo (SB<|SL<|SL ⟨_,rfl,SL h⟩) gp)
  |exact SB (SB (m:=XQ _)<|Vo (SL<|SL ⟨_,rfl,SL h⟩) gp)
  |exact SB (SB (m:=XQ _)<|Vo (SL ⟨_,rfl,SL h⟩) gp)
end HT
namespace L2
@[reducible]def TO:=St->Hp->(Z7 0->Hp->Prop)->Prop
abbrev PO(X:Cx)(e:C_ z_)(t:TO):Prop:=
 ∀(jn:g_ 0)(s:td)(σ:St)(H:Hp)(Q:Z7 0->Hp->Prop),P1 s->t σ H Q->
  wpAny (h_ X) X.A (evalPart e X.env) (λu s'=>∃o H',i_ H' s'/\IsPart u o/\Q o H') X.xe s
abbrev Jk:TO:=λ_ H Q=>Q b_ H
variable{ns:Z9 0}
def intsAre_of:∀{us:ZQ 0},aJ (ZS 0) us->IntsAre us ns:=by
 induction ns with
 |nil=>intro us r;rw[List.map_nil]at r;cases r;show .nil
 |cons n ns ih=>
  intro us r;rw[Vi]at r;cases r with
  |cons r1 r2=>let⟨t,e⟩:=r1;subst e;show .cons n t<|ih r2
variable{X:Cx}{r r':V->Z7 0->Z7 0->Hp->VK->Prop}{e:z_}{p2 pos:Pos}{te:TE}{us:ZQ 0}
section
variable{lo hi:C_ z_}{tl th:TO}
def Jl:PO X b_ Jk:=by intro jn s σ H Q I h;rw[evalPart_none];show SL ⟨b_,H,I,.none,h⟩
abbrev SlR(X:Cx)(r:V->Z7 0->Z7 0->Hp->VK->Prop):Prop:=
 ∀(jn:g_ 0)(s:td)(σ:St)(H:Hp)(x:V)(v vl vu:s_)(lo hi:Z7 0)(sl:t_)(Q:VK),P1 s->ZI v->s.heap.IsSliceOf sl vl vu .none->IsPart vl lo->IsPart vu hi->r x lo hi H Q->
  ∃T id,typeLookup (.type T) "__getitem__" = pure (a_<|.builtin id)/\s.TypeIs v T/\wpAny (h_ X) X.A (getItem v<|.ref sl) (Za Q) X.xe s
def SlR.or(h:SlR X r)(h':SlR X r'):SlR X (λx lo hi H Q=>r x lo hi H Q\/r' x lo hi H Q):=by
 intro jn s σ H x v vl vu lo hi sl Q I rx hs pl pu q;rcases q with q|q
 ·show Zh x v vl vu lo hi sl Q I rx hs pl pu q
 ·show h' jn s σ H x v vl vu lo hi sl Q I rx hs pl pu q
abbrev tSl(r:V->Z7 0->Z7 0->Hp->VK->Prop)(te:TE)(tl th:TO):TE:=λσ H Q=>te σ H λx H1=>tl σ H1 λl H2=>th σ H2 λu H3=>r x l u H3 Q
def Gr(hr:SlR X r)(he:Zy e te)(hl:PO X lo tl)(hu:PO X hi th):Zy (.Subscript e (.Slice lo hi b_ p2) pos) (tSl r te tl th):=by
 intro jn s σ H Q I h;refine Subscript_<|thn (he jn s σ H _ I h) λv s1 z9=>?_;let⟨x,H1,I1,r1,q1⟩:=z9;refine wpAny_Slice<|thn (hl jn s1 σ H1 _ I1 q1) λvl s2 ⟨l,H2,I2,pl,q2⟩=>thn (hu jn s2 σ H2 _ I2 q2) λvu s3 z9=>?_;let⟨u,H3,I3,pu,q3⟩:=z9;rw[evalPart_none];refine SL ?_;let I4:i_ H3 {s3 with heap:=s3.heap.push {cls:=.type "slice",data:=.fields #[vl,vu,.none]} }:=I3.kept (t':=s3.toks) λb ob q=>Zp q;let⟨T,id,hT,ht,hg⟩:=hr jn {s3 with heap:=s3.heap.push {cls:=.type "slice",data:=.fields #[vl,vu,.none]} } σ H3 x v vl vu l u (e_ s3) Q I4 r1 (Heap.IsSliceOf.new ..) pl pu q3
 change wpAny (h_ X) X.A (subscriptTail e (.Slice lo hi b_ p2) v<|.ref<|e_ s3) (Za Q) X.xe {s3 with heap:=s3.heap.push {cls:=.type "slice",data:=.fields #[vl,vu,.none]} }
 show tail_any (ops:=[.ref<|e_ s3,v]) ht hT hg (by with_unfolding_all rfl)
abbrev B7(xs:B_ V)(lo hi:Z7 0):B_ V:=(xs.drop<|YV 0 lo).take<|YV xs.length hi-YV 0 lo
def sH(xs:B_ V)(lo hi:Z7 0):(B7 xs lo hi).length<=xs.length:=by unfold B7;rw[V7,List.length_drop];omega
abbrev Oh(K:UF):V->Z7 0->Z7 0->Hp->VK->Prop:=λx lo hi H Q=>∃a xs,x=.ref a/\ZF a xs/\
 ¬ (YV 0 lo=0/\YV xs.length hi=xs.length)/\∀p,H p=b_->Q (.ref p) (R_ p<|.tup<|B7 xs lo hi)
def LZ:SlR X (Oh X.K):=by
 intro jn s σ H x v vl vu lo hi sl Q I rx hs pl pu h;let⟨a,xs,rfl,hx,hw,q⟩:=h;cases rx
 let⟨its,r,ht,hz⟩:=I.tuple hx;let hlen:its.toArray.size=xs.length:=by rw[Va];show r.length.symm
 refine⟨"tuple",_,V0.lookup,ht.typeIs,?_⟩;refine HT.getItem_tuple_cut ht hs pl pu (by rw[hlen];show hw) ?_ (by rw[hlen];show hz);rw[hlen];refine⟨.ref<|e_ s,_,I.laid (t':=s.toks) (o:=.tup<|B7 xs lo hi) (λb ob q=>Zp q) (U6 _) ?_,rfl,q _<|I.hok.fresh<|U6 _⟩;show⟨VS (sH xs lo hi) hz,_,(r.drop<|YV 0 lo).take<|YV xs.length hi-YV 0 lo,tF.new _ _⟩
abbrev L9(K:UF):R2:=λx y H Q=>∃a b xs ys,x=.ref a/\y=.ref b/\ZF a xs/\ZF b ys/\xs≠[]/\xs.length+ys.length<=Ve/\
 (ys=[]->Q (.ref a) H)/\(ys≠[]->∀p,H p=b_->Q (.ref p) (R_ p<|.tup<|xs++ys))
def aJ.nil_iff{xs:B_ V}(r:aJ xs us):us=[]↔xs=[]:=by
 cases r with
 |nil=>simp
 |cons _ _=>simp
def Jm:Y7 (WB .Add) (L9 X.K):=by
 intro jn s σ H x y v u Q I rx ry h;let⟨a,b,xs,ys,rfl,rfl,ha,hb,hx,hz,q1,q2⟩:=h;cases rx
 cases ry
 let⟨its,r1,p1,_⟩:=I.tuple ha;let⟨c5,r2,p2,_⟩:=I.tuple hb;refine HT.cat_tup p1 p2 (λz=>hx<|r1.nil_iff.mp z) (λz=>⟨.ref a,H,I,rfl,q1<|r2.nil_iff.mp z⟩) (λz=>?_) (by rw[<-r1.length,<-r2.length];show hz);refine⟨.ref<|e_ s,_,I.laid (t':=s.toks) (o:=.tup<|xs++ys) (λb ob q=>Zp q) (U6 _) ?_,rfl,q2 (λw=>z<|r2.nil_iff.mpr w) _<|I.hok.fresh<|U6 _⟩;show⟨by rw[WL];show hz,_,r1.append r2,tF.new _ _⟩
end
abbrev ixN(n:Nat)(i:Int):C_ Nat:=if 0<=i then(if i<n then a_ i.toNat else b_) else if -(n:Int)<=i then a_ (i+n).toNat else b_
abbrev atI{α:Type}(xs:B_ α)(i:Int):C_ α:=(ixN xs.length i).bind λj=>xs[j]?
variable{j n:Nat}
def DO{i:Int}(h:ixN n i=a_ j):seqIndex? i n=a_ j/\j<n/\-(n:Int)<=i/\i<n:=by
 unfold ixN at h;by_cases h0:0<=i
 ·rw[if_pos h0]at h;by_cases h1:i<n
  ·rw[if_pos h1]at h;let e:i.toNat=j:=Vv h;show⟨by rw[seqIndex_of h0 h1,e],⋯,⋯,h1⟩
  ·rw[if_neg h1]at h;cases h
 ·rw[if_neg h0]at h;by_cases h1:-(n:Int)<=i
  ·rw[if_pos h1]at h;let e:(i+n).toNat=j:=Vv h;show⟨by rw[seqIndex_neg ⋯ h1,e],⋯,h1,⋯⟩
  ·rw[if_neg h1]at h;cases h
def zX{α:Type}{xs:B_ α}{i:Int}{v:α}(h:atI xs i=a_ v):∃j,seqIndex? i xs.length=a_ j/\xs[j]?=a_ v/\j<xs.length/\-(xs.length:Int)<=i/\i<xs.length:=by
 unfold atI at h;cases e:ixN xs.length i with
 |none=>rw[e]at h;cases h
 |some j=>rw[e]at h;let⟨h1,h2,h3,h4⟩:=DO e;show⟨j,h1,h,h2,h3,h4⟩
abbrev DP(b:z_):Prop:=∀o i,subscripted b false o i=operate [o,i] (getItem o i)
abbrev IxR(X:Cx)(r:R2):Prop:=
 ∀(value slice:z_)(jn:g_ 0)(s:td)(σ:St)(H:Hp)(x y:V)(v u:s_)(Q:VK),P1 s->ZI v->RelV y u->r x y H Q->
  subscripted slice false v u=operate [v,u] (getItem v u)->wpAny (h_ X) X.A (subscriptTail value slice v u) (Za Q) X.xe s
abbrev MtR(X:Cx)(id:String)(r:V->B_ V->Hp->VK->Prop):Prop:=
 ∀(jn:g_ 0)(s:td)(σ:St)(H:Hp)(x:V)(xs:B_ V)(v:s_)(us:ZQ 0)(Q:VK),P1 s->ZI v->aJ xs us->r x xs H Q->
  wpAny (h_ X) X.A (call (.builtin id) (v::us)) (Za Q) X.xe s
variable{ta tb:TE}{H:Hp}{its its':ZQ 0}{jn:g_ 0}{s:td}{A:v_}{u:s_}{y:V}{T:String}{ae apos:Pos}{name:Str}{to:TE}{es:B_ z_}
section
variable{a b:z_}
def IxR.or{r r':R2}(h:IxR X r)(h':IxR X r'):IxR X (λx y H Q=>r x y H Q\/r' x y H Q):=by
 intro value slice jn s σ H x y v u Q I rx ry q hs;rcases q with q|q
 ·show h value slice jn s σ H x y v u Q I rx ry q hs
 ·show h' value slice jn s σ H x y v u Q I rx ry q hs
def Oi{r:R2}(hr:IxR X r)(ha:Zy a ta)(hb:Zy b tb)(hs:DP b):Zy (.Subscript a b pos) (tOp r ta tb):=by intro jn s σ H Q I h;show Subscript_<|LL ha hb I h λv u s2 x y H2 I2 rx ry q=>hr a b jn s2 σ H2 x y v u Q I2 rx ry q<|hs _ _
abbrev QS(K:UF):R2:=λx y H Q=>∃p xs i v,x=.ref p/\y=.int i/\ZW p xs/\atI xs i=a_ v/\Q v H
abbrev QT(K:UF):R2:=λx y H Q=>∃p xs i v,x=.ref p/\y=.int i/\ZF p xs/\atI xs i=a_ v/\Q v H
abbrev QU:R2:=λx y H Q=>∃z i c,x=.str z/\y=.int i/\z.length<=Ve/\atI z.cps.toList i=a_ c/\Q (.str ⟨#[c]⟩) H
def Jn:IxR X (QS X.K):=by
 intro value slice jn s σ H x y v u Q I rx ry h hs;let⟨p,xs,i,z,rfl,rfl,hq,he,q⟩:=h;cases rx
 let⟨t,rfl⟩:=ry;let⟨its,r,pl,hz⟩:=I.list hq;let⟨j,h1,h2,h3,h4,h5⟩:=zX he;let⟨w,ew,cx⟩:=r.get h2;let hl:=r.length;let hn:=oE;let fin:Za Q w s:=⟨z,H,I,cx,q⟩;by_cases h0:0<=i
 ·let hj:i.toNat=j:=by rw[seqIndex_of h0 h5]at h1;show Vv h1
  show item_listR pl.isList h0 ⋯ (by rw[hj];simpa using ew) fin hs
 ·let hj:(i+(its.toArray.size:Int)).toNat=j:=by rw[seqIndex_neg ⋯ h4]at h1;rw[Va,<-hl];show Vv h1
  show subscriptTail_builtinR (x:=w) pl.isList.typeIs slot_list_getitem.lookup
   (wpAny_getItem_list_neg (Q:=λr s'=>r=w/\Za Q r s') pl.isList ⋯ (by rw[Va] <;> omega) ⋯ (by rw[hj];simpa using ew) ⟨rfl,fin⟩) hs
def M0:IxR X (QT X.K):=by
 intro value slice jn s σ H x y v u Q I rx ry h hs;let⟨p,xs,i,z,rfl,rfl,hq,he,q⟩:=h;cases rx
 let⟨t,rfl⟩:=ry;let⟨its,r,pl,hz⟩:=I.tuple hq;let⟨j,h1,h2,h3,h4,h5⟩:=zX he;let⟨w,ew,cx⟩:=r.get h2;let hl:=r.length;let hn:=oE;let fin:Za Q w s:=⟨z,H,I,cx,q⟩;show subscriptTail_builtinR (x:=w) pl.typeIs slot_tuple_getitem.lookup
  (getItem_tuple (j:=j) (Q:=λr s'=>r=w/\Za Q r s') pl ⋯ ⋯ (by rw[Va,<-hl];show h1) (l_ ew) ⟨rfl,fin⟩) hs
def M1:IxR X QU:=by
 intro value slice jn s σ H x y v u Q I rx ry h hs;let⟨z,i,c,rfl,rfl,hz,he,q⟩:=h;let⟨t,rfl⟩:=rx;let⟨t',rfl⟩:=ry;let⟨j,h1,h2,h3,h4,h5⟩:=zX he;let hl:z.cps.toList.length=z.length:=by simp[XR]
 rw[hl]at h1 h4 h5;let hn:=oE;show tail_any (typeIs_str s z t) slot_str_getitem.lookup (getItem_str (c:=c) (by let e1:decide (i < -(2 ^ 63:Int))=false:=decide_eq_false ⋯;let e2:decide (i >= 2 ^ 63)=false:=decide_eq_false ⋯;rw[e1,e2,Bool.or_false]) (by rw[h1];simpa using h2) ⟨.str ⟨#[c]⟩,H,Z3 0,⟨_,rfl⟩,q⟩) hs
def Cr(its:ZQ 0)(n j:Nat)(u:s_):VB (·.setIfInBounds j u) {cls:=.type "list",data:=.seq its.toArray n}={cls:=.type "list",data:=.seq (its.set j u).toArray n}:=by simp[VB]
def Inv.lst{jn:g_ 0}{σ:St}{H:Hp}{s:td}{p:t_}{xs:B_ V}(I:P1 s)(h:H p=a_ (.lst xs)):
  ∃(its:ZQ 0)(n:Nat),aJ xs its/\s.heap.get? p=a_ {cls:=.type "list",data:=.seq its.toArray n}/\xs.length<=Ve:=by
 let⟨z,its,n,r,e⟩:=I.hok p _ h;show⟨its,n,r,e,z⟩
def Inv.lstUpd{σ:St}{p:t_}{xs ys:B_ V}{n':Nat}{f:Obj->Obj}(I:P1 s)(h:H p=a_ (.lst xs))(ho:s.heap.get? p=a_ {cls:=.type "list",data:=.seq its.toArray n})(hf:f {cls:=.type "list",data:=.seq its.toArray n}={cls:=.type "list",data:=.seq its'.toArray n'})(r:aJ ys its')(hz:ys.length<=Ve)(t:Nat):
  i_ (R_ p<|.lst ys) {s with heap:=s.heap.update p f,toks:=t}:=by
 let e:(s.heap.update p f).get? p=a_ {cls:=.type "list",data:=.seq its'.toArray n'}:=by rw[VU f ho (by rw[hf] <;> rfl),hf]
 refine I.write (x:=p) (e:=p) (by rw[h];trivial) (.inl rfl) (λb u hb q=>(Wg _ _<|Wx hb).trans q) ⟨_,e⟩ ?_;show⟨hz,its',n',r,e⟩
abbrev Oj:V->V->V->Hp->(Hp->Prop)->Prop:=λo i v H Q=>∃p xs k j,o=.ref p/\i=.int k/\H p=a_ (.lst xs)/\ixN xs.length k=a_ j/\Q (R_ p<|.lst<|xs.set j v)
def set_list:QJ X Oj:=by
 intro jn s σ H o i v ov iv u Q I ro ri rv h;let⟨p,xs,k,j,rfl,rfl,hp,hj,q⟩:=h;cases ro
 let⟨t,rfl⟩:=ri;let⟨its,n,r,ho,hz⟩:=I.lst hp;let⟨h1,h2,h3,h4⟩:=DO hj;let hl:=r.length;let hn:=oE;let I':i_ (R_ p<|.lst<|xs.set j v) {s with heap:=s.heap.update p (VB (·.setIfInBounds j u))}:=I.lstUpd hp ho (Cr its n j u) (r.set rv j) (by rw[Wz];show hz) s.toks;by_cases h0:0<=k
 ·let hk:k.toNat=j:=by rw[seqIndex_of h0 h4]at h1;show Vv h1
  show PySem.W.ki_setAt ho h0 ⋯ (by rw[Va,<-hl];show h4) (by rw[hk];show⟨_,I',q⟩)
 ·let hk:(k+(its.toArray.size:Int)).toNat=j:=by rw[seqIndex_neg ⋯ h3]at h1;rw[Va,<-hl];show Vv h1
  show PySem.W.ki_setBack ho ⋯ (by rw[Va,<-hl];show h3) ⋯ (by rw[hk];show⟨_,I',q⟩)
def zY(lo hi:Z7 0)(n:Nat):(sliceBounds lo hi b_ n).1=((HT.sIx n 0 lo:Nat):Int)/\(sliceBounds lo hi b_ n).2.1=((HT.sIx n n hi:Nat):Int)/\(sliceBounds lo hi b_ n).2.2=1:=by
 refine⟨?_,?_,rfl⟩
 ·cases lo with
  |none=>simp[sliceBounds,HT.sIx]
  |some i=>
   simp only[sliceBounds,HT.sIx,Option.getD_none,show(1:Int)>0 by decide,if_true]
   by_cases h:i<0
   ·simp only[h,if_true] <;> omega
   ·simp only[h,if_false] <;> omega
 ·cases hi with
  |none=>simp[sliceBounds,HT.sIx]
  |some i=>
   simp only[sliceBounds,HT.sIx,Option.getD_none,show(1:Int)>0 by decide,if_true]
   by_cases h:i<0
   ·simp only[h,if_true] <;> omega
   ·simp only[h,if_false] <;> omega
def wY(its:ZQ 0)(lo hi:Z7 0):slicePick its.toArray lo hi b_=((its.drop<|HT.sIx its.length 0 lo).take<|HT.sIx its.length its.length hi-HT.sIx its.length 0 lo).toArray:=by let⟨h1,h2,h3⟩:=zY lo hi its.toArray.size;unfold slicePick;rw[h1,h2,h3];simp only[sliceRange_one,pick_run,Va] <;> rfl
abbrev Ol(K:UF):V->Z7 0->Z7 0->Hp->VK->Prop:=λx lo hi H Q=>∃a xs,x=.ref a/\ZW a xs/\∀p,H p=b_->Q (.ref p) (R_ p<|.lst<|B7 xs lo hi)
def Jo:SlR X (Ol X.K):=by
 intro jn s σ H x v vl vu lo hi sl Q I rx hs pl pu h;let⟨a,xs,rfl,hx,q⟩:=h;cases rx
 let⟨its,r,ht,hz⟩:=I.list hx;let hlen:=r.length;refine⟨"list",_,slot_list_getitem.lookup,ht.isList.typeIs,?_⟩;refine wpAny_getItem_list_slice ht.isList hs pl pu .none (by simp) ?_ (by rw[Va] <;> omega);rw[wY,<-hlen];refine⟨.ref<|e_ s,_,I.laid (t':=s.toks) (o:=.lst<|B7 xs lo hi) (λb ob q=>Zp q) (U6 _) ?_,rfl,q _<|I.hok.fresh<|U6 _⟩;show⟨VS (sH xs lo hi) hz,_,0,(r.drop<|YV 0 lo).take<|YV xs.length hi-YV 0 lo,Zc 0⟩
abbrev sI:V->Bool
 |.non=>true
 |.bl _=>true
 |.int _=>true
 |.str _=>true
 |_=>false
abbrev eqV:V->V->Bool
 |.non,.non=>true
 |.bl a,.bl b=>a == b
 |.bl a,.int b=>(if a then 1 else 0) == b
 |.int a,.bl b=>a == (if b then 1 else 0)
 |.int a,.int b=>a == b
 |.str a,.str b=>a == b
 |_,_=>false
def M3{x:V}{v:s_}(ry:RelV y u)(rx:ZI v)(fy:sI y=true)(fx:sI x=true):SeqAt.EqAt A s u v (eqV y x):=by
 cases y with
 |non=>
  cases ry
  cases x with
  |non=>cases rx;show SeqAt.EqAt.same _
  |bl b=>cases rx;show SeqAt.EqAt.none_bool b
  |int b=>let⟨t,rfl⟩:=rx;show SeqAt.EqAt.none_int b t
  |str b=>let⟨t,rfl⟩:=rx;show SeqAt.EqAt.none_str b t
  |_=>exact absurd (show false=true from fx) Vj
 |bl a=>
  cases ry
  cases x with
  |non=>cases rx;show SeqAt.EqAt.bool_none a
  |bl b=>cases rx;show SeqAt.EqAt.bool_bool a b
  |int b=>let⟨t,rfl⟩:=rx;show SeqAt.EqAt.bool_int a b t
  |str b=>let⟨t,rfl⟩:=rx;show SeqAt.EqAt.bool_str a b t
  |_=>exact absurd (show false=true from fx) Vj
 |int a=>
  let⟨t',rfl⟩:=ry;cases x with
  |non=>cases rx;show SeqAt.EqAt.int_none a t'
  |bl b=>cases rx;show SeqAt.EqAt.int_bool a t' b
  |int b=>let⟨t,rfl⟩:=rx;show SeqAt.EqAt.int_int a t' b t
  |str b=>let⟨t,rfl⟩:=rx;show SeqAt.EqAt.int_str a t' b t
  |_=>exact absurd (show false=true from fx) Vj
 |str a=>
  let⟨t',rfl⟩:=ry;cases x with
  |non=>cases rx;show SeqAt.EqAt.str_none a t'
  |bl b=>cases rx;show SeqAt.EqAt.str_bool a t' b
  |int b=>let⟨t,rfl⟩:=rx;show SeqAt.EqAt.str_int a t' b t
  |str b=>let⟨t,rfl⟩:=rx;show SeqAt.EqAt.str_str a t' b t
  |_=>exact absurd (show false=true from fx) Vj
 |_=>exact absurd (show false=true from fy) Vj
abbrev eqU(x:V)(u:s_):Bool:=match u with
 |.none=>eqV .non x
 |.bool b=>eqV (.bl b) x
 |.int i _=>eqV (.int i) x
 |.str z _=>eqV (.str z) x
 |_=>false
def Gs{x:V}(r:RelV y u)(f:sI y=true):eqU x u=eqV y x:=by
 cases y with
 |non=>cases r;rfl
 |bl b=>cases r;rfl
 |int i=>let⟨t,rfl⟩:=r;rfl
 |str z=>let⟨t,rfl⟩:=r;rfl
 |_=>exact absurd (show false=true from f) Vj
def pM{x:V}:∀{xs:B_ V}{us:ZQ 0},aJ xs us->xs.all sI=true->us.any (eqU x)=xs.any λy=>eqV y x
 |_,_,.nil,_=>rfl
 |y::xs,u::us,.cons r t,f=>by rw[Yq,VE]at f;rw[Yr,Yr,Gs r f.1,pM t f.2]
def lL{A:v_}{s:td}{x:V}{v:s_}(rx:ZI v)(fx:sI x=true):∀{xs:B_ V}{us:ZQ 0},aJ xs us->xs.all sI=true->∀u∈us,SeqAt.EqAt A s u v (eqU x u)
 |_,_,.nil,_=>λu hu=>by cases hu
 |y::xs,u::us,.cons r t,f=>λu' hu=>by
  rw[Yq,VE]at f;rcases U9.mp hu with rfl|hu
  ·rw[Gs r f.1];show M3 r rx f.1 fx
  ·show lL rx fx t f.2 u' hu
abbrev inV(x:V)(xs:B_ V):Bool:=xs.any λy=>eqV y x
abbrev rIn(K:UF)(neg:Bool):R2:=λx y H Q=>∃p xs,y=.ref p/\(ZW p xs\/ZF p xs)/\sI x=true/\xs.all sI=true/\Q (.bl<|if neg then !inV x xs else inV x xs) H
def ER:Y7 (VG .In) (rIn X.K false):=by
 intro jn s σ H x y v u Q I rx ry h;let⟨p,xs,rfl,hq,fx,fs,q⟩:=h;cases ry
 rcases hq with hq|hq
 ·let⟨its,r,pl,hz⟩:=I.list hq;refine SeqAt.in_listAt (eqU x) pl.isList (λw hw=>lL rx fx r fs w<|l_ hw) ⟨.bl _,H,I,rfl,?_⟩;rw[show its.toArray.any (eqU x)=its.any (eqU x) by simp,pM r fs];show q
 ·let⟨its,r,pl,hz⟩:=I.tuple hq;refine SeqAt.in_tupleAt (eqU x) pl (λw hw=>lL rx fx r fs w<|l_ hw) ⟨.bl _,H,I,rfl,?_⟩;rw[show its.toArray.any (eqU x)=its.any (eqU x) by simp,pM r fs];show q
def zZ:Y7 (VG .NotIn) (rIn X.K true):=by
 intro jn s σ H x y v u Q I rx ry h;let⟨p,xs,rfl,hq,fx,fs,q⟩:=h;cases ry
 rcases hq with hq|hq
 ·let⟨its,r,pl,hz⟩:=I.list hq;refine SeqAt.notIn_listAt (eqU x) pl.isList (λw hw=>lL rx fx r fs w<|l_ hw) ⟨.bl _,H,I,rfl,?_⟩;rw[show its.toArray.any (eqU x)=its.any (eqU x) by simp,pM r fs];show q
 ·let⟨its,r,pl,hz⟩:=I.tuple hq;refine SeqAt.notIn_tupleAt (eqU x) pl (λw hw=>lL rx fx r fs w<|l_ hw) ⟨.bl _,H,I,rfl,?_⟩;rw[show its.toArray.any (eqU x)=its.any (eqU x) by simp,pM r fs];show q
def A0:cO X (.builtin "len") (λxs H Q=>∃p ys,xs=[.ref p]/\(SqL X.K H p ys\/SqT X.K H p ys)/\Q (.int ys.length) H):=by
 intro jn s σ H xs us Q I r h;let⟨p,ys,rfl,hq,q⟩:=h;let⟨u,rfl,rx⟩:=vals1 r;cases rx
 let hn:=oE;rcases hq with hq|hq
 ·let⟨its,r',pl,hz⟩:=I.list hq;let hlen:=r'.length;show Calls.call_len_list pl.isList (by simp only[Va] <;> omega) ⟨.int ys.length,H,Z3 0,⟨s.toks+1,by rw[Va,hlen]⟩,q⟩
 ·let⟨its,r',pl,hz⟩:=I.tuple hq;let hlen:=r'.length;show len_tuple pl (by simp only[Va] <;> omega) ⟨.int ys.length,H,Z3 0,⟨s.toks+1,by rw[Va,hlen]⟩,q⟩
def A1:cO X (.type "list") (λxs H Q=>∃p ys,xs=[.ref p]/\(SqL X.K H p ys\/SqT X.K H p ys)/\∀l,H l=b_->Q (.ref l) (R_ l<|.lst ys)):=by
 intro jn s σ H xs us Q I r h;let⟨p,ys,rfl,hq,q⟩:=h;let⟨u,rfl,rx⟩:=vals1 r;cases rx
 let fin:∀(its:ZQ 0),aJ ys its->ys.length<=Ve->∀(h':w_)(c':Nat),(∀b o',N_ 0=a_ o'->Zf 0=a_ o')->
   h'.get? (e_ s)=a_ {cls:=.type "list",dict:=b_,data:=.seq its.toArray c',slots:=#[]}->Za Q (.ref<|e_ s) {s with heap:=h'}:=λits r' hz h' c' kp e=>
  ⟨.ref<|e_ s,_,I.laid (t':=s.toks) kp (U6 _)<|show Zl _ h' _ (.lst ys) from⟨hz,its,c',r',e⟩,rfl,q _<|I.hok.fresh<|U6 _⟩
 rcases hq with hq|hq
 ·let⟨its,r',pl,hz⟩:=I.list hq;let hlen:=r'.length;let⟨o,ho,hc,n,hd⟩:=pl.isList;show call_list_seq p (.inl rfl) ho hc hd (λh' c' kp e=>fin its r' hz h' c' kp e) (by simp only[Va] <;> omega)
 ·let⟨its,r',pl,hz⟩:=I.tuple hq;let hlen:=r'.length;let⟨o,ho,hc,n,hd⟩:=pl;show call_list_seq p (.inr rfl) ho hc hd (λh' c' kp e=>fin its r' hz h' c' kp e) (by simp only[Va] <;> omega)
def wZ:cO X (.type "tuple") (λxs H Q=>∃p ys,xs=[.ref p]/\((SqL X.K H p ys/\∀l,H l=b_->Q (.ref l) (R_ l<|.tup ys))\/(SqT X.K H p ys/\Q (.ref p) H))):=by
 intro jn s σ H xs us Q I r h;let⟨p,ys,rfl,h⟩:=h;let⟨u,rfl,rx⟩:=vals1 r;cases rx
 rcases h with⟨hq,q⟩|⟨hq,q⟩
 ·let⟨its,r',pl,hz⟩:=I.list hq;let hlen:=r'.length;refine call_tuple_list pl.isList (λh' kp=>?_) (by simp only[Va] <;> omega);let I1:P1 {s with heap:=h'}:=I.kept (t':=s.toks) kp;let I2:i_ (R_ h'.objs.size<|.tup ys) {s with heap:=h'.push {cls:=.type "tuple",data:=.seq its.toArray} }:=I1.laid (t':=s.toks) (λb o e=>Zp e) (U6 _) (show Zl _ _ _ (.tup ys) from⟨hz,its,r',tF.new _ _⟩)
  show⟨.ref h'.objs.size,_,I2,rfl,q _<|I1.hok.fresh<|U6 _⟩
 ·let⟨its,r',pl,hz⟩:=I.tuple hq;show call_tuple_same pl ⟨.ref p,H,I,rfl,q⟩
abbrev tyV(K:UF)(T:String)(x:V)(H:Hp):Prop:=match x with
 |.str _=>T="str"
 |.int _=>T="int"
 | .ref p=>(T="list" /\ ∃ xs,ZW p xs)\/(T="tuple" /\ ∃ o,K.lookup p=a_ o/\o.cls=.type "tuple" /\ o.dict=b_)\/
   (T="dict" /\ ((∃kvs,H p=a_ (.dK kvs))\/∃kvs,H p=a_ (.dT kvs)))\/(T="set" /\ ∃S n,H p=a_ (.set S n))
 |_=>False
def Gu{σ:St}{x:V}{v:s_}(I:P1 s)(r:ZI v)(ty:tyV X.K T x H):
  s.TypeIs v T/\∀a,v=.ref a->∃ob,Zb 0=a_ ob/\ob.dict=b_:=by
 cases x with
 |str z=>
  let⟨t,rfl⟩:=r;cases(show T="str" from ty)
  show⟨typeIs_str s z t,λ_ e=>nomatch e⟩
 |int i=>
  let⟨t,rfl⟩:=r;cases(show T="int" from ty)
  show⟨typeIs_int s i t,λ_ e=>nomatch e⟩
 |ref p=>
  cases r
  rcases ty with⟨rfl,xs,hq⟩|⟨rfl,o,hk,hc,hd⟩|⟨rfl,hk⟩|⟨rfl,S,n,hk⟩
  ·let⟨its,_,pl,_⟩:=I.list hq;refine⟨pl.isList.typeIs,λa e=>?_⟩;cases e
   let⟨o,n,e,c,hd,_⟩:=pl;show⟨o,e,hd⟩
  ·refine⟨⟨o,I.kIn p o hk,hc⟩,λa e=>?_⟩;cases e
   show⟨o,I.kIn _ o hk,hd⟩
  ·let z:∃o,s.heap.get? p=a_ o/\o.ExactDict:=by
    rcases hk with⟨kvs,hk⟩|⟨kvs,hk⟩
    ·let⟨_,_,_,_,o,_,_,e,ex,_⟩:=I.hok p _ hk;show⟨o,e,ex⟩
    ·let⟨_,_,_,_,o,_,_,e,ex,_⟩:=I.hok p _ hk;show⟨o,e,ex⟩
   let⟨o,e,ex⟩:=z;refine⟨⟨o,e,ex.1⟩,λa e2=>?_⟩;cases e2
   show⟨o,e,ex.2.1⟩
  ·let⟨o,_,_,_,e,ex,_⟩:=I.hok p _ hk;refine⟨⟨o,e,ex.1⟩,λa e2=>?_⟩;cases e2
   show⟨o,e,ex.2.1⟩
 |_=>exact WW ty
abbrev QV(K:UF)(T:String)(r:V->B_ V->Hp->VK->Prop)(to:TE):TE:=λσ H Q=>to σ H λx H1=>tyV K T x H1/\r x [] H1 Q
abbrev tBM(K:UF)(T:String)(r:V->B_ V->Hp->VK->Prop)(to:TE)(t:TA):TE:=λσ H Q=>to σ H λx H1=>tyV K T x H1/\t σ H1 λxs H2=>r x xs H2 Q
variable{o:z_}{t:TA}{id:String}{r:V->B_ V->Hp->VK->Prop}
def M4(pa:PlainAttrs T)(slot:Slot T name id)(i6:typeOf (.builtin id)=pure (.type "method_descriptor"))(hm:MtR X id r)(ho:Zy o to)
  (au:Xf o name X.env (ZT 0)=ZT 0:=by rfl) (aq:(apos.endLine == ae.line)=true:=by rfl):Zy (.Call (.Attribute o name apos) [] [] ae) (QV X.K T r to):=by
 intro jn s σ H Q I h;refine wpAny_Call_method0_late au aq<|thn (ho jn s σ H _ I h) λv s1 z9=>?_;let⟨x,H1,I1,r1,ty,q1⟩:=z9;let⟨h1,h2⟩:=Gu I1 r1 ty;show⟨T,id,pa,slot,i6,h1,h2,Xp rfl<|PySem.evalArgs_none<|hm jn s1 σ H1 x [] v [] Q I1 r1 .nil q1⟩
def Om(pa:PlainAttrs T)(slot:Slot T name id)(i6:typeOf (.builtin id)=pure (.type "method_descriptor"))(hm:MtR X id r)(ho:Zy o to)(ha:PA X (e::es) t)
  (au:Xf o name X.env (ZT 0)=ZT 0:=by rfl)
  (fb:((backTo ae (Vl (e::es) X.env)).all (λx=>!x.1)&&(backToKw ae (keywordEach [] X.env)).all (λx=>x.1.isSome)
   && decide ((e::es).length+([]:B_ Keyword).length+(if([]:B_ Keyword).isEmpty then 0 else 1)<30))=true:=by rfl)
  (aq:(apos.endLine == ae.line)=true:=by rfl) (hs:Vl (e::es) X.env=(false,U_ 0)::W_ 0:=by rfl) (cm:(backTo ae<|W_ 0).any (·.1)=false:=by rfl):
  Zy (.Call (.Attribute o name apos) (e::es) [] ae) (tBM X.K T r to t):=by
 intro jn s σ H Q I h;refine wpAny_Call_method_late au fb aq rfl<|thn (ho jn s σ H _ I h) λv s1 z9=>?_;let⟨x,H1,I1,r1,ty,q1⟩:=z9;let⟨h1,h2⟩:=Gu I1 r1 ty;refine⟨T,id,pa,slot,i6,h1,h2,?_⟩;let hA:=ha ae jn s1 σ H1 _ I1 q1;rw[hs]at hA⊢;refine Xp (by change(false || (backTo ae<|W_ 0).any (·.1))=false;rw[cm] <;> rfl)<|Calls.evalArgs_plain ?_;show thn hA λus s2 ⟨vs,H2,I2,r2,q2⟩=>hm jn s2 σ H2 x vs v us Q I2 r1 r2 q2
end
abbrev MtM(X:Cx)(id:String)(r:V->B_ V->Hp->VK->Prop):Prop:=
 ∀(jn:g_ 0)(s:td)(σ:St)(H:Hp)(x:V)(xs:B_ V)(v:s_)(us:ZQ 0)(Q:VK),P1 s->ZI v->aJ xs us->r x xs H Q->
  wpAny (h_ X) X.A (call (.builtin id) (v::us)) (Za Q) X.xe s
def aJ.one:∀{x:V}{us:ZQ 0},aJ [x] us->∃u,us=[u]/\ZI u
 |_,_,.cons r .nil=>⟨_,rfl,r⟩
def aJ.zero:∀{us:ZQ 0},aJ [] us->us=[]
 |_,.nil=>rfl
def aJ.dropLast{xs:B_ V}(h:aJ xs us):aJ xs.dropLast us.dropLast:=by
 induction h with
 |nil=>exact .nil
 |cons r t ih=>
  cases t with
  |nil=>exact .nil
  |cons q t'=>exact .cons r ih
def Cs{α:Type}(l:B_ α):l.eraseIdx (l.length-1)=l.dropLast:=by
 induction l with
 |nil=>rfl
 |cons a r ih=>
  cases r with
  |nil=>rfl
  |cons b r=>
   let e:(a::b::r).length-1=((b::r).length-1)+1:=by let h1:(a::b::r).length=r.length+2:=rfl;let h2:(b::r).length=r.length+1:=rfl;omega
   rw[e,List.eraseIdx_cons_succ,ih]
   all_goals rfl
variable{l:t_}{t':Nat}
section
variable{σ:St}{b:t_}{xs ys zs:B_ V}
def Inv.lset{f:YY 0->YY 0}(I:P1 s)(hH:H l=a_ (.lst xs))(e:s.heap.get? l=a_ {cls:=.type "list",data:=.seq its.toArray n})(hf:f its.toArray=its'.toArray)(hv:aJ ys its')(hz:ys.length<=Ve):
  i_ (R_ l<|.lst ys) {s with heap:=s.heap.update l<|VB f,toks:=t'}:=by
 let q:=PySem.IsL.update e f;rw[hf]at q;refine I.write (x:=l) (e:=l) (by rw[hH];show trivial) (.inl rfl) (λb' u hb hu=>(Wg s.heap (VB f)<|Wx hb).trans hu) ⟨_,q⟩ ?_;show⟨hz,its',_,hv,q⟩
def Inv.lnew(I:P1 s)(hv:aJ ys its)(hz:ys.length<=Ve):
  i_ (R_ (e_ s)<|.lst ys) {s with heap:=s.heap.push {cls:=.type "list",data:=.seq its.toArray},toks:=t'}:=
 I.laid (λ_ _ q=>Zp q) (U6 _) ⟨hz,its,0,hv,Zc 0⟩
def Inv.fresh(I:P1 s):H (e_ s)=b_:=I.hok.fresh<|U6 _
def Inv.lstM(I:P1 s)(hH:H l=a_ (.lst xs)):xs.length<=Ve/\∃(its:ZQ 0)(n:Nat),aJ xs its/\xs.length=its.length/\s.heap.get? l=a_ {cls:=.type "list",data:=.seq its.toArray n}:=by let⟨z,its,n,r,e⟩:=I.hok l _ hH;show⟨z,its,n,r,r.length,e⟩
def Gv(h:n<=Ve):YF n=false:=by unfold YF;show decide_eq_false ⋯
end
abbrev DQ:V->B_ V->Hp->VK->Prop:=λx vs H Q=>∃l xs y,x=.ref l/\vs=[y]/\H l=a_ (.lst xs)/\xs.length<Ve/\Q .non (R_ l<|.lst<|xs++[y])
def yG:MtM X "list.append" DQ:=by
 intro jn s σ H x vs v us Q I rx rv h;let⟨l,xs,y,rfl,rfl,hH,hz,q⟩:=h;cases rx
 let⟨u,rfl,ru⟩:=rv.one;let⟨z,its,n,r,hl,e⟩:=I.lstM hH;refine call_meets F.slot_list_append ⟨_,e,rfl⟩ F.entry_list_append (F.args_list_append_2 _ _) (PySem.list_append l its.toArray n u (by rw[Va];omega)) ⟨e,?_⟩;refine⟨.non,_,I.lset (its':=its++[u]) hH e (by simp) (r.append<|.cons ru .nil) ?_,rfl,q⟩;rw[WL,List.length_singleton];omega
abbrev DR:V->B_ V->Hp->VK->Prop:=λx vs H Q=>∃l b xs zs,x=.ref l/\vs=[.ref b]/\H l=a_ (.lst xs)/\H b=a_ (.lst zs)/\xs.length+zs.length<=Ve/\Q .non (R_ l<|.lst<|xs++zs)
def ES:MtM X "list.extend" DR:=by
 intro jn s σ H x vs v us Q I rx rv h;let⟨l,b,xs,zs,rfl,rfl,hH,hB,hz,q⟩:=h;cases rx
 let⟨u,rfl,ru⟩:=rv.one;cases ru
 let⟨z,its,n,r,hl,e⟩:=I.lstM hH;let⟨z2,c5,n2,r2,cw,e2⟩:=I.lstM hB;let hsz:its.toArray.size+c5.toArray.size<=Ve:=by rw[Va,Va];omega
 let tf:¬ (!its.toArray.isEmpty&&YF (its.toArray.size+c5.toArray.size))=true:=by rw[Gv hsz,Bool.and_false];show Vj
 refine call_meets F.slot_list_extend ⟨_,e,rfl⟩ F.entry_list_extend (F.args_list_extend_2 _ _)
  (AutoSeq1.list_extend_list_list_0 l its.toArray n b c5.toArray n2 tf (by rw[Va];omega) ⋯) ⟨e,e2,?_⟩
 refine⟨.non,_,I.lset (its':=its++c5) hH e (by simp) (r.append r2) ?_,rfl,q⟩;rw[WL];omega
abbrev On:V->B_ V->Hp->VK->Prop:=λx vs H Q=>∃l xs y,x=.ref l/\vs=[]/\H l=a_ (.lst xs)/\xs[xs.length-1]?=a_ y/\Q y (R_ l<|.lst xs.dropLast)
def M5:MtM X "list.pop" On:=by
 intro jn s σ H x vs v us Q I rx rv h;let⟨l,xs,y,rfl,rfl,hH,hy,q⟩:=h;cases rx
 let UQ:=rv.zero;subst UQ;let⟨z,its,n,r,hl,e⟩:=I.lstM hH;let⟨u,hu,ru⟩:=r.get hy;let jk:its.toArray[its.toArray.size-1]?=a_ u:=by
  change its.toArray[its.length-1]?=a_ u
  rw[<-V4,<-hl];show hu
 refine call_meets F.slot_list_pop ⟨_,e,rfl⟩ F.entry_list_pop (F.args_list_pop_1 _) (MeetsSeq.list_pop_last l its.toArray n u jk (by rw[Va];omega)) ⟨e,?_⟩;refine⟨y,_,I.lset (its':=its.dropLast) hH e ?_ r.dropLast ?_,ru,q⟩
 ·change its.toArray.eraseIdxIfInBounds (its.toArray.size-1)=its.dropLast.toArray
  rw[Va,List.eraseIdxIfInBounds_toArray,Cs]
 ·rw[List.length_dropLast];omega
abbrev Oo:R2:=λx y H Q=>∃l b xs zs,x=.ref l/\y=.ref b/\H l=a_ (.lst xs)/\H b=a_ (.lst zs)/\xs.length+zs.length<=Ve/\∀p,H p=b_->Q (.ref p) (R_ p<|.lst<|xs++zs)
def M6:Y7 (WB .Add) Oo:=by
 intro jn s σ H x y v u Q I rx ry h;let⟨l,b,xs,zs,rfl,rfl,hH,hB,hz,q⟩:=h;cases rx
 cases ry
 let⟨z,its,n,r,hl,e⟩:=I.lstM hH;let⟨z2,c5,n2,r2,cw,e2⟩:=I.lstM hB;refine PySem.P.add_list e e2 ?_ (by rw[Va,Va];omega);let ea:its.toArray++c5.toArray=(its++c5).toArray:=by simp
 rw[ea];show⟨.ref _,_,I.lnew (t':=s.toks) (r.append r2) (by rw[WL];omega),rfl,q _ I.fresh⟩
end L2
namespace Att
open PySem PySem.W PySem.Calls PyProof.Rows
variable{P:Params}{h:w_}
def tG:∀(ns:Z9 0)(vs:ZQ 0),WellAll P h vs (ns.map WData.int)->IntsAre vs ns:=by
 intro ns
 induction ns with
 |nil=>
  intro vs w;rw[List.map_nil]at w;cases w
  show .nil
 |cons n ns ih=>
  intro vs w;rw[Vi]at w;cases w with
  |cons a b=>
   cases a
   show .cons _ _<|ih _ b
variable{args:B_ WData}{l:OpenLaw}{n:Nat}{vals:ZQ 0}
def ET(hn:l.most=a_ n)(jy:l.row.toRowW.claim.pre args=true)(yd:WellAll P h vals args):
  ∃a vs ns,vals=[Vu a]/\args=[WData.list<|ns.map WData.int]/\h.get? a=a_ {cls:=.type "list",data:=.seq vs.toArray}/\IntsAre vs ns/\ns.length<=n:=by
 let hsh:WShape.hasAll [] args [.list .int]=true:=(pre_splitW jy).1;let hc:l.pre.holds [] { args:=args}=true:=(pre_splitW jy).2;let⟨d,r,rfl,h1,h2⟩:=hasAllW_cons hsh;obtain rfl:=hasAllW_nil h2;let⟨xs,rfl,h3⟩:=hasW_list h1;let⟨ns,rfl⟩:=items_int h3;let hlen:ns.length<=n:=by
  unfold OpenLaw.pre at hc;let h4:(WTm.not<|.lt (.lit<|.int (n:Int))<|.len<|.arg 0).holds [] { args:=[.list<|ns.map .int]}=true:=by let h4:=(holds_andW hc).1;rw[hn]at h4;show h4
  let h5:=condW_of h4<|w_not<|w_lt w_lit<|w_len_list<|w_arg rfl;rw[U5]at h5;refine Nat.le_of_not_lt λq=>?_;let q':(n:Int)<((ns.length:Nat):Int):=⋯
  first
   |(rw[decide_eq_true q']at h5;show absurd h5 nofun)
   |(simp at h5;omega)
 cases yd with
 |cons w1 w2=>
  cases w2
  cases w1 with
  |list ho hall=>exact⟨_,_,ns,rfl,rfl,ho,tG ns _ hall,hlen⟩
def EU(l:OpenLaw)(args:B_ WData):l.row.toRowW.claim.post args (.bool true) args=true:=
 postW_of (r:=l.row.toRowW) (X:=(true == true))
  (show WShape.has [] (.bool true) .bool=true by first|rfl|decide|simp[WShape.has,WShape.arms,WShape.armsAll])
  (show(WTm.eq .res<|.lit<|.bool true).value [] { args:=args,res:=a_<|.bool true,after:=args}=a_ (.bool<|true == true) from w_eq_bool (w_res rfl) w_lit) rfl
variable{XP:(o_ 0)->w_->Prop}{YP:x_->w_->Prop}{loose:Zg 0}
def attach_call{q:y_}{d:DefRec}(hn:l.most=a_ n)(uk:d.params.defaults=[])(call:∀(w:x_)(s₀ s₁:td)(mg mb:o_ 0)(fa:t_)(o:Obj)(pm cd doc:s_)(a:t_)(vs:ZQ 0)(ns:Z9 0),
   Ground q loose [] XP w s₀ mg mb s₁.heap->YP w s₁.heap->
   s₁.heap.get? fa=a_ o->o.data=.func (docDef d.name d.params d.body d.scope pm cd doc)->s₁.heap.CodeRec cd d.name->mg d.name=c_ fa->
   s₁.heap.get? a=a_ {cls:=.type "list",data:=.seq vs.toArray}->IntsAre vs ns->ns.length<=n->s₁.gens=#[]->
   codeAny (model l.prog w) callerA (.call (.ref fa) ⟨[.ref a],[]⟩) (λr s'=>r=.ok (.ret (.bool true))/\OldK s₁.heap s'.heap/\s'.os=s₁.os/\AllBare s'.gens) s₁):
  WalkO q loose XP YP l.row.toRowW d [] (λf vs=>PySem.call f vs):=by
 intro w s₀ s₁ mg mb G Y fa o pm cd doc dV kV ho hd ik hD hmg hg args vals as jy hlay hrd yd UK;obtain rfl:dV=.none:=Dflts.none hD uk;obtain rfl:kV=.none:=Dflts.noKw hD;let⟨a,vs,ns,rfl,rfl,mq,hints,hlen⟩:=ET hn jy yd;refine enter_call<|codeAny_mono (call w s₀ s₁ mg mb fa o pm cd doc a vs ns G Y ho (fd_plain hd) ik hmg mq hints hlen hg) λr s' hq=>?_;let⟨rfl,h2,h3,h4⟩:=hq;show⟨.inl ⟨.bool true,.bool true,[],rfl,λ_=>rfl,.bool true,EU l _,λ_=>⟨Ys,λ_ hm=>(nomatch hm)⟩⟩,h2,h3,h4⟩
end Att
namespace L2
def yH:∀{vs:ZQ 0}{ns:Z9 0},IntsAre vs ns->aJ (ZS 0) vs
 |_,_,.nil=>.nil
 |_,_,.cons n t h=>.cons ⟨t,rfl⟩ (yH h)
abbrev Gw(H:Hp):Prop:=∀b,H b=b_\/∃o xs,H b=a_ (.frz o<|.lst xs)
variable{CX:CXT}{K:UF}{P:y_}{a:t_}{fd:WU}{mg:o_ 0}{ns:Z9 0}{sp:Sp}{s₁:td}{w:x_}{x:Str}
def Gx{mb:o_ 0}{k:Nat}{fa:t_}{vs:ZQ 0}(KX:K.In s₁.heap)(zt:s₁.heap.Ns We mg)(hb:s₁.heap.Ns builtinsNs mb)(lp:∀x:Str,x≠"__name__" -> mb x=Xt x)(za:s₁.heap.NoLimit)(hg:s₁.gens=#[])(ha:s₁.heap.get? a=a_ {cls:=.type "list",data:=.seq vs.toArray})(hi:IntsAre vs ns)(hl:ns.length<=Ve)(hr:dX k callerA)(F:∀base:w_,K.In base->base.Ns We mg->q0a CX k fa fd [x] sp)(uh:∀(s:td)(u:s_),BindsTo s fd ⟨[u],[]⟩ [(x,u)])(km:∀H:Hp,Gw H->ZW a (ZS 0)->sp [.ref a] H (λv _=>v=.bl true) λ_ _ _=>False)(yq:∀H e s',CX [] H s₁ (λ_ _ _=>False) e s'->False):
  codeAny (model P w) callerA (.call (.ref fa) ⟨[.ref a],[]⟩) (λr s'=>r=.ok (.ret<|.bool true)/\OldK s₁.heap s'.heap/\s'.os=s₁.os/\AllBare s'.gens) s₁:=by
 let rv:=yH hi;let yj:=hi.length
 -- from an abstract heap in which nothing but the script may be tracked
 let core:∀H:Hp,Gw H->ZW a (ZS 0)->q0d s₁.heap->(∀b,H b≠b_->b=a)->(H a≠b_->K.lookup a=b_)->
   codeAny (model P w) callerA (.call (.ref fa) ⟨[.ref a],[]⟩) (λr s'=>r=.ok (.ret<|.bool true)/\OldK s₁.heap s'.heap/\s'.os=s₁.os/\AllBare s'.gens) s₁:=by
  intro H hO hS hok hA hK;let f6:∀{b:t_}{o:Obj},s₁.heap.get? b=a_ o->H b=b_->(zV s₁.heap H).get? b=a_ o:=λe n=>G4 e n;let sx:∀{b:t_}{o:Obj}{es:Array Xw}{ep:Nat},s₁.heap.get? b=a_ o->o.data=.dict es ep->H b=b_:=λ{b o es ep} e d=>by
   cases q:H b with
   |none=>rfl
   |some u=>have e':b=a:=hA b (by rw[q];simp);subst e';rw[ha]at e;cases e;let d':Data.seq vs.toArray _=Data.dict es ep:=d;cases d'
  let vj:∀{b:t_}{m:o_ 0},s₁.heap.Ns b m->(zV s₁.heap H).Ns b m:=λ{b m} ⟨o,es,ep,e,d,r⟩=>⟨o,es,ep,f6 e (sx e d),d,r⟩;let Io:K.In (zV s₁.heap H):=λb o e=>f6 (KX b o e) (by
   cases q:H b with
   |none=>rfl
   |some u=>have e':b=a:=hA b (by rw[q];simp);subst e';rw[hK (by rw[q];simp)]at e;cases e)
  let hM:Mod K mg (zV s₁.heap H):=⟨Io,vj zt,⟨mb,vj hb,lp⟩,let ⟨mc,h1,h2⟩:=za;⟨mc,vj h1,h2⟩⟩;let e0:wW P w K mg (zV s₁.heap H) callerA [] s₁ H:=⟨rfl,hM,λb o e=>J1 e,Nat.le_of_eq<|EG _ _,trivial,λb hb=>absurd (show b∈([]:B_ t_) from hb) (by simp),hok,.of_eq hg⟩
  refine codeAny_mono ((F _ Io<|vj zt).run callerA [] s₁ H ⟨[.ref a],[]⟩ [.ref a] [.ref a] _ _ hr e0 (uh s₁<|.ref a) (.cons rfl .nil)<|km H hO hS) λr s' h=>?_;cases r with
  |error e=>exact(yq H e s' h).elim
  |ok fl=>
   cases fl with
   |next=>exact WW h
   |brk=>exact WW h
   |cont=>exact WW h
   |ret u=>
    let⟨v,H',os,bare,un,zh,r',q⟩:=h;let q':v=.bl true:=q;subst q';obtain rfl:u=Value.bool true:=r';refine⟨rfl,OldK.of_keep λb o e=>?_,os,bare⟩;cases q:H b with
    |none=>exact un.keep b o e q (by intro z;show absurd (show b∈([]:B_ t_) from z) (by simp)) (by simp)
    |some u=>
     rcases hO b with z|⟨ob,xs,z⟩
     ·rw[q]at z;cases z
     ·let z2:=un.frzs b ob _ z;let⟨e1,_⟩:=hok b _ z;let⟨e2,_⟩:=zh b _ z2;rw[e]at e1;cases e1;show e2
 cases hk:K.lookup a with
 |some o=>
  -- the script is one of the module's own objects
  let e:=KX a o hk;rw[ha]at e;cases e
  refine core (λ_=>b_) (λ_=>.inl rfl) (.inr ⟨_,vs.toArray,_,hk,rfl,rfl,rfl,by rw[Va,yj];show hl,l_ rv⟩) (λb u z=>by let z':(b_:C_ HO)=a_ u:=z;cases z') (λb z=>absurd rfl z) λz=>absurd rfl z
 |none=>
  refine core (λb=>if b=a then a_ (.frz {cls:=.type "list",data:=.seq vs.toArray}<|.lst<|ZS 0) else b_) (λb=>?_) (.inl<|.inr ⟨{cls:=.type "list",data:=.seq vs.toArray},YX 0⟩) (λb u z=>?_) (λb z=>?_) λ_=>hk
  ·by_cases hb:b=a
   ·show .inr ⟨_,_,if_pos hb⟩
   ·show .inl (if_neg hb)
  ·by_cases hb:b=a
   ·let z':=(if_pos hb).symm.trans z;cases z'
    subst hb;show⟨ha,by rw[U5];show hl,vs,_,rv,ha⟩
   ·let z':=(if_neg hb).symm.trans z;cases z'
  ·by_cases hb:b=a
   ·show hb
   ·show absurd (if_neg hb) z
variable{XP:(o_ 0)->w_->Prop}{YP:x_->w_->Prop}{loose:Zg 0}{n:Nat}
def walk_of{l:PySem.W.OpenLaw}{k:Nat}{q:y_}{d:DefRec}{K:Params->UF}{CX:x_->CXT}{sp:x_->Sp}(hn:l.most=a_ n)(vh:n<=Ve)(uk:d.params.defaults=[])(hr:dX k callerA)(hY:∀(w:x_)(h:w_),YP w h->(K w.params).In h)(F:∀(w:x_)(mg:o_ 0)(fa:t_)(h:w_),(K w.params).In h->h.Ns We mg->mg d.name=c_ fa->
   ∃fd:WU,(∀(s:td)(u:s_),BindsTo s fd ⟨[u],[]⟩ [(x,u)])/\
    ∀base:w_,(K w.params).In base->base.Ns We mg->cL l.prog w (K w.params) mg base (CX w) k fa fd [x] (sp w))(km:∀(w:x_)(H:Hp)(a:t_)(ns:Z9 0),ns.length<=n->Gw H->SqL (K w.params) H a (ZS 0)->sp w [.ref a] H (λv _=>v=.bl true) λ_ _ _=>False)(yq:∀(w:x_)(H:Hp)(s:td)(e:s_)(s':td),CX w [] H s (λ_ _ _=>False) e s'->False):
  PySem.W.WalkO q loose XP YP l.row.toRowW d [] (λf vs=>PySem.call f vs):=by
 refine Att.attach_call hn uk λw s₀ s₁ mg mb fa o pm cd doc a vs ns G Y ho hd ik hmg mq hints hlen hg=>?_;let KX:=hY w _ Y;let⟨fd,hb,hF⟩:=F w mg fa _ KX G.T.g hmg;show Gx KX G.T.g G.T.b G.T.builtins G.T.nolimit hg mq hints (VS hlen vh) hr hF hb (λH hO hS=>km w H a ns hlen hO hS) λH e s'=>yq w H s₁ e s'
abbrev inClass(s:A_)(j:Nat):A_:=match s with
 |.ClassDef _ _ _ body _ _ _ _ _ _ _=>body.getD j (.Pass ⟨0,0,0,0⟩)
 |_=>.Pass ⟨0,0,0,0⟩
abbrev eC(s:A_):Arguments:=match s with
 |.FunctionDef _ a _ _ _ _ _ _ _ _=>a
 |_=>{ posonlyargs:=[],args:=[],vararg:=b_,kwonlyargs:=[],kw_defaults:=[],kwarg:=b_,defaults:=[]}
abbrev cH(s:A_):B_ A_:=match s with
 |.FunctionDef _ _ b _ _ _ _ _ _ _=>b
 |_=>[]
abbrev aU(s:A_):Scope:=match s with
 |.FunctionDef _ _ _ _ _ _ sc _ _ _=>sc
 |_=>{ kind:=.function,names:=[],isGenerator:=false,isCoroutine:=false}
@[reducible]def CX0:CXT:=λ_ _ _ _ _ _=>False
@[reducible]def E0:XK:=λ_ _ _=>False
variable{X:Cx}
def yI:oF CX0 X E0:=λ_ _ _ _ _ _ _ h=>h.elim
structure Fun(K:UF)(x qual:Str)(st:A_)(f:t_)(fd:WU):Prop where
 ex:∃(oc:s_)(od:C_ t_)(kV doc pm:s_)(an:C_ t_)(cdv ct:s_)(osl:n_ 0),
  fd=WS x qual (eC st) (cH st) (aU st) .none kV doc pm an cdv ct/\K.lookup f=some ⟨oc,od,.func fd,osl⟩/\YS K cdv qual=true
 kp:WZ K (.ref f)=true
variable{N ps:Zg 0}{base:w_}{qual:Str}{st:A_}
def Fun.ok{f:t_}{k:Nat}(F:Fun K x qual st f fd)(S:pL N ps (aU st))(len:∀vs H Q E,sp vs H Q E->vs.length=ps.length)(iz:∀(cdv:s_)(A:v_)(outer:B_ Env)(s:td)(H:Hp)(vs:B_ V)(Q:VK)(E:XK),dX k (A.deeper (envOfC qual (aU st) (e_ s) f cdv))->sp vs H Q E->
   ∃t,PSs (wX CX0 P w K mg base N qual (aU st) f cdv A outer s H E).nox (cH st) t/\t { nx:=λ_ H'=>Q .non H',rt:=Q} (start N vs) H):q0a CX0 (k+1) f fd ps sp:=by
 let⟨oc,od,kV,doc,pm,an,cdv,ct,osl,rfl,lk,ik⟩:=F.ex;refine Og lk ik S len λA outer s H vs Q E hr km=>?_;let⟨t,h,q⟩:=iz cdv A outer s H vs Q E hr km;show⟨t,h.nox,q⟩
def Fun.binds{f:t_}(F:Fun K x qual st f fd)(h:∀(kV doc pm:s_)(an:C_ t_)(cdv ct:s_)(us:ZQ 0),us.length=ps.length->bindArgs (WS x qual (eC st) (cH st) (aU st) .none kV doc pm an cdv ct) ⟨us,[]⟩=pure (ps.zip us)):Binds K fd ps []:=by let⟨oc,od,kV,doc,pm,an,cdv,ct,osl,rfl,lk,ik⟩:=F.ex;show .all<|h kV doc pm an cdv ct
variable{an od:C_ t_}{cdv ct doc pm:s_}{osl:n_ 0}
def Cu{f:t_}{oc:s_}{kV:s_}(l:K.lookup f=a_ ⟨oc,od,.func<|WS x qual (eC st) (cH st) (aU st) .none kV doc pm an cdv ct,osl⟩)(c:YS K cdv qual=true)(k:WZ K (.ref f)=true):Fun K x qual st f (WS x qual (eC st) (cH st) (aU st) .none kV doc pm an cdv ct):=⟨⟨oc,od,kV,doc,pm,an,cdv,ct,osl,rfl,l,c⟩,k⟩
variable{A:v_}
def Oq{k:Nat}(hr:dX k A):A.units+1<cLine:=Nat.lt_of_le_of_lt (Nat.add_le_add_left (by decide:1<=64) _) hr.units
variable{B:Prop}
def A2{A:Prop}(h:B):if false=true then A else B:=by rw[if_neg Vj];show h
def A3{A:Prop}(h:A):if true=true then A else B:=by rw[YX 0];show h
abbrev Cv(H H':Hp):Prop:=∀b o,H b=a_ o->H' b=a_ o
variable{u:s_}{y:V}
section
variable{κ:Type}[DecidableEq κ]
abbrev jK(kvs:B_ (κ×V))(k:κ):C_ V:=(kvs.find? λkv=>decide (kv.1=k)).map (·.2)
abbrev putK(kvs:B_ (κ×V))(k:κ)(v:V):B_ (κ×V):=if(kvs.any λkv=>decide (kv.1=k))=true then kvs.map (λkv=>if kv.1=k then(kv.1,v) else kv) else kvs++[(k,v)]
def pN{p:κ×V}{r:B_ (κ×V)}{k:κ}(e:p.1=k):jK (p::r) k=a_ p.2:=by simp[jK,W5,e]
def pO{p:κ×V}{r:B_ (κ×V)}{k:κ}(e:¬ p.1=k):jK (p::r) k=jK r k:=by simp[jK,W5,e]
def uJ(k:κ):∀kvs:B_ (κ×V),(kvs.any λkv=>decide (kv.1=k))=(jK kvs k).isSome
 |[]=>rfl
 |p::r=>by
  rw[Yr];by_cases e:p.1=k
  ·simp only[pN e,decide_eq_true e,Bool.true_or,YJ]
  ·rw[pO e,decide_eq_false e,Bool.false_or];show uJ k r
def fN(kvs:B_ (κ×V))(k:κ)(v:V):(putK kvs k v).length<=kvs.length+1:=by
 unfold putK;split
 ·rw[U5];omega
 ·rw[WL,VN,List.length_nil];omega
def lH.isSome_eq{o:C_ V}{u:C_ s_}(r:lH o u):o.isSome=u.isSome:=by
 cases o with
 |none=>cases u with
  |none=>rfl
  |some _=>exact(show False from r).elim
 |some _=>cases u with
  |none=>exact(show False from r).elim
  |some _=>rfl
def lH.getD{o:C_ V}{u:C_ s_}{d:V}{d':s_}(r:lH o u)(rd:RelV d d'):RelV (o.getD d) (u.getD d'):=by
 cases o with
 |none=>cases u with
  |none=>exact rd
  |some _=>exact(show False from r).elim
 |some _=>cases u with
  |none=>exact(show False from r).elim
  |some _=>exact r
def KV.val{kvs:B_ (κ×V)}{vs:B_ (κ×s_)}(r:KV kvs vs)(k:κ):lH (jK kvs k) (valueAt vs k):=by
 unfold KV at r
 induction r with
 |nil=>exact Wp
 | @cons p q ps qs h t ih=>
  let⟨h1,h2⟩:=h;by_cases e:p.1=k
  ·let e':q.1=k:=h1.symm.trans e;let b:valueAt (q::qs) k=a_ q.2:=by simp[valueAt,W5,e']
   rw[pN e,b];show h2
  ·let e':¬ q.1=k:=λz=>e<|h1.trans z;let b:valueAt (q::qs) k=valueAt qs k:=by simp[valueAt,W5,e']
   rw[pO e,b];show ih
def KV.any{kvs:B_ (κ×V)}{vs:B_ (κ×s_)}(r:KV kvs vs)(k:κ):(kvs.any λkv=>decide (kv.1=k))=vs.any λkv=>decide (kv.1=k):=by
 unfold KV at r
 induction r with
 |nil=>rfl
 |cons h t ih=>rw[Yr,Yr,ih,h.1]
def KV.repl{kvs:B_ (κ×V)}{vs:B_ (κ×s_)}(r:KV kvs vs)(k:κ)(ry:RelV y u):
  KV (kvs.map λkv=>if kv.1=k then(kv.1,y) else kv) (vs.map λkv=>if kv.1=k then(kv.1,u) else kv):=by
 unfold KV at r⊢
 induction r with
 |nil=>exact .nil
 | @cons p q ps qs h t ih=>
  rw[Vi,Vi];refine .cons ?_ ih;let⟨h1,h2⟩:=h;by_cases e:p.1=k
  ·rw[Z_ 0,if_pos<|h1.symm.trans e];show⟨h1,ry⟩
  ·rw[Zs 0,if_neg<|λz=>e<|h1.trans z];show⟨h1,h2⟩
def KV.put{kvs:B_ (κ×V)}{vs:B_ (κ×s_)}(r:KV kvs vs)(k:κ)(ry:RelV y u):KV (putK kvs k y) (stored vs k u):=by
 unfold putK stored;rw[r.any k];by_cases e:(vs.any λkv=>decide (kv.1=k))=true
 ·rw[Z_ 0,Z_ 0];show r.repl k ry
 ·rw[Zs 0,Zs 0];show Paired.snoc r ⟨rfl,ry⟩
def KV.length{kvs:B_ (κ×V)}{vs:B_ (κ×s_)}(r:KV kvs vs):kvs.length=vs.length:=VX r
end
def nW{k:Key}(r:RelV (kV k) u):(aZ P w).is k u=true:=by
 cases k with
 |inl i=>let⟨t,e⟩:=(show ∃t,u=Wt i t from r);subst e;show AW P w i t
 |inr x=>let⟨t,e⟩:=(show ∃t,u=Value.str x t from r);subst e;show sE P w x t
def yJ{P:y_}{w:x_}:∀{ks:Zt 0}{us:ZQ 0},aJ (ks.map kV) us->ItemsAre (aZ P w) ks us
 |[],_,r=>by rw[List.map_nil]at r;cases r;show .nil
 |k::ks,_,r=>by
  rw[Vi]at r;cases r with
  |cons h t=>exact .cons (nW h)<|yJ t
@[reducible]def KT(H:Hp):B_ (Zt 0×V)->B_ (Zt 0×t_×s_)->Prop:=Paired λp q=>p.1=q.1/\H q.2.1=a_ (.tup<|p.1.map kV)/\RelV p.2 q.2.2
variable{H:Hp}
def KT.val{kvs:B_ (Zt 0×V)}{xs:B_ (Zt 0×t_×s_)}(r:KT H kvs xs)(k:Zt 0):lH (jK kvs k) ((atKey xs k).map (·.2)):=by
 induction r with
 |nil=>exact Wp
 | @cons p q ps qs h t ih=>
  let⟨h1,_,h2⟩:=h;by_cases e:p.1=k
  ·let e':q.1=k:=h1.symm.trans e;let b:atKey (q::qs) k=a_ q.2:=by simp[atKey,W5,e']
   rw[pN e,b];show h2
  ·let e':¬ q.1=k:=λz=>e<|h1.trans z;let b:atKey (q::qs) k=atKey qs k:=by simp[atKey,W5,e']
   rw[pO e,b];show ih
def KT.repl{kvs:B_ (Zt 0×V)}{xs:B_ (Zt 0×t_×s_)}(r:KT H kvs xs)(k:Zt 0)(ry:RelV y u):
  KT H (kvs.map λkv=>if kv.1=k then(kv.1,y) else kv) (xs.map<|putAt k u):=by
 induction r with
 |nil=>exact .nil
 | @cons p q ps qs h t ih=>
  rw[Vi,Vi];refine .cons ?_ ih;let⟨h1,h2,h3⟩:=h;unfold putAt;by_cases e:p.1=k
  ·rw[Z_ 0,if_pos<|h1.symm.trans e];show⟨h1,h2,ry⟩
  ·rw[Zs 0,if_neg<|λz=>e<|h1.trans z];show⟨h1,h2,h3⟩
def KT.put{kvs:B_ (Zt 0×V)}{xs:B_ (Zt 0×t_×s_)}(r:KT H kvs xs)(k:Zt 0){b:t_}(hb:H b=a_ (.tup<|k.map kV))(ry:RelV y u):
  KT H (putK kvs k y) (storedH xs k b u):=by
 let e:(kvs.any λkv=>decide (kv.1=k))=(atKey xs k).isSome:=by rw[uJ,(r.val k).isSome_eq,Option.isSome_map]
 unfold putK storedH;rw[e];by_cases q:(atKey xs k).isSome=true
 ·rw[if_pos q,if_pos q];show r.repl k ry
 ·rw[if_neg q,if_neg q];show Paired.snoc r ⟨rfl,hb,ry⟩
variable{H':Hp}
def KT.keeps{kvs:B_ (Zt 0×V)}{xs:B_ (Zt 0×t_×s_)}(r:KT H kvs xs)(ht:∀b ys,H b=a_ (.tup ys)->H' b=a_ (.tup ys)):KT H' kvs xs:=Paired.mapP r λ_ _ z=>⟨z.1,ht _ _ z.2.1,z.2.2⟩
def L'{h:w_}{u:HO}(ok:q0d h)(e:Rd H a u):bT P w H h a u:=e.ok ok
def sJ{h:w_}{kvs:B_ (Key×V)}(ok:q0d h)(e:Rd H a (.dK kvs)):kvs.length<=Ve/\(a == Wi)=false/\∃vs,KV kvs vs/\h.DictOf (aZ P w) a vs:=show bT P w H h a (.dK kvs) from L' ok e
def uK{h:w_}{kvs:B_ (Key×V)}(ok:q0d h)(e:H a=a_ (.dK kvs)):kvs.length<=Ve/\(a == Wi)=false/\∃vs,KV kvs vs/\h.DictOf (aZ P w) a vs:=sJ ok<|.inl e
def qU{h:w_}{ks:Zt 0}(ok:q0d h)(e:H a=a_ (.tup<|ks.map kV)):(tupleKind<|aZ P w).is h ks a:=by
 let⟨_,its,r,o,h1,h2,⟨n,h3⟩,_⟩:=(show bT P w H h a (.tup<|ks.map kV) from ok a _ e)
 show⟨o,its.toArray,n,h1,h2,h3,by simpa using yJ r⟩
def yK{h:w_}{kvs:B_ (Zt 0×V)}(ok:q0d h)(e:Rd H a (.dT kvs)):kvs.length<=Ve/\(a == Wi)=false/\
  ∃xs,KT H kvs xs/\h.DictOfH (tupleKind<|aZ P w) a xs:=by
 let⟨z,y,xs,r,o,es,ep,h1,h2,h3,h4,h5⟩:=(show bT P w H h a (.dT kvs) from L' ok e)
 refine⟨z,y,xs,r,o,es,ep,h1,h2,h3,h4,λx hx=>?_,h5⟩;let all:∀{l:B_ (Zt 0×V)}{m:B_ (Zt 0×t_×s_)},KT H l m->∀x∈m,(tupleKind<|aZ P w).is h x.1 x.2.1:=by
  intro l m q
  induction q with
  |nil=>intro x hx;show nomatch hx
  | @cons p q ps qs hq t ih=>
   intro x hx;rcases U9.mp hx with e|hx
   ·subst e;show qU ok (by rw[<-hq.1];show hq.2.1)
   ·show ih x hx
 show all r x hx
def Os{h:w_}{kvs:B_ (Zt 0×V)}(ok:q0d h)(e:H a=a_ (.dT kvs)):kvs.length<=Ve/\(a == Wi)=false/\
  ∃xs,KT H kvs xs/\h.DictOfH (tupleKind<|aZ P w) a xs:=yK ok<|.inl e
abbrev pP(H:Hp)(a:t_)(y:V)(r:C_ V):Prop:=(∃kvs k,Rd H a (.dK kvs)/\y=kV k/\r=jK kvs k)\/∃kvs k b,Rd H a (.dT kvs)/\y=.ref b/\H b=a_ (.tup<|k.map kV)/\r=jK kvs k
abbrev M7(H:Hp)(a:t_)(y v:V)(H':Hp):Prop:=
 (∃kvs k,H a=a_ (.dK kvs)/\y=kV k/\kvs.length<Ve/\H'=R_ a (.dK<|putK kvs k v))\/
 ∃kvs k b,H a=a_ (.dT kvs)/\y=.ref b/\H b=a_ (.tup<|k.map kV)/\kvs.length<Ve/\H'=R_ a (.dT<|putK kvs k v)
def pP.k{H:Hp}{a:t_}{kvs:B_ (Key×V)}{k:Key}(e:H a=a_ (.dK kvs)):pP H a (kV k) (jK kvs k):=.inl ⟨kvs,k,.inl e,rfl,rfl⟩
def M7.k{H:Hp}{a:t_}{kvs:B_ (Key×V)}{k:Key}{v:V}(e:H a=a_ (.dK kvs))(hl:kvs.length<Ve):M7 H a (kV k) v (R_ a<|.dK<|putK kvs k v):=.inl ⟨kvs,k,e,rfl,hl,rfl⟩
variable{jn:g_ 0}{s:td}{E Q:f_ 0}{v:V}{h':w_}{t':Nat}
section
variable{σ:St}{r:s_}{o:C_ V}
def Inv.big(I:P1 s):Wi<(e_ s):=by let h:We<(e_ s):=(I.mod.glob.keeps I.bk).lt;show YG nofun h
def EV(hu:A.units+1<cLine)(I:P1 s)(g:pP H a y (a_ v))(ry:RelV y u)(h:∀w' s',P1 s'->ZJ w'->Q w' s'):
  wpAny (h_ X) A (getItem (.ref a) u) Q E s:=by
 rcases g with⟨kvs,k,e,ey,l⟩|⟨kvs,k,b,e,ey,eb,l⟩
 ·subst ey;let⟨z,hd,vs,rel,dd⟩:=sJ I.hok e;let⟨w',hw,cx⟩:=lH.some_of (v:=v) (o:=valueAt vs k) (by rw[l];show rel.val k);show wpAny_getItem_of (nW ry) dd.mapOf hw<|h w' _ (Z3 0) cx
 ·subst ey;cases(show u=Vu b from ry)
  let⟨z,hd,xs,rel,dd⟩:=yK I.hok e;let⟨w',hw,cx⟩:=lH.some_of (v:=v) (o:=(atKey xs k).map (·.2)) (by rw[l];show rel.val k);let⟨p,hp,rn⟩:=Vr.mp hw;refine wpAny_getItem_heap (Yj hu) (qU I.hok eb) dd hp ?_;rw[rn];show h w' _ (Z3 0) cx
def QW(hu:A.units+1<cLine)(I:P1 s)(g:pP H a y o)(ry:RelV y u)(h:∀s',P1 s'->Q (.bool o.isSome) s'):
  wpAny (h_ X) A (VG .In u<|.ref a) Q E s:=by
 rcases g with⟨kvs,k,e,ey,l⟩|⟨kvs,k,b,e,ey,eb,l⟩
 ·subst ey;let⟨z,hd,vs,rel,dd⟩:=sJ I.hok e;refine wpAny_in_of (nW ry) hd dd.mapOf ?_;rw[<-(rel.val k).isSome_eq,<-l];show h _<|Z3 0
 ·subst ey;cases(show u=Vu b from ry)
  let⟨z,hd,xs,rel,dd⟩:=yK I.hok e;refine wpAny_in_heap (Yj hu) (qU I.hok eb) hd dd ?_;let q:=(rel.val k).isSome_eq;rw[Option.isSome_map]at q;rw[<-q,<-l];show h _<|Z3 0
def Jp(hu:A.units+1<cLine)(I:P1 s)(g:pP H a y o)(ry:RelV y u)(h:∀s',P1 s'->Q (.bool<|!o.isSome) s'):
  wpAny (h_ X) A (VG .NotIn u<|.ref a) Q E s:=by
 rcases g with⟨kvs,k,e,ey,l⟩|⟨kvs,k,b,e,ey,eb,l⟩
 ·subst ey;let⟨z,hd,vs,rel,dd⟩:=sJ I.hok e;refine wpAny_notIn_of (nW ry) hd dd.mapOf ?_;rw[<-(rel.val k).isSome_eq,<-l];show h _<|Z3 0
 ·subst ey;cases(show u=Vu b from ry)
  let⟨z,hd,xs,rel,dd⟩:=yK I.hok e;refine wpAny_notIn_heap (Yj hu) (qU I.hok eb) hd dd ?_;let q:=(rel.val k).isSome_eq;rw[Option.isSome_map]at q;rw[<-q,<-l];show h _<|Z3 0
def pQ{ob:HO}(I:P1 s)(mu:Mut (H a))(hs:WD a s.heap h')(he:∃q,h'.get? a=a_ q)(new:Zl (R_ a ob) h' a ob):
  i_ (R_ a ob) {s with heap:=h',toks:=t'}:=
 I.write (x:=a) (e:=a) mu (.inl rfl) (λb q hb z=>(hs.2 b hb).trans z) he new
def uL{kvs:B_ (Key×V)}{vs:B_ (Key×s_)}(z:kvs.length<=Ve)(hd:(a == Wi)=false)(rel:KV kvs vs)(dd:h'.DictOf (aZ P w) a vs):
  bT P w H' h' a (.dK kvs):=⟨z,hd,vs,rel,dd⟩
def EW{Q:j_ Unit}(hu:A.units+1<cLine)(I:P1 s)(g:M7 H a y v H')(ry:RelV y u)(rv:ZJ r)(h:∀s',i_ H' s'->Q () s'):
  wpAny (h_ X) A (setItem (.ref a) u r) Q E s:=by
 rcases g with⟨kvs,k,e,ey,l,eH⟩|⟨kvs,k,b,e,ey,eb,l,eH⟩
 ·subst ey eH;let⟨z,hd,vs,rel,dd⟩:=uK I.hok e;let hz:vs.length<=Ve:=by rw[<-rel.length];show z
  let hl:(putK kvs k v).length<=Ve:=by have:=fN kvs k v;omega
  refine wpAny_setItem_pairs (hsz:=hz) (nW ry) dd λh' gq hs=>h _ ?_;let he:∃q,h'.get? a=a_ q:=let ⟨q,_,_,hq,_⟩:=gq;⟨q,hq⟩;show pQ I (by rw[e];show Wp) hs he<|uL hl hd (rel.put k rv) gq
 ·subst ey eH;cases(show u=Vu b from ry)
  let⟨z,hd,xs,rel,dd⟩:=Os I.hok e;let hz:xs.length<=Ve:=by rw[<-VX rel];show z
  let hl:(putK kvs k v).length<=Ve:=by have:=fN kvs k v;omega
  refine wpAny_setItem_heap (hsz:=hz) (Yj hu) (qU I.hok eb) dd λh' gq hs=>h _ ?_;let⟨q,es,ep,hq,h2,h3,h4,_,h5⟩:=gq;refine pQ I (by rw[e];show Wp) hs ⟨q,hq⟩ ⟨hl,hd,_,(rel.put k eb rv).keeps λc ys ec=>?_,q,es,ep,hq,h2,h3,h4,h5⟩;rw[aH<|O0 ec e<|λz=>Zq 0];show ec
end
section
variable{σ:St}{kvs:B_ (Key×V)}{k:Key}
def Ot(I:P1 s)(e:Rd H a (.dK kvs))(h:∀t s',P1 s'->Q (.int kvs.length t) s'):wpAny (h_ X) A (call (.builtin "len") [.ref a]) Q E s:=by let⟨z,hd,vs,rel,dd⟩:=sJ I.hok e;refine call_len_dict hd dd (by rw[<-rel.length];rw[VQ]at z;omega) ?_;rw[<-rel.length];show h _ _<|Z3 0
end
def B8{σ:St}{o:C_ V}(I:P1 s)(g:pP H a y o):s.TypeIs (.ref a) "dict" := by
 rcases g with⟨kvs,k,e,_,_⟩|⟨kvs,k,b,e,_,_,_⟩
 ·let⟨_,_,vs,_,dd⟩:=sJ I.hok e;show dd.typeIs
 ·let⟨_,_,xs,_,dd⟩:=yK I.hok e;show dd.typeIs
def B9(h:w_)(hb:Wi<h.objs.size):bT P w H (h.push {cls:=.type "dict",data:=.dict #[]}) h.objs.size (.dK []):=⟨Vw _,beq_eq_false_iff_ne.mpr<|Wx<|Vh hb,[],.nil,Heap.DictOf.new h⟩
abbrev M8:TE:=λ_ H Q=>∀p,H p=b_->Q (.ref p) (R_ p<|.dK [])
variable{pos:Pos}
def Gy:Zy (.Dict [] [] pos) M8:=λjn s σ H Q I h=>wpAny_Dict_empty ⟨.ref<|e_ s,_,I.laid (a:=(e_ s)) (o:=.dK []) (t':=s.toks) (λ_ _ q=>Zp q) (U6 _)<|B9 s.heap I.big,rfl,h _<|I.hok.fresh<|U6 _⟩
abbrev qV(kvs more:B_ (Key×V)):B_ (Key×V):=more.foldl (λacc kv=>putK acc kv.1 kv.2) kvs
def KV.merge:∀{more:B_ (Key×V)}{rs:B_ (Key×s_)}{kvs:B_ (Key×V)}{vs:B_ (Key×s_)},KV more rs->KV kvs vs->KV (qV kvs more) (merged vs rs):=by
 intro more rs kvs vs r;unfold KV at r
 induction r generalizing kvs vs with
 |nil=>intro q;show q
 | @cons p q ps qs h t ih=>
  intro r0;let e:KV (putK kvs p.1 p.2) (stored vs q.1 q.2):=by have:=r0.put p.1 h.2;rw[<-h.1];show this
  show ih e
def nX:∀(more kvs:B_ (Key×V)),(qV kvs more).length<=kvs.length+more.length
 |[],kvs=>by change kvs.length<=kvs.length+0;omega
 |p::r,kvs=>by
  let h1:=nX r<|putK kvs p.1 p.2;let h2:=fN kvs p.1 p.2
  change(qV (putK kvs p.1 p.2) r).length<=_
  rw[VN];omega
section
variable{σ:St}{d:V}{r:s_}{o:C_ V}
def M9(hu:A.units+1<cLine)(I:P1 s)(g:pP H a y o)(ry:RelV y u)(rd:RelV d r)(h:∀w' s',P1 s'->RelV (o.getD d) w'->Q w' s'):
  wpAny (h_ X) A (call (.builtin "dict.get") [.ref a,u,r]) Q E s:=by
 rcases g with⟨kvs,k,e,ey,l⟩|⟨kvs,k,b,e,ey,eb,l⟩
 ·subst ey;let⟨z,hd,vs,rel,dd⟩:=sJ I.hok e;refine call_meetsIn Xx dd.typeIs PySem.F.entry_dict_get (PySem.F.args_dict_get_3 _ _ _) (meets_dict_get_default (aZ X.prog X.w) a (nW ry) hd r) ⟨_,dd.mapOf,h _ _ (Z3 0) ?_⟩;rw[l];show(rel.val k).getD rd
 ·subst ey;cases(show u=Vu b from ry)
  let⟨z,hd,xs,rel,dd⟩:=yK I.hok e;refine call_meetsIn Xx dd.typeIs PySem.F.entry_dict_get (PySem.F.args_dict_get_3 _ _ _) (meetsH_dict_get_default (tupleKind<|aZ X.prog X.w) a b hd r) ⟨Yj hu,k,xs,qU I.hok eb,dd,h _ _ (Z3 0) ?_⟩;rw[l];show(rel.val k).getD rd
end
section
variable{σ:St}{kvs:B_ (Key×V)}
def Gz(I:P1 s)(e:Rd H a (.dK kvs))(h:∀p s',H p=b_->i_ (R_ p<|.dK kvs) s'->Q (.ref p) s'):wpAny (h_ X) A (call (.type "dict") [.ref a]) Q E s:=by let⟨z,hd,vs,rel,dd⟩:=sJ I.hok e;refine kt_call_dict hd dd (by rw[<-rel.length];show z) λh' gq hs=>?_;refine h _ _ (I.hok.fresh<|U6 _)<|I.laid (a:=(e_ s)) (o:=.dK kvs) (t':=s.toks) (λb q hq=>?_) (U6 _)<|uL z (beq_eq_false_iff_ne.mpr<|Wx<|Vh I.big) rel gq;show(hs.2 b<|Vh<|Vd hq).trans (Zp hq)
end
def EX:cO X (.builtin "len") (λxs H Q=>∃a kvs,xs=[V.ref a]/\H a=a_ (.dK kvs)/\Q (.int kvs.length) H):=by
 intro jn s σ H xs us Q I r h;let⟨a,kvs,rfl,ha,q⟩:=h;let⟨u,rfl,ru⟩:=vals1 r;cases ru
 show Ot I (.inl ha) λt s' I'=>⟨.int kvs.length,H,I',⟨t,rfl⟩,q⟩
abbrev DS(ifs:B_ z_)(env:Env):Sem Bool:=forIn ifs true λc r=>if r=true then do let ok <-isTrue c env (eval c env);pure (ForInStep.yield ok) else pure (ForInStep.yield r)
variable{R:j_ Result}{env:Env}{ifs:B_ z_}{iter:z_}{prog:y_}{scope:Scope}
def A4{elt target:z_}{it acc:s_}(I:j_ Nat)(turn:∀n s,I n s->k_ (pyNext it) (λr s₁=>match r with
   |none=>R (.ok .next) s₁
   | some v=>k_ (letOwnedTupleGo target it v) (fun _ RZ=>k_ (assign target env v) (fun _ s₂=>
     k_ (DS ifs env) (λok s₃=>
      if ok=true then m_ prog w A (eval elt env) (λx s₄=>k_ (call (.builtin "list.append") [acc,x]) (λ_ s₅=>∃m,m<n/\I m s₅) (λ_ _=>False) s₄) (λ_ _=>False) s₃
      else ∃m,m<n/\I m s₃) (λ_ _=>False) s₂) (λ_ _=>False) RZ) (λ_ _=>False) s₁) (λ_ _=>False) s)(n:Nat)(h:I n s):
  codeAny (Z8 0) A (.compLoop (.ListComp elt [⟨target,iter,ifs,0⟩] scope pos) 0 it acc env) R s:=by
 refine codeAny_loop rfl I (λn s hI=>?_) n h
 show wpAny _ A ((compTurn (.ListComp elt [⟨target,iter,ifs,0⟩] scope pos) 0 it acc env).onRaise (λx=>do noteFrame x env;theTreesLotGoes x)) _ _ s
 refine wpAny_noted ?_;rw[compTurn_list];refine SB<|wpAny_standAt<|SB<|WE (turn n s hI) (λr s₁ h₁=>?_) λ_ _ h'=>h'.elim;cases r with
 |none=>exact SL h₁
 |some v=>
  refine SB<|WE h₁ (λ_ RZ T7=>?_) λ_ _ h'=>h'.elim;refine SB<|WE T7 (λ_ s₂ h₂=>SB<|WE h₂ (λok s₃ h₃=>?_) λ_ _ h'=>h'.elim) λ_ _ h'=>h'.elim;cases ok with
  |false=>exact SL ⟨rfl,h₃⟩
  |true=>exact SB<|SB<|WE h₃ (λx s₄ h₄=>SB (WE h₄ (λ_ s₅ h₅=>SL (SL ⟨rfl,h₅⟩)) λ_ _ h'=>h'.elim)) λ_ _ h'=>h'.elim
abbrev iE(cells:B_ (Str×t_)):B_ (Str×Yi)->B_ (Str×t_)->B_ (Str×t_)
 |[],cs=>cs
 |(n,k)::r,cs=>iE cells r (if(k == VY)=true then(n,(cells.lookup n).getD 0)::cs else cs)
def xH(h:∀y∈scope.names,y.2=VY->∃c,env.cells.lookup y.1=a_ c):closureFor scope env=pure (iE env.cells scope.names []):=by
 have go:∀(names:B_ (Str×Yi))(cs:B_ (Str×t_)),(∀y∈names,y.2=VY->∃c,env.cells.lookup y.1=a_ c)->
   (forIn names cs λ(x:Str×Yi)(r:B_ (Str×t_))=>match x with
    |(name,kind)=>if(kind == VY)=true then(do let y <-cellOf env name;pure (ForInStep.yield ((name,y)::r))) else(pure (ForInStep.yield r):Sem _))=(pure (iE env.cells names cs):Sem _):=by
  intro names
  induction names with
  |nil=>intro cs _;rfl
  |cons y r ih=>
   intro cs hy
   let⟨n,k⟩:=y
   rw[List.forIn_cons]
   have RQ:=λS'=>ih S' λy hm=>hy y<|U8 _ hm
   by_cases hk:(k == VY)=true
   ·let⟨c,hc⟩:=hy (n,k) UV (l_ hk)
    have e1:cellOf env n=pure c:=by unfold cellOf;rw[show env.cells.lookup n=a_ c from hc]
    have e2:iE env.cells ((n,k)::r) cs=iE env.cells r ((n,c)::cs):=by
     show iE env.cells r (if(k == VY)=true then _ else _)=_
     rw[if_pos hk,show env.cells.lookup n=a_ c from hc];rfl
    rw[e2,<-RQ ((n,c)::cs)]
    simp only[hk,if_true,e1,pure_bind]
   ·have e2:iE env.cells ((n,k)::r) cs=iE env.cells r cs:=by
     show iE env.cells r (if(k == VY)=true then _ else _)=_
     rw[if_neg hk]
    rw[e2,<-RQ cs]
    simp only[hk,if_false,pure_bind]
    try rfl
 have:=go scope.names [] h
 unfold closureFor
 simpa using this
def sL{cells:B_ (Str×t_)}{x:Str}{c:t_}:∀(names:B_ (Str×Yi))(cs:B_ (Str×t_)),(iE cells names cs).lookup x=a_ c->cs.lookup x=a_ c\/(∃y∈names,y.1=x/\y.2=VY/\c=(cells.lookup x).getD 0)
 |[],_,h=>.inl h
 |(n,k)::r,cs,h=>by
  rcases sL r _ h with h1|⟨y,hy,e⟩
  ·by_cases hk:(k == VY)=true
   ·rw[if_pos hk]at h1;by_cases hx:x=n
    ·subst hx;simp only[VF,beq_self_eq_true]at h1;show .inr ⟨(x,k),UV,rfl,l_ hk,(Vv h1).symm⟩
    ·have:(x == n)=false:=by simpa using hx
     simp only[VF,this]at h1;show .inl h1
   ·rw[if_neg hk]at h1;show .inl h1
  ·show .inr ⟨y,U8 _ hy,e⟩
def uM{cells:B_ (Str×t_)}{x:Str}:∀(names:B_ (Str×Yi))(cs:B_ (Str×t_)),((∃c,cs.lookup x=a_ c)\/∃y∈names,y.1=x/\y.2=VY)->∃c,(iE cells names cs).lookup x=a_ c
 |[],_,h=>by
  rcases h with h|⟨y,hy,_⟩
  ·show h
  ·cases hy
 |(n,k)::r,cs,h=>by
  refine uM r _ ?_;rcases h with⟨c,h⟩|⟨y,hy,e1,e2⟩
  ·left;by_cases hk:(k == VY)=true
   ·rw[if_pos hk];by_cases hx:x=n
    ·subst hx;simp[VF]
    ·have:(x == n)=false:=by simpa using hx
     show⟨c,by simp only[VF,this];show h⟩
   ·rw[if_neg hk];show⟨c,h⟩
  ·rcases U9.mp hy with rfl|hy
   ·left;let hk:(k == VY)=true:=by simpa using e2
    rw[if_pos hk];let hx:n=x:=e1;subst hx;simp[VF]
   ·show .inr ⟨y,hy,e1,e2⟩
abbrev kA(os:Scope)(oN:Zg 0)(sc:Scope)(N:Zg 0)(js:B_ (C_ Nat)):Bool:=
 (match sc.kind with|.function=>true|_=>false)&&sc.names.all (λy=>match y.2 with
  |.cell=>(match sc.names.lookup y.1 with|some .cell=>true|_=>false)
  |_=>true) &&
 sc.names.all (λy=>match y.2 with
  |.local=>(match sc.names.lookup y.1 with|some .local=>true|_=>false)
  |.free=>(match sc.names.lookup y.1,os.names.lookup y.1 with|some .free,a_ .cell=>true|some .free,a_ .free=>true|_,_=>false)
  |_=>true) &&
 js.length == N.length&&(js.zip N).all (λp=>match p.1 with
  |none=>true
  |some j=>(match oN[j]? with|some x=>decide (x=p.2)|none=>false)&&(match sc.names.lookup p.2 with|some .free=>true|_=>false))
structure Mb(os:Scope)(oN:B_ Str)(sc:Scope)(N:B_ Str)(js:B_ (C_ Nat)):Prop where
 kind:sc.kind=.function
 own:∀y∈sc.names,y.2=.cell->sc.names.lookup y.1=some .cell
 nm:∀y∈sc.names,y.2=.local->sc.names.lookup y.1=some .local
 fr:∀y∈sc.names,y.2=.free->os.names.lookup y.1=some .cell\/os.names.lookup y.1=some .free
 len:js.length=N.length
 cap:∀(i j:Nat),js[i]?=some (some j)->∃x,N[i]?=some x/\oN[j]?=some x/\sc.names.lookup x=some .free
variable{js:B_ (C_ Nat)}{oN:Zg 0}{os sc:Scope}
def EY(h:kA os oN sc N js=true):Mb os oN sc N js:=by
 unfold kA at h;simp only[VE]at h;let⟨⟨⟨⟨h1,h2⟩,h3⟩,h4⟩,h5⟩:=h;refine⟨?_,λy hy e=>?_,λy hy e=>?_,λy hy e=>?_,l_ h4,λi j e=>?_⟩
 ·cases hk:sc.kind <;> rw[hk]at h1 <;> first|rfl|exact absurd h1 Vj
 ·have:=Vy.mp h2 y hy;rw[e]at this;dsimp only at this;cases hl:sc.names.lookup y.1 with
  |none=>rw[hl]at this;show absurd this Vj
  |some k=>cases k <;> rw[hl]at this <;> first|rfl|exact absurd this Vj
 ·have:=Vy.mp h3 y hy;rw[e]at this;dsimp only at this;cases hl:sc.names.lookup y.1 with
  |none=>rw[hl]at this;show absurd this Vj
  |some k=>cases k <;> rw[hl]at this <;> first|rfl|exact absurd this Vj
 ·have:=Vy.mp h3 y hy;rw[e]at this;dsimp only at this;cases hl:sc.names.lookup y.1 with
  |none=>rw[hl]at this;show absurd this Vj
  |some k=>
   rw[hl]at this;cases ho:os.names.lookup y.1 with
   |none=>rw[ho]at this;cases k <;> exact absurd this Vj
   |some k'=>rw[ho]at this;cases k <;> cases k' <;> first|exact .inl rfl|exact .inr rfl|exact absurd this Vj
 ·let hlen:js.length=N.length:=by simpa using h4
  let⟨hi,ej⟩:=SC.mp e;let hN:i<N.length:=⋯;let hz:(js.zip N)[i]?=a_ (a_ j,N[i]):=by rw[List.getElem?_zip_eq_some];show⟨e,by simp[hN]⟩
  have:=Vy.mp h5 _<|VI hz;simp only[VE]at this;let⟨t1,t2⟩:=this;refine⟨N[i],by simp[hN],?_,?_⟩
  ·cases ho:oN[j]? with
   |none=>rw[ho]at t1;show absurd t1 Vj
   |some x=>rw[ho]at t1;rw[of_decide_eq_true t1]
  ·cases hl:sc.names.lookup N[i] with
   |none=>rw[hl]at t2;show absurd t2 Vj
   |some k=>rw[hl]at t2;cases k <;> first|rfl|exact absurd t2 Vj
def cT{κ:Type}{x:Str}{k:κ}:∀{l:B_ (Str×κ)},l.lookup x=a_ k->(x,k)∈l
 |[],h=>by simp at h
 |(n,v)::r,h=>by
  by_cases hx:x=n
  ·subst hx;simp only[VF,beq_self_eq_true]at h;cases h
   show UV
  ·have:(x == n)=false:=by simpa using hx
   simp only[VF,this]at h;show U8 _<|cT h
def lM{sc:Scope}{env:Env}:∀{names:B_ (Str×Yi)}{x:Str}{k:Yi},(names.map λ(n,k)=>if(k == VY&&env.scope.kind == .function&&env.kindOf n == a_ .cell) then(n,YK) else(n,k)).lookup x=a_ k->
  names.lookup x=a_ k\/(k=.cell/\names.lookup x=a_ .free)
 |[],_,_,h=>by simp at h
 |(n,q)::r,x,k,h=>by
  let ih:=@lM sc env r x k;by_cases hc:(q == VY&&env.scope.kind == .function&&env.kindOf n == a_ .cell)=true
  ·simp only[Vi]at h;rw[if_pos hc]at h;let hq:q=.free:=by simp only[VE]at hc;simpa using hc.1.1
   by_cases hx:x=n
   ·subst hx;simp only[VF,beq_self_eq_true]at h⊢;show .inr ⟨(Vv h).symm,by rw[hq]⟩
   ·let e:(x == n)=false:=by simpa using hx
    simp only[VF,e]at h⊢;show ih h
  ·simp only[Vi]at h;rw[if_neg hc]at h;by_cases hx:x=n
   ·subst hx;simp only[VF,beq_self_eq_true]at h⊢;show .inl h
   ·let e:(x == n)=false:=by simpa using hx
    simp only[VF,e]at h⊢;show ih h
def pR{env:Env}:∀{names:B_ (Str×Yi)}{x:Str},names.lookup x=a_ .free->
  (names.map λ(n,k)=>if(k == VY&&env.scope.kind == .function&&env.kindOf n == a_ .cell) then(n,YK) else(n,k)).lookup x=a_ .free\/
  (names.map λ(n,k)=>if(k == VY&&env.scope.kind == .function&&env.kindOf n == a_ .cell) then(n,YK) else(n,k)).lookup x=a_ .cell
 |[],_,h=>by simp at h
 |(n,q)::r,x,h=>by
  let ih:=@pR env r x;by_cases hc:(q == VY&&env.scope.kind == .function&&env.kindOf n == a_ .cell)=true
  ·simp only[Vi];rw[if_pos hc];by_cases hx:x=n
   ·subst hx;simp only[VF,beq_self_eq_true]
    first|exact .inr rfl|exact .inr trivial
   ·let e:(x == n)=false:=by simpa using hx
    simp only[VF,e]at h⊢;show ih h
  ·simp only[Vi];rw[if_neg hc];by_cases hx:x=n
   ·subst hx;simp only[VF,beq_self_eq_true]at h⊢;show .inl h
   ·let e:(x == n)=false:=by simpa using hx
    simp only[VF,e]at h⊢;show ih h
def bC:∀(names:B_ (Str×Yi))(n:Nat)(acc:B_ (Str×t_)),V6 n names acc=V6 n names []++acc
 |[],_,_=>rfl
 |(x,k)::r,n,acc=>by
  unfold V6;split
  ·rw[bC r _ ((x,n)::acc),bC r _ [(x,n)],XS];rfl
  ·show bC r n acc
set_option tactic.hygienic true in
def kB{x:Str}{c:t_}:∀{names:B_ (Str×Yi)}{n:Nat},(x,c)∈V6 n names []->(x,YK)∈names
 |[],_,h=>by cases h
 |(y,k)::r,n,h=>by
  unfold V6 at h;split at h
  ·rename_i hk;rw[bC,Vx]at h;rcases h with h|h
   ·show U8 _ (kB h)
   ·let e:=Vc.mp h;let ex:x=y:=congrArg Prod.fst e;let ek:k=.cell:=by simpa using hk
    rw[ex,ek];show UV
  ·show U8 _ (kB h)
def sM{α:Type}{x:Str}{c:α}:∀{l:B_ (Str×α)},(x,c)∈l->∃d,l.lookup x=a_ d
 |(y,d)::r,h=>by
  by_cases e:x=y
  ·subst e;show⟨d,by simp[VF]⟩
  ·let z:(x == y)=false:=by simpa using e
   rcases U9.mp h with q|q
   ·show absurd (congrArg Prod.fst q) e
   ·let⟨d',hd⟩:=sM q;show⟨d',by simp only[VF,z];show hd⟩
def fH{x:Str}:∀{names:B_ (Str×Yi)}{n:Nat},(x,YK)∈names->∃c,(V6 n names []).lookup x=a_ c
 |(y,k)::r,n,h=>by
  let go:∃c,(x,c)∈V6 n ((y,k)::r) []:=by
   rcases U9.mp h with q|q
   ·let ex:x=y:=congrArg Prod.fst q;let ek:k=.cell:=(congrArg Prod.snd q).symm;refine⟨n,?_⟩;unfold V6;rw[if_pos (by rw[ek];rfl),bC,ex];show Vf _ UV
   ·unfold V6;split
    ·let⟨c,hc⟩:=fH (n:=n+1) q;rw[bC];show⟨c,Wc _<|mem_of_lookup hc⟩
    ·let⟨c,hc⟩:=fH (n:=n) q;show⟨c,mem_of_lookup hc⟩
  let⟨c,hc⟩:=go;show sM hc
def pS{α:Type}{x:Str}:∀{l r:B_ (Str×α)},(l++r).lookup x=(l.lookup x).or (r.lookup x)
 |[],_=>by simp
 |(y,d)::l,r=>by
  let ih:=pS (x:=x) (l:=l) (r:=r);cases e:x == y with
  |true=>simp[VF,e]
  |false=>simp only[Yx,VF,e];show ih
variable{M:Model}{builtins globals:t_}{closure:B_ (Str×t_)}{code:s_}{func:C_ t_}
def qW{outer:Env}{Q:j_ Env}(hQ:Q (newEnv scope (e_ s) globals (V6 (s.heap.objs.size+1) scope.names closure) qual func code (a_ outer) builtins) {s with heap:=pushCells (s.heap.push {cls:=.type "dict",data:=.dict #[]}) scope.names}):
  wpAny M A (newFunctionEnv scope globals closure [] qual func code (a_ outer) builtins) Q E s:=by
 simp only[newFunctionEnv,YJ,if_true];refine SB<|wpAny_alloc ?_;refine SB (wpAny_layCells _ (λname kind cells=>by cases hkc:kind == YK <;> simp[hkc]) _ _ _ _ ?_);rw[show({s with heap:=s.heap.push {cls:=.type "dict",data:=.dict #[]} }:td).heap.objs.size=(e_ s)+1 from Xi ..]
 rw[List.forIn_nil];show SB<|SL<|SL hQ
abbrev Cx.comp(X:Cx)(sc:Scope)(N:Zg 0)(C:t_)(fp:B_ t_)(s₀:td)(H₀:Hp):Cx:=
 { X with N:=N,s₀:=s₀,H₀:=H₀,env:=compEnvC sc (V6 (C+1) sc.names<|S_ []) C X.env,outer:=X.stack,ex:=fp,fn:=λx=>(match Ze 0 with|some .cell=>true|_=>false),pn:=[],xe:=λ_ _=>False}
abbrev Cw:St->Nat->C_ V
 |[],_=>b_
 |x::_,0=>x
 |_::r,n+1=>Cw r n
def uN:∀{σ:St}{i:Nat}{v:V},Cw σ i=a_ v->σ[i]?=a_ (a_ v)
 |[],_,_,h=>by cases h
 |x::_,0,v,h=>by let h':x=a_ v:=h;simp[h']
 |_::r,n+1,v,h=>by rw[Wq];show uN (σ:=r) (i:=n) h
abbrev kC(js:B_ (C_ Nat))(σ:St):St:=js.map λo=>match o with
 |none=>b_
 |some j=>Cw σ j
variable{i:Nat}
def Jq{σ:St}(h:(kC js σ)[i]?=a_ (a_ v)):∃j,js[i]?=a_ (a_ j)/\σ[j]?=a_ (a_ v):=by
 unfold kC at h;rw[Vk]at h;cases e:js[i]? with
 |none=>rw[e]at h;cases h
 |some o=>
  rw[e]at h;cases o with
  |none=>cases h
  |some j=>exact⟨j,rfl,uN<|Vv h⟩
abbrev PTs(X:Cx)(ifs:B_ z_)(t:TT):Prop:=
 ∀(jn:g_ 0)(s:td)(σ:St)(H:Hp)(Q:Bool->Hp->Prop),P1 s->t σ H Q->wpAny (h_ X) X.A (DS ifs X.env) (TP X jn σ Q) X.xe s
abbrev Ou:TT:=λ_ H Q=>Q true H
def Jr:PTs X [] Ou:=λ_ _ _ H _ I h=>wpAny_tests_nil ⟨H,I,h⟩
variable{c:z_}
def Js{t:TT}(h:PT X c t):PTs X [c] t:=λjn s σ H Q I q=>wpAny_tests_one<|Zh Q I q
abbrev La(js:B_ (C_ Nat))(g:TG)(tt:TT)(te:TE)(σ:St)(acc:t_)(x:V)(H:Hp)(N:Hp->Prop):Prop:=g x (kC js σ) H λσ2 H4=>tt σ2 H4 λb H5=>if b=true then te σ2 H5 λv H6=>∃ys,H6 acc=a_ (.lst ys)/\ys.length<Ve/\N (upd H6 acc<|.lst<|ys++[v]) else N H5
abbrev DT(js:B_ (C_ Nat))(wi:TI)(g:TG)(tt:TT)(te:TE):TE:=λσ H Q=>wi σ H λJ H1=>∀acc,H1 acc=b_->
 ∃W:Nat->Nat->Hp->Prop,(∃m,W 0 m<|upd H1 acc<|.lst [])/\∀i m H2,W i m H2->
  (J.stop i H2/\Q (.ref acc) H2)\/(J.go i H2/\∃N:Hp->Prop,(∀H',N H'->∃m',m'<m/\W (i+1) m' H')/\∀x H3,J.yld i H2 x H3->La js g tt te σ acc x H3 N)
structure Off(X:Cx)(jn:g_ 0)(H:Hp)(C:t_)(s:td):Prop where
 ns:∃m,s.heap.Ns C m
 none:H C=none
 loc:C≠X.env.locals
 new:X.s₀.heap.objs.size<=C
 cells:∀x c,X.env.cells.lookup x=some c->c≠C
 jn:∀p∈X.pn++jn,p.1≠C
def Off.go{σ:St}{C:t_}(o:Off X jn H C s)(I:P1 s)(hs:WD C s.heap h'):P1 {s with heap:=h'}:=I.turned (t':=s.toks) (λb ob hb e=>(hs.2 b hb).trans e) o.none o.loc (.inr o.new) o.cells o.jn
variable{Q0:f_ 0}{te:TE}{tg:z_}{tt:TT}{use:C_ (s_->Sem Unit)}{wi:TI}
def yL{elt:z_}{g:TG}(hc:X.calm=true)(fv:X.env.scope=os)(j0:X.N=oN)(ok:kA os oN sc N js=true)(hi:PI X tg iter wi)(hg:∀C fp s₀ H₀,PG (Zu 0) tg g)(ht:∀C fp s₀ H₀,PTs (Zu 0) ifs tt)(he:∀C fp s₀ H₀,PE (Zu 0) elt te){σ:St}{Q:VK}(I:P1 s)(h:DT js wi g tt te σ H Q)(nk:∀acc C s6 H6,i_ H6 s6->Off X jn H6 C s6->Q (.ref acc) H6->compPost (h_ X) X.A X.xe use Q0 (.ref acc) C (.ok .next) s6)(hs:∀x,q0e 0=pure x:=by intro _;rfl):
  wpAny (h_ X) X.A (comprehension (.ListComp elt [⟨tg,iter,ifs,0⟩] sc pos) sc X.env (firstIterPos [⟨tg,iter,ifs,0⟩] pos) (newList []) false (eval iter X.env) use) Q0 X.xe s:=by
 let S:=EY ok;subst fv j0;let qu:∀y∈sc.names,y.2=VY->∃c,X.env.cells.lookup y.1=a_ c:=λy hy e=>I.ok.has y.1<|S.fr y hy e;let kx:∀x c,(S_ []).lookup x=a_ c->T_ 0=a_ c:=λx c e=>by
  rcases sL _ _ e with z|⟨y,hy,e1,e2,e3⟩
  ·cases z
  ·let⟨d,hd⟩:=qu y hy e2;rw[e1]at hd;rw[hd]at e3;rw[hd,e3];rfl
 refine wpAny_comprehension_free (use:=use) rfl hs (xH qu) S.kind S.nm<|thn (hi jn s σ H _ I h) λv s1 h1=>thn h1 λyb s2 h2=>?_;let⟨it,fp,tn,J,H2,e,I2,T,jm,f2,q⟩:=h2;subst e;let⟨W,⟨m0,w0⟩,turn⟩:=q (e_ s2) I2.fresh;refine Vo<|qW ?_;let I3:i_ (upd H2 (e_ s2)<|.lst []) {s2 with heap:=s2.heap.push {cls:=.type "list",data:=.seq ([]:ZQ 0).toArray},toks:=s2.toks}:=I2.lnew (its:=[]) (ys:=[]) .nil<|Vw _;generalize Tu:upd H2 (e_ s2) (HO.lst [])=H3 at w0 I3;generalize Tw:({s2 with heap:=s2.heap.push {cls:=.type "list",data:=.seq ([]:ZQ 0).toArray},toks:=s2.toks}:td)=s3 at I3;let U2:({s2 with heap:=s2.heap.push {cls:=.type "list",dict:=b_,data:=.seq ([]:ZQ 0).toArray} }:td)=s3:=Tw;let SN:s2.heap.push {cls:=.type "list",dict:=b_,data:=.seq ([]:ZQ 0).toArray}=s3.heap:=by rw[<-U2]
 (try rw[SN])
 let hC:∀b o,s3.heap.get? b=a_ o->b≠(e_ s3):=λb o e=>Vh<|Vd e;let old:∀b o,s3.heap.get? b=a_ o->(pushCells (s3.heap.push {cls:=.type "dict",data:=.dict #[]}) sc.names).get? b=a_ o:=λb o e=>pushCells_keeps _ _ b o<|Zp e;let qk:(pushCells (s3.heap.push {cls:=.type "dict",data:=.dict #[]}) sc.names).Ns (e_ s3) (λ_=>b_):=(Heap.Ns.new s3.heap<|.type "dict").keeps<|pushCells_keeps _ _;let ug:=cellsFrom_ok sc.names (s3.heap.push {cls:=.type "dict",data:=.dict #[]}) (s3.heap.objs.size+1) [] ⟨λ_ _ hm=>(nomatch hm),Ys⟩ (by rw[Xi];show U6 _);rw[Xi]at ug;generalize pushCells (s3.heap.push {cls:=.type "dict",data:=.dict #[]}) sc.names=h₁ at old qk ug⊢;let r6:∀{x c},(V6 (s3.heap.objs.size+1) sc.names<|S_ []).lookup x=a_ c->((x,c)∈V6 (s3.heap.objs.size+1) sc.names []/\h₁.IsCell c b_/\(e_ s3)+1<=c)\/(T_ 0=a_ c/\c<(e_ s3)):=λ{x c} e=>by
  rw[bC,pS]at e;cases eo:(V6 (s3.heap.objs.size+1) sc.names []).lookup x with
  |some d=>
   rw[eo]at e;cases e
   have:=mem_of_lookup eo;show .inl ⟨this,ug.empty x c this⟩
  |none=>rw[eo]at e;let e:=kx x c e;let⟨v,z⟩:=I3.cell x c e;show .inr ⟨e,z.lt⟩
 let zy:∀{x c},Ze 0=a_ .free->(S_ []).lookup x=a_ c->(V6 (s3.heap.objs.size+1) sc.names<|S_ []).lookup x=a_ c:=λ{x c} hf e=>by
  rw[bC,pS];cases eo:(V6 (s3.heap.objs.size+1) sc.names []).lookup x with
  |some d=>have:=S.own _ (kB<|mem_of_lookup eo) rfl;rw[hf]at this;cases this
  |none=>exact e
 let r8:tn 0 s3.heap:=T.keep 0 _ _ jm λb hb o e=>by rw[<-SN];show Zp e
 let wz:∀b∈fp,∃o,s3.heap.get? b=a_ o/\∀v,o.data≠.cell v:=T.obj 0 _ r8;let f3:∀b∈fp,B0 X jn H3 b:=λb hb=>by let⟨o,ho,_⟩:=T.obj 0 _ jm b hb;refine⟨?_,(f2 b hb).2⟩;rw[<-Tu,aH<|Vh<|Vd ho];show(f2 b hb).1
 -- the block's context
 let u6:(S1 N (e_ s3) fp s3 H3).Ok:=by
  refine⟨I.ok.mod,S.kind,I.ok.glob,I.ok.blt,U6 _,λx y c e1 e2=>?_,λx hx=>?_,λx c z e=>?_,I.ok.hd,I.ok.frames,.inl rfl,λb hb=>?_,I3.bs,
   VS I.ok.bsz I3.sz,λb o e hb=>?_,λb hb hf=>?_,I3.stack,I3.stkFree⟩
  ·rcases r6 e1 with⟨m1,_,g1⟩|⟨z1,g1⟩ <;> rcases r6 e2 with⟨m2,_,g2⟩|⟨z2,g2⟩
   ·show name_of_addr ug.apart m1 m2
   ·show absurd (Vs g2<|Nat.le_of_succ_le g1) (WY _)
   ·show absurd (Vs g1<|Nat.le_of_succ_le g2) (WY _)
   ·show I.ok.inj x y c z1 z2
  ·let fr:Ze 0=a_ .free->∃c,(V6 (s3.heap.objs.size+1) sc.names<|S_ []).lookup x=a_ c:=λhf=>
    let ⟨c,hc⟩:=uM (cells:=X.env.cells) (x:=x) sc.names []<|.inr ⟨_,cT hf,rfl,rfl⟩
    ⟨c,zy hf hc⟩
   let fin:∀{k},(relabel sc X.env).names.lookup x=a_ k->(k=.cell\/k=.free)->∃c,(V6 (s3.heap.objs.size+1) sc.names<|S_ []).lookup x=a_ c:=λ{k} e hk=>by
    rcases lM (sc:=sc) e with z|⟨_,z⟩
    ·rcases hk with rfl|rfl
     ·let⟨c,hc⟩:=fH (n:=(e_ s3)+1)<|cT z;show⟨c,by rw[bC,pS,hc];rfl⟩
     ·show fr z
    ·show fr z
   rcases hx with hx|hx
   ·show fin hx (.inl rfl)
   ·show fin hx (.inr rfl)
  ·let z:Ze 0=a_ .cell:=by
    let z:(match Ze 0 with|some .cell=>true|_=>false)=true:=z
    split at z
    ·assumption
    ·cases z
   let e:(V6 (s3.heap.objs.size+1) sc.names<|S_ []).lookup x=a_ c:=e;let⟨d,hd⟩:=fH (n:=(e_ s3)+1)<|cT z;rw[bC,pS,hd]at e;cases e
   show Nat.le_of_succ_le (ug.empty x c<|mem_of_lookup hd).2
  ·let⟨o,ho,_⟩:=wz b hb;refine⟨hC b o ho,λx c e=>?_⟩;rcases r6 e with⟨_,_,g1⟩|⟨z1,_⟩
   ·show WR (Vs (Vd ho)<|Nat.le_of_succ_le g1)
   ·show(f3 b hb).2.2.2.2.1 x c z1
  ·rcases(f3 b hb).2.2.2.1 with z|z
   ·show I.ok.noex b o e z
   ·show absurd (Vs (Vd e)<|VS I.ok.bsz z) (WY _)
  ·rcases U9.mp (I3.stkSub b hf) with z|z
   ·show(f3 b hb).2.1 z
   ·show(f3 b hb).2.2.1 z
 -- what the block takes from around it
 let tm:∀(i:Nat)(x:Str)(v:V),N[i]?=a_ x->(kC js σ)[i]?=a_ (a_ v)->∃u c o,ZJ u/\((compEnvC sc (V6 (s3.heap.objs.size+1) sc.names<|S_ []) (e_ s3) X.env).kindOf x=a_ .cell\/(compEnvC sc (V6 (s3.heap.objs.size+1) sc.names<|S_ []) (e_ s3) X.env).kindOf x=a_ .free)/\
   (V6 (s3.heap.objs.size+1) sc.names<|S_ []).lookup x=a_ c/\s3.heap.get? c=a_ o/\o.data=.cell (a_ u)/\H3 c=b_/\c∉fp:=by
  intro i x v hN hv;let⟨j,hj,hσ⟩:=Jq hv;let⟨x',de,ho,hf⟩:=S.cap i j hj;rw[hN]at de;cases de;let⟨m,hn,hl⟩:=I3.loc;let wj:Vis X.env.scope x:=by
   rcases S.fr _ (cT hf) rfl with z|z
   ·show .inr (.inl z)
   ·show .inr (.inr z)
  let⟨u,r,l⟩:=hl j x v ho hσ wj;let⟨c,p7⟩:=uM (cells:=X.env.cells) (x:=x) sc.names []<|.inr ⟨_,cT hf,rfl,rfl⟩;let w9:=kx x c p7;let gi:s3.heap.IsCell c (a_ u):=by
   rcases l with⟨k,_⟩|⟨_,c',e,z⟩
   ·exfalso;rcases S.fr _ (cT hf) rfl with z|z
    ·let k':V_ 0=a_ .local:=k;rw[z]at k';cases k'
    ·let k':V_ 0=a_ .local:=k;rw[z]at k';cases k'
   ·rw[w9]at e;cases e;show z
  let⟨o,cy,hd⟩:=gi;refine⟨u,c,o,r,?_,zy hf p7,cy,hd,I3.freeC x c w9,λhb=>(f3 c hb).2.2.2.2.1 x c w9 rfl⟩;show(pR (env:=X.env) hf).symm
 -- at any state of the block,its names as at its start
 let qv:∀{dj:g_ 0}{σ8:St}{H8:Hp}{s8:td},Inv (S1 N (e_ s3) fp s3 H3) dj σ8 H8 s8->Inv (S1 N (e_ s3) fp s3 H3) [] (kC js σ) H8 s8:=λ{dj σ8 H8 s8} I8=>by
  refine⟨I8.ok,I8.os,I8.bare,I8.base,?_,I8.cell,I8.free,I8.freeC,λp hp=>by simp[Cx.comp]at hp,I8.hok,?_⟩
  ·let⟨m,hn,_⟩:=I8.loc;refine⟨m,hn,λi x v hN hv _=>?_⟩;let⟨u,c,o,r,k,hl,ho,hd,TH,UR⟩:=tm i x v hN hv;refine⟨u,r,.inr ⟨k,c,hl,?_⟩⟩;let⟨sl,e⟩:=I8.base.any ho TH UR;show⟨_,e,hd⟩
  ·change(kC js σ).length=N.length
   unfold kC;rw[U5,S.len]
 let I4:Inv (S1 N (e_ s3) fp s3 H3) [] (kC js σ) H3 {s3 with heap:=h₁}:=by
  refine⟨u6,rfl,I3.bare,Un.kept old,⟨_,qk,λi x v hN hv _=>?_⟩,λx c e=>?_,I3.fresh,λx c e=>?_,λp hp=>by simp[Cx.comp]at hp,I3.hok.kept old,?_⟩
  ·let⟨u,c,o,r,k,hl,ho,hd,_,_⟩:=tm i x v hN hv;show⟨u,r,.inr ⟨k,c,hl,o,old c o ho,hd⟩⟩
  ·rcases r6 e with⟨_,g1,_⟩|⟨z1,_⟩
   ·show⟨_,g1⟩
   ·let⟨v,o,ho,hd⟩:=I3.cell x c z1;show⟨v,o,old c o ho,hd⟩
  ·rcases r6 e with⟨_,_,g1⟩|⟨z1,_⟩
   ·show I3.hok.fresh ⋯
   ·show I3.freeC x c z1
  ·change(kC js σ).length=N.length
   unfold kC;rw[U5,S.len]
 let Sq:tn 0 h₁:=T.keep 0 _ _ r8 λb hb o e=>old b o e;let nq:∀{H':Hp},(∀b∈fp,H' b=b_)->∀b∈fp,B0 (S1 N (e_ s3) fp s3 H3) [] H' b:=λ{H'} hn b hb=>⟨hn b hb,(u6.exf b hb).1,u6.exfs b hb,.inl hb,(u6.exf b hb).2,λp hp=>by simp[Cx.comp]at hp⟩;let fin:∀(s6:td)(H6:Hp),Inv (S1 N (e_ s3) fp s3 H3) [] (kC js σ) H6 s6->Q (.ref<|e_ s2) H6->compPost (h_ X) X.A X.xe use Q0 (.ref<|e_ s2) (e_ s3) (.ok .next) s6:=λs6 H6 I6 q6=>by
  let I7:i_ H6 s6:=I3.call' (ch:=fp) I6.os I6.base I6.hok I6.bare λb hb=>⟨(f3 b hb).2.2.2.1,(f3 b hb).2.1,(f3 b hb).2.2.2.2.1,(f3 b hb).2.2.2.2.2⟩;refine nk _ _ _ _ I7 ⟨let ⟨m,hn,_⟩:=I6.loc;⟨m,hn⟩,I6.free,WR I3.lt,I3.sz,λx c e=>?_,λp hp=>?_⟩ q6
  ·let⟨v,z⟩:=I3.cell x c e;show Vh z.lt
  ·show Vh (Vd (I3.pin p hp).1)
 let loop:codeAny (h_ X) X.A (.compLoop (.ListComp elt [⟨tg,iter,ifs,0⟩] sc pos) 0 (.ref it) (.ref<|e_ s2)<|compEnvC sc (V6 (s3.heap.objs.size+1) sc.names<|S_ []) (e_ s3) X.env)
   (compPost (h_ X) X.A X.xe use Q0 (.ref<|e_ s2)<|e_ s3) {s3 with heap:=h₁}:=by
  refine A4 (λn s'=>∃i H',Inv (S1 N (e_ s3) fp s3 H3) [] (kC js σ) H' s'/\tn i s'.heap/\(∀b∈fp,H' b=b_)/\W i n H') ?_ m0 ⟨0,H3,I4,Sq,λb hb=>(f3 b hb).1,w0⟩;rintro n s5 ⟨i,H5,I5,ot,j6,w5⟩;rcases turn i n H5 w5 with⟨stop,qn⟩|⟨go,Nn,hN,step⟩
  ·refine thn (T.done (S1 N (e_ s3) fp s3 H3) rfl rfl rfl hc i [] s5 (kC js σ) H5 (λ_ _=>False) I5 (nq j6) ot stop) λr s6 z9=>?_;let⟨hr,I6⟩:=z9;subst hr;show fin s6 H5 I6 qn
  ·refine thn (T.item (S1 N (e_ s3) fp s3 H3) rfl rfl rfl hc i [] s5 (kC js σ) H5 (λ_ _=>False) I5 (nq j6) ot go) λr s6 z9=>?_;let⟨u,hr,h6⟩:=z9;subst hr;refine thn h6 λ_ s7 z9=>?_;let⟨x,H7,I7,r7,y7,wg,Ub⟩:=z9;let TK:=I7.pinned (nq Ub)<|T.obj _ _ wg;refine thn (hg _ _ _ _ _ s7 _ H7 x u _ TK r7<|step x H7 y7) λ_ s8 z9=>?_;let⟨σ8,H8,I8,q8⟩:=z9;refine thn (ht _ _ _ _ _ s8 σ8 H8 _ I8 q8) λb s9 z9=>?_;let⟨H9,I9,q9⟩:=z9;let again:∀{σ':St}{H':Hp}{s':td},Inv (S1 N (e_ s3) fp s3 H3) ([]++uF fp s7.heap) σ' H' s'->Nn H'->∃m,m<n/\∃i H',Inv (S1 N (e_ s3) fp s3 H3) [] (kC js σ) H' s'/\tn i s'.heap/\(∀b∈fp,H' b=b_)/\W i m H':=λ{σ' H' s'} I' n'=>by let⟨m',hm,w'⟩:=hN H' n';refine⟨m',hm,i+1,H',qv I',T.keep _ _ _ wg λb hb o e=>(I'.pin (b,o)<|Vf _<|Vf _<|jY hb e).1,λb hb=>?_,w'⟩;let⟨o,e,d⟩:=T.obj _ _ wg b hb;show(I'.pin (b,o)<|Vf _<|Vf _<|jY hb e).2.1
   cases b with
   |false=>exact again I9 q9
   |true=>refine thn (he _ _ _ _ _ s9 σ8 H9 _ I9 q9) λu' Ux z9=>?_;let⟨v,S4,TM,rv,ys,aw,hz,U3⟩:=z9;refine thn (yG (X:=S1 N (e_ s3) fp s3 H3) _ Ux σ8 S4 (.ref<|e_ s2) [v] (.ref<|e_ s2) [u'] (λ_ H'=>Nn H') TM rfl (.cons rv .nil) ⟨_,ys,v,rfl,rfl,aw,hz,U3⟩) λ_ s11 z9=>?_;let⟨_,H11,S5,_,T8⟩:=z9;show again S5 T8
 show codeAny_compStart_list loop<|T.self X.A 0 _ _ _ Sq loop
def Jt{elt:z_}{g:TG}(hc:X.calm=true)(fv:X.env.scope=os)(j0:X.N=oN)(ok:kA os oN sc N js=true)(hi:PI X tg iter wi)(hg:∀C fp s₀ H₀,PG (Zu 0) tg g)(ht:∀C fp s₀ H₀,PTs (Zu 0) ifs tt)(he:∀C fp s₀ H₀,PE (Zu 0) elt te)(hs:∀x,q0e 0=pure x:=by intro _;rfl):Zy (.ListComp elt [⟨tg,iter,ifs,0⟩] sc pos) (DT js wi g tt te):=by intro jn s σ H Q I h;rw[eval_ListComp];refine yL (use:=b_) hc fv j0 ok hi hg ht he I h (λacc C s6 H6 I6 o q=>?_) hs;show⟨o.ns.choose,o.ns.choose_spec,λh' iy=>⟨.ref acc,H6,o.go I6 iy,rfl,q⟩⟩
variable{dk pos':Pos}
def Cy{elt:z_}{g:TG}(hN:X.N.Nodup)(de:X.N[i]?=a_ x)(jr:V_ 0=a_ .local)(hc:X.calm=true)(fv:X.env.scope=os)(j0:X.N=oN)(ok:kA os oN sc N js=true)(hi:PI X tg iter wi)(hg:∀C fp s₀ H₀,PG (Zu 0) tg g)(ht:∀C fp s₀ H₀,PTs (Zu 0) ifs tt)(he:∀C fp s₀ H₀,PE (Zu 0) elt te)(t9:YI (.ListComp elt [⟨tg,iter,ifs,0⟩] sc pos) (a_<|.Name x pos') dk.line X.env=pure true:=by rfl)(hs:∀x,q0e 0=pure x:=by intro _;rfl):PS X (.Assign [.Name x pos'] (.ListComp elt [⟨tg,iter,ifs,0⟩] sc pos) dk) (LG (DT js wi g tt te)<|G9 i):=by
 intro jn s σ H D I h
 rw[exec_Assign_Name_used _ _ _ _ t9]
 refine SB<|wpAny_standAt<|SB ?_
 show wpAny _ X.A (do let _ <-comprehension (.ListComp elt [⟨tg,iter,ifs,0⟩] sc pos) sc X.env _ (newList []) false (eval iter X.env) (a_<|assign (.Name x pos') X.env)) _ _ s
 refine SB<|thn (yL (use:=a_<|assign (.Name x pos') X.env) (Q0:=λ_ s'=>SP X jn D .next s') hc fv j0 ok hi hg ht he I h (λacc C s6 H6 I6 o q=>?_) hs) λ_ s' hq=>SL<|SL hq
 show wpAny _ X.A (assign (.Name x pos') X.env<|.ref acc) _ _ _
 refine wpAny_assign_Name<|xZ I6 hN de (.inl jr) (v:=.ref acc) rfl (λs7 I7 ⟨a,hs7,ha⟩=>?_)<|.inr jr
 have Sd:C≠a:=by
  rcases ha with rfl|ha
  ·exact o.loc
  ·exact λe=>o.cells x a ha e.symm
 let⟨m,hn⟩:=o.ns
 have o7:Off X jn H6 C s7:=⟨⟨m,hn.sameBut hs7 Sd⟩,o.none,o.loc,o.new,o.cells,o.jn⟩
 exact⟨m,hn.sameBut hs7 Sd,λh' iy=>⟨_,H6,o7.go I7 iy,q⟩⟩
abbrev Ov:V->Z7 0->Z7 0->Hp->VK->Prop:=λx lo hi H Q=>∃z,x=.str z/\z.length<=Ve/\Q (.str<|WI z lo hi) H
def part_of{v:s_}{o:Z7 0}(h:IsPart v o):∃p:C_ (Int×Tok),v=partValue p/\p.map (·.1)=o:=by
 cases h with
 |none=>exact⟨b_,rfl,rfl⟩
 |int i t=>exact⟨a_ (i,t),rfl,rfl⟩
def Mc:SlR X Ov:=by
 intro jn s σ H x v vl vu lo hi sl Q I rx hs pl pu h;let⟨z,rfl,hz,q⟩:=h;let⟨t,rfl⟩:=rx;let⟨l,rfl,rfl⟩:=part_of pl;let⟨u,rfl,rfl⟩:=part_of pu;let⟨o,ho,hc,hd⟩:=hs;refine⟨"str",_,PySem.F.slot_str_getitem.lookup,typeIs_str s z t,?_⟩;refine wpAny_getItem_str_slice (l:=l) (u:=u) (st:=b_) ⟨o,ho,hc,hd⟩ rfl ?_;let e:sliceMade z t l u b_=if((1:Int) == 1&&(Yk (l.map (·.1)) (u.map (·.1)) 1 z.length).length == z.length)=true then Made.val (.str z t) else Made.str ⟨((Yk (l.map (·.1)) (u.map (·.1)) 1 z.length).filterMap (z.cps[·]?)).toArray⟩:=rfl;let hle:=Txt.slice_le z (l.map (·.1)) (u.map (·.1));unfold WI at q hle;rw[e];by_cases ly:((1:Int) == 1&&(Yk (l.map (·.1)) (u.map (·.1)) 1 z.length).length == z.length)=true
 ·rw[if_pos ly]at q⊢;show⟨.str z,H,I,⟨t,rfl⟩,q⟩
 ·rw[if_neg ly]at q hle⊢;show⟨VS hle hz,.str _,H,Z3 0,⟨_,rfl⟩,q⟩
def uO:∀{ss:Zg 0}{us:ZQ 0},aJ (ss.map V.str) us->StrsAre us ss
 |[],_,r=>by cases r;show .nil
 |x::ss,_,r=>by
  cases r with
  |cons h t=>let⟨tk,rfl⟩:=h;show .cons x tk<|uO t
def yM:∀{us:ZQ 0}{ss:Zg 0},StrsAre us ss->aJ (ss.map V.str) us
 |_,_,.nil=>.nil
 |_,_,.cons x t h=>.cons ⟨t,rfl⟩ (yM h)
def qX:cO X (.builtin "sorted") (λxs H Q=>∃p ss,xs=[.ref p]/\SqL X.K H p (ss.map V.str)/\ss.length<64/\
  ∀l jf,H l=b_->jf.Perm ss->sortedS jf=true->Q (.ref l) (R_ l (.lst (jf.map V.str)))):=by
 intro jn s σ H xs us Q I r h;let⟨p,ss,rfl,hq,dh,q⟩:=h;let⟨u,rfl,ru⟩:=vals1 r;cases ru
 let⟨its,rv,pl,hz⟩:=I.list hq;let hlen:=rv.length;rw[U5]at hlen;refine sorted_strs pl.isList (uO rv) ⋯ λout jf a1 a2 a3=>?_;let⟨e,he⟩:=sortedAll_at s.heap its out;refine⟨.ref<|s.heap.objs.size+1,_,I.laid (t':=s.toks) (o:=.lst<|jf.map V.str) (λb ob h=>sortedAll_old h) (YD _) ?_,rfl,q _ jf (I.hok.fresh<|YD _) a2 a3⟩;refine⟨?_,out.toList,e,yM a1,by rw[he]⟩;rw[U5,a2.length_eq];show Xu<|YG dh nofun
variable{es:B_ z_}
def gT{k:Nat}{t:TGs}(K:UF)(hK:X.K=K)(hc:X.calm=true)(h:PGs X es t)(hn:(Xr es X.env).length=n:=by rfl)(cg:(Xr es X.env).findIdx? (·.1)=b_:=by rfl):PG X (.Tuple es k pos) (O8 K n t):=by subst hK;show LF hc h hn cg
variable{e:z_}{f:s_->s_->Sem s_}{g:Int->Int->Int}
section
variable{a b:z_}{t t':TE}
def PE.imp(h:Zy e t)(i:∀σ H Q,t' σ H Q->t σ H Q):Zy e t':=λjn s σ H Q I q=>Zh Q I<|i σ H Q q
def PT.imp{t t':TT}(h:PT X e t)(i:∀σ H Q,t' σ H Q->t σ H Q):PT X e t':=λjn s σ H Q I q=>Zh Q I<|i σ H Q q
def OpR.imp{r r':R2}(h:Y7 f r)(i:∀x y H Q,r' x y H Q->r x y H Q):Y7 f r':=λjn s σ H x y v u Q I rx ry q=>Zh x y v u Q I rx ry<|i x y H Q q
def cO.imp{f:s_}{r r':B_ V->Hp->VK->Prop}(h:cO X f r)(i:∀xs H Q,r' xs H Q->r xs H Q):cO X f r':=λjn s σ H xs us Q I rx q=>Zh xs us Q I rx<|i xs H Q q
abbrev cV(i:Nat):TE:=λσ H Q=>match Cw σ i with
 |some v=>Q v H
 |none=>False
def cv(i:Nat)(hN:X.N[i]?=a_ x:=by rfl)(hv:Vis X.env.scope x:=by first|exact Or.inl rfl|exact Or.inr (Or.inl rfl)|exact Or.inr (Or.inr rfl))(hd:(x == ("__debug__" : Str))=false:=by decide)(ik:(x == ("__classdict__" : Str))=false:=by decide):Zy (.Name x pos) (cV i):=by
 refine(G5 hN hv hd ik).imp λσ H Q h=>?_;unfold cV at h;cases e:Cw σ i with
 |none=>rw[e]at h;show h.elim
 |some v=>rw[e]at h;show⟨v,uN e,h⟩
abbrev Ow(K:UF):R2:=λx y H Q=>match x,y with
 |.int i,.int j=>Q (.int<|i+j) H
 |.str i,.str j=>i.length+j.length<=Ve/\Q (.str<|i++j) H
 |.ref _,.ref _=>Oo x y H Q\/L9 K x y H Q
 |_,_=>False
def Ju(K:UF)(hK:X.K=K):Y7 (WB .Add) (Ow K):=by
 subst hK;refine(LM.or<|Cg.or<|M6.or Jm).imp λx y H Q h=>?_;cases x <;> cases y <;> first
  |exact .inl ⟨_,_,rfl,rfl,h⟩
  |exact .inr (.inl ⟨_,_,rfl,rfl,h.1,h.2⟩)
  |exact .inr (.inr h)
  |exact h.elim
abbrev yN(C:Int->Int->Prop)(f:Int->Int->Int):R2:=λx y H Q=>match x,y with
 |.int i,.int j=>C i j/\Q (.int<|f i j) H
 |_,_=>False
abbrev GA(f:Int->Int->Int):R2:=λx y H Q=>match x,y with
 |.int i,.int j=>Q (.int<|f i j) H
 |_,_=>False
def tS{C:Int->Int->Prop}(h:Y7 f (rI C λi j=>.int<|g i j)):Y7 f (yN C g):=h.imp λx y H Q q=>by cases x <;> cases y <;> first|exact⟨_,_,rfl,rfl,q.1,q.2⟩|exact q.elim
def GB(h:Y7 f (rI0 λi j=>.int<|g i j)):Y7 f (GA g):=h.imp λx y H Q q=>by cases x <;> cases y <;> first|exact⟨_,_,rfl,rfl,q⟩|exact q.elim
def Jv:Y7 (WB .Sub) (GA λi j=>i-j):=GB LN
def Jw:Y7 (WB .Mult) (yN B3 λi j=>i*j):=tS LO
def Jx:Y7 (WB .FloorDiv) (yN Gc λi j=>i/j):=tS Ja
def Jy:Y7 (WB .Mod) (yN (λ_ j=>0<j) λi j=>i%j):=tS LP
def Jz:Y7 (WB .Pow) (yN EI λi j=>i ^ j.toNat):=tS LR
abbrev yO(f:Int->Int->Bool)(g:B_ Nat->B_ Nat->Bool):R2:=λx y H Q=>match x,y with
 |.int i,.int j=>Q (.bl<|f i j) H
 |.str i,.str j=>Q (.bl<|g i.cps.toList j.cps.toList) H
 |_,_=>False
def tT{p:Int->Int->Bool}{g:B_ Nat->B_ Nat->Bool}(h1:Y7 f (rI0 λi j=>.bl<|p i j))(h2:Y7 f (λx y H Q=>∃i j,x=.str i/\y=.str j/\Q (.bl<|g i.cps.toList j.cps.toList) H)):Y7 f (yO p g):=(h1.or h2).imp λx y H Q q=>by cases x <;> cases y <;> first|exact .inl ⟨_,_,rfl,rfl,q⟩|exact .inr ⟨_,_,rfl,rfl,q⟩|exact q.elim
def Md:Y7 (VG .Lt) (yO (λi j=>decide (i<j)) λi j=>decide (i<j)):=tT Ob EJ
def Mf:Y7 (VG .Gt) (yO (λi j=>decide (j<i)) λi j=>decide (j<i)):=tT Od λjn s σ H x y v u Q I rx ry h=>by let⟨i,j,rfl,rfl,q⟩:=h;let⟨t,rfl⟩:=rx;let⟨t',rfl⟩:=ry;show PySem.P.gt_str<|oC I q rfl
def Mh:Y7 (VG .LtE) (yO (λi j=>decide (i<=j)) λi j=>!decide (j<i)):=tT Oc λjn s σ H x y v u Q I rx ry h=>by let⟨i,j,rfl,rfl,q⟩:=h;let⟨t,rfl⟩:=rx;let⟨t',rfl⟩:=ry;show PySem.P.le_str<|oC I q rfl
def Mj:Y7 (VG .GtE) (yO (λi j=>decide (j<=i)) λi j=>!decide (i<j)):=tT Oe λjn s σ H x y v u Q I rx ry h=>by let⟨i,j,rfl,rfl,q⟩:=h;let⟨t,rfl⟩:=rx;let⟨t',rfl⟩:=ry;show PySem.P.ge_str<|oC I q rfl
end
variable{ta tb:TE}{vs:B_ V}
section
variable{a b:z_}{t t':TE}
def Ox{x:V}{Q:Bool->Prop}(h:match x with|.bl c=>Q c|_=>False):∃c,x=.bl c/\Q c:=by cases x <;> first|exact⟨_,rfl,h⟩|exact h.elim
abbrev QX(ta tb:TE):TE:=λσ H Q=>ta σ H λx H1=>match x with
 |.bl c=>if c=true then tb σ H1 Q else Q (.bl false) H1
 |_=>False
def JA{rest:B_ z_}(ha:Zy a ta)(hb:Zy (.BoolOp .And (b::rest) pos) tb):Zy (.BoolOp .And (a::b::rest) pos) (QX ta tb):=by
 intro jn s σ H Q I h;refine BoolOp_and<|thn (q0i 0) λv s1 z9=>?_;let⟨x,H1,I1,r1,q1⟩:=z9;let⟨c,rfl,q1⟩:=Ox q1;cases r1
 refine XO ?_;cases c with
 |true=>exact hb jn s1 σ H1 Q I1 q1
 |false=>exact⟨.bl false,H1,I1,rfl,q1⟩
def JB(hu:X.A.units+1<cLine):IxR X (λx y H Q=>∃p v,x=.ref p/\pP H p y (a_ v)/\Q v H):=by
 intro value slice jn s σ H x y v u Q I rx ry h hs;let⟨p,w,rfl,g,q⟩:=h;cases rx
 let hT:=B8 I g;unfold subscriptTail;refine SB ?_;rw[getitemInPython_of_ne hT.not_modules];refine SB<|Xn hT PySem.F.slot_dict_getitem.lookup ?_;let fin:wpAny (h_ X) X.A (subscripted slice false (.ref p) u) (λr s₃=>wpAny (h_ X) X.A (letTemporaryGo value (.ref p) r >>= λ_=>pure r) (Za Q) X.xe s₃) X.xe s:=by rw[hs];show wpAny_operating<|EV hu I g ry λw' s3 I3 cx=>SB<|wpAny_letTemporaryGo<|SL ⟨w,H,I3,cx,q⟩
 first
  |exact SL (SB fin)
  |exact SB (SL<|SB fin)
  |exact SB fin
abbrev Oy(K:UF):R2:=λx y H Q=>match x with
 |.str z=>(match y with
  |.int i=>z.length<=Ve/\∃c,atI z.cps.toList i=a_ c/\Q (.str ⟨#[c]⟩) H
  |_=>False)
 |.ref p=>(∃xs i v,y=.int i/\(ZW p xs\/ZF p xs)/\atI xs i=a_ v/\Q v H)\/∃v,pP H p y (a_ v)/\Q v H
 |_=>False
def IxR.imp{r r':R2}(h:IxR X r)(i:∀x y H Q,r' x y H Q->r x y H Q):IxR X r':=λa b jn s σ H x y v u Q I rx ry q hs=>h a b jn s σ H x y v u Q I rx ry (i x y H Q q) hs
def ixC(hu:X.A.units+1<cLine)(K:UF)(hK:X.K=K):IxR X (Oy K):=by
 subst hK;refine(Jn.or<|M0.or<|M1.or<|JB hu).imp λx y H Q h=>?_;cases x with
 |str z=>
  cases y with
  |int i=>let⟨h1,c,h2,h3⟩:=h;show .inr<|.inr<|.inl ⟨z,i,c,rfl,rfl,h1,h2,h3⟩
  |_=>exact h.elim
 |ref p=>
  rcases h with⟨xs,i,v,rfl,hs|hs,ha,hq⟩|⟨v,g,hq⟩
  ·show .inl ⟨p,xs,i,v,rfl,rfl,hs,ha,hq⟩
  ·show .inr (.inl ⟨p,xs,i,v,rfl,rfl,hs,ha,hq⟩)
  ·show .inr (.inr<|.inr ⟨p,v,rfl,g,hq⟩)
 |_=>exact h.elim
def Ml(hu:X.A.units+1<cLine)(K:UF)(hK:X.K=K):Y7 (VG .In) (λx y H Q=>rIn K false x y H Q\/∃a o,y=.ref a/\pP H a x o/\Q (.bl o.isSome) H):=by
 subst hK;refine ER.or λjn s σ H x y v u Q I rx ry h=>?_;let⟨a,o,rfl,g,q⟩:=h;cases ry
 show QW hu I g rx λs' I'=>⟨.bl o.isSome,H,I',rfl,q⟩
def EZ(hu:X.A.units+1<cLine)(K:UF)(hK:X.K=K):Y7 (VG .NotIn) (λx y H Q=>rIn K true x y H Q\/∃a o,y=.ref a/\pP H a x o/\Q (.bl<|!o.isSome) H):=by
 subst hK;refine zZ.or λjn s σ H x y v u Q I rx ry h=>?_;let⟨a,o,rfl,g,q⟩:=h;cases ry
 show Jp hu I g rx λs' I'=>⟨.bl<|!o.isSome,H,I',rfl,q⟩
abbrev Oz(K:UF):B_ V->Hp->VK->Prop:=λxs H Q=>match xs with
 |[.str y]=>y.length<=Ve/\Q (.int y.length) H
 |[.ref p]=>(∃xs,(ZW p xs\/ZF p xs)/\Q (.int xs.length) H)\/∃kvs,H p=a_ (.dK kvs)/\Q (.int kvs.length) H
 |_=>False
def F0(K:UF)(hK:X.K=K):cO X (.builtin "len") (Oz K):=by
 subst hK;intro jn s σ H xs us Q I r h
 match xs,h with
 |[.str y],h=>exact Gi jn s σ H _ us Q I r ⟨_,_,rfl,⟨h.1,rfl⟩,h.2⟩
 |[.ref p],h=>
  rcases h with⟨ys,hs,q⟩|⟨kvs,hs,q⟩
  ·show A0 jn s σ H _ us Q I r ⟨p,ys,rfl,hs,q⟩
  ·show EX jn s σ H _ us Q I r ⟨p,kvs,rfl,hs,q⟩
abbrev OA:B_ V->Hp->VK->Prop:=λxs H Q=>match xs with
 |[.int i,.int j]=>Q (.int<|if j>i then j else i) H
 |_=>False
def F1(hc:X.calm=true):cO X (.builtin "max") OA:=(EK hc).imp λxs H Q h=>by
 match xs,h with
 |[.int i,.int j],h=>exact⟨i,j,rfl,h⟩
def Cz(K:UF)(hK:X.K=K):cO X (.type "list") (λxs H Q=>∃p ys,xs=[.ref p]/\(ZW p ys\/ZF p ys)/\∀l,H l=b_->Q (.ref l) (R_ l<|.lst ys)):=by subst hK;show A1
def Ba(K:UF)(hK:X.K=K):cO X (.type "tuple") (λxs H Q=>∃p ys,xs=[.ref p]/\((ZW p ys/\∀l,H l=b_->Q (.ref l) (R_ l<|.tup ys))\/(ZF p ys/\Q (.ref p) H))):=by subst hK;show wZ
abbrev OB(ta:TA):TI:=λσ H R=>ta σ H λvs H1=>match vs with
 |[.int j]=>(-(2 ^ 62)<=j/\j<2 ^ 62)/\R (Itr 0 j.toNat) H1
 |_=>False
abbrev OC(ta:TA):TI:=λσ H R=>ta σ H λvs H1=>match vs with
 |[.int i,.int j]=>(-(2 ^ 62)<=i/\i<2 ^ 62/\-(2 ^ 62)<=j/\j<2 ^ 62)/\R (Itr i (j-i).toNat) H1
 |_=>False
def JC{Q:Int->Prop}(h:match vs with|[.int i]=>Q i|_=>False):∃i,vs=[.int i]/\Q i:=by
 split at h
 · show⟨_,rfl,h⟩
 · show h.elim
def pr1{x:z_}{ta:TA}{p:Pos}(hg:Gl X "range")(hm:X.mg "range" = b_)(ha:PA X [x] ta)(hs:Vl [x] X.env=[(false,eval x X.env)]:=by rfl):PI X tg (.Call (.Name "range" p) [x] [] pos) (OB ta):=by intro jn s σ H R I h;refine Call_<|jB I hg hm boot_range<|Wm (thn (ZK 0) λus s1 z9=>?_) hs rfl;let⟨vs,H1,I1,r1,q1⟩:=z9;let⟨j,rfl,⟨h1,h2⟩,q⟩:=JC q1;let⟨u,rfl,t,rfl⟩:=vals1 r1;show call_range_1<|B2 I1 ⋯ ⋯ h1 h2 (l_ q)
def GC{Q:Int->Int->Prop}(h:match vs with|[.int i,.int j]=>Q i j|_=>False):∃i j,vs=[.int i,.int j]/\Q i j:=by
 split at h
 ·show⟨_,_,rfl,h⟩
 ·show h.elim
def pr2{x y:z_}{ta:TA}{p:Pos}(hg:Gl X "range")(hm:X.mg "range" = b_)(ha:PA X [x,y] ta)(hs:Vl [x,y] X.env=[(false,eval x X.env),(false,eval y X.env)]:=by rfl)(gf:Vl [y] X.env=[(false,eval y X.env)]:=by rfl):
  PI X tg (.Call (.Name "range" p) [x,y] [] pos) (OC ta):=by
 intro jn s σ H R I h;refine Call_ (jB I hg hm boot_range<|Wm (thn (ZK 0) λus s1 hz=>?_) (by rw[hs,gf]) (by rw[gf];rfl));let⟨vs,H1,I1,r1,q1⟩:=hz;let⟨i,j,e,⟨h1,h2,h3,h4⟩,q⟩:=GC (Q:=λi j=>(-(2 ^ 62)<=i/\i<2 ^ 62/\-(2 ^ 62)<=j/\j<2 ^ 62)/\R (Itr i (j-i).toNat) H1) q1;subst e;let⟨u,w',rfl,⟨t,rfl⟩,⟨t',rfl⟩⟩:=vals2 r1;show call_range_2<|B2 I1 h1 h2 h3 h4 q
abbrev OD(t:TE):TO:=λσ H Q=>t σ H λx H1=>match x with
 |.int i=>Q (a_ i) H1
 |_=>False
def GD{x:z_}(h:Zy x te):PO X (a_ x) (OD te):=by
 intro jn s σ H Q I hw;rw[evalPart_some];refine thn (Zh _ I hw) λu s1 z9=>?_;let⟨x,H1,I1,r1,q1⟩:=z9;cases x with
 |int i=>let⟨t,rfl⟩:=r1;show⟨a_ i,H1,I1,.int i t,q1⟩
 |_=>exact q1.elim
end
structure Def(K:UF)(mg:o_ 0)(x:Str)(st:A_)(f:t_)(fd:WU)(ps:B_ Str):Prop where
 fn:Fun K x x st f fd
 mg:mg x=c_ f
 bd:Binds K fd ps []
def OE{f:t_}{k:Nat}{t:TA}{p:Pos}(D:Def X.K X.mg x st f fd ps)(G:L_ CX0 k f fd ps sp)(hr:dX k X.A)(ha:PA X (e::es) t)(hg:Gl X x:=by rfl)(cf:(x == ("__debug__" : Str))=false:=by decide)(he:Vl (e::es) X.env=(false,U_ 0)::W_ 0:=by rfl)(a7:(Y1<|W_ 0).any (·.1)=false:=by rfl):
  Zy (.Call (.Name x p) (e::es) [] pos) (Gm sp [] E0 t):=Ji G hr hg D.mg D.fn.kp D.bd .nil yI ha cf he a7
def Mm{α:Type}{xs:B_ α}{i:Int}(h0:0<=i)(h1:i<xs.length):∃v,atI xs i=a_ v/\xs[i.toNat]?=a_ v:=by
 let h2:i.toNat<xs.length:=⋯;refine⟨xs[i.toNat],?_,by simp[h2]⟩;unfold atI ixN;rw[if_pos h0,if_pos h1];simp[h2]
def kE{α:Type}{xs:B_ α}{v:α}(h:xs[i]?=a_ v):atI xs (i:Int)=a_ v:=by let h1:=(SC.mp h).1;unfold atI ixN;rw[if_pos ⋯,if_pos ⋯];simpa using h
def Cv.upd{o:HO}(h:H a=b_):Cv H (R_ a o):=λb u e=>by rw[aH<|cS e h];show e
def Def.mk'{h:w_}{f:t_}{oc:s_}{kV:s_}(X:K.In h)(G:h.Ns We mg)(a:YU K We x=a_ (c_ f))(l:K.lookup f=a_ ⟨oc,od,.func<|WS x x (eC st) (cH st) (aU st) .none kV doc pm an cdv ct,osl⟩)(c:YS K cdv x=true)(k:WZ K (.ref f)=true)(b:∀(kV doc pm:s_)(an:C_ t_)(cdv ct:s_)(us:ZQ 0),us.length=ps.length->bindArgs (WS x x (eC st) (cH st) (aU st) .none kV doc pm an cdv ct) ⟨us,[]⟩=pure (ps.zip us)):
  Def K mg x st f (WS x x (eC st) (cH st) (aU st) .none kV doc pm an cdv ct) ps:=
 ⟨Cu l c k,Yt X G a,(Cu (st:=st) l c k).binds b⟩
open PySem.SeqAt
inductive D where
 |non|bl (b:Bool)|int (i:Int)|str (x:Str)|tup (xs:B_ D)
mutual
def D.depth:D->Nat
 |.tup xs=>D.depths xs+1
 |_=>0
def D.depths:B_ D->Nat
 |[]=>0
 |x::xs=>max (D.depth x) (D.depths xs)
end
def D.depths_le:∀{xs:B_ D}{i:Nat}{d:D},xs[i]?=a_ d->d.depth<=D.depths xs
 |[],_,_,h=>by simp at h
 |x::xs,0,d,h=>by
  have:x=d:=by simpa using h
  subst this
  change x.depth<=max x.depth (D.depths xs)
  omega
 |x::xs,i+1,d,h=>by
  have:=D.depths_le (xs:=xs) (i:=i) (d:=d)<|l_ h
  change d.depth<=max x.depth (D.depths xs)
  omega
mutual
def Rep(K:UF)(H:Hp):D->V->Prop
 |.non,v=>v=.non
 |.bl b,v=>v=.bl b
 |.int i,v=>v=.int i
 |.str x,v=>v=.str x
 |.tup ds,v=>∃a vs,v=.ref a/\ZF a vs/\dH K H ds vs
def dH(K:UF)(H:Hp):B_ D->B_ V->Prop
 |[],[]=>True
 |d::ds,v::vs=>Rep K H d v/\dH K H ds vs
 |[],_::_=>False
 |_::_,[]=>False
end
mutual
def eqD:D->D->Bool
 |.non,.non=>true
 |.bl a,.bl b=>a == b
 |.bl a,.int b=>(if a then 1 else 0) == b
 |.int a,.bl b=>a == (if b then 1 else 0)
 |.int a,.int b=>a == b
 |.str a,.str b=>a == b
 |.tup xs,.tup ys=>gO xs ys
 |_,_=>false
def gO:B_ D->B_ D->Bool
 |[],[]=>true
 |x::xs,y::ys=>eqD x y&&gO xs ys
 |[],_::_=>false
 |_::_,[]=>false
end
mutual
theorem jL:∀d:D,eqD d d=true
 |.non=>rfl
 |.bl b=>by simp[eqD]
 |.int i=>by simp[eqD]
 |.str x=>by simp[eqD]
 |.tup xs=>by simp only[eqD];show yP xs
theorem yP:∀ds:B_ D,gO ds ds=true
 |[]=>rfl
 |d::ds=>by simp only[gO,jL d,yP ds,Bool.and_self]
end
abbrev kF(H H':Hp):Prop:=∀a xs,Rd H a (.tup xs)->Rd H' a (.tup xs)
def kF.refl(H:Hp):kF H H:=λ_ _ h=>h
variable{H1 H2:Hp}
def kF.trans(a:kF H H1)(b:kF H1 H2):kF H H2:=λc xs h=>b c xs<|a c xs h
def kF.same(s:Cv H H'):kF H H':=λa xs h=>by
 rcases h with h|⟨o,h⟩
 ·show .inl (s _ _ h)
 ·show .inr ⟨o,s _ _ h⟩
abbrev pT:C_ HO->Prop
 |some (.tup _)=>False
 |some (.frz _ _)=>False
 |_=>True
def kF.upd{p:t_}{o:HO}(h:pT (H p)):kF H (R_ p o):=λa xs q=>by
 let ne:a≠p:=by
  rintro rfl;rcases q with q|⟨ob,q⟩
  ·rw[q]at h;show h
  ·rw[q]at h;show h
 rcases q with q|⟨ob,q⟩
 ·show .inl (by rw[aH ne];show q)
 ·show .inr ⟨ob,by rw[aH ne];show q⟩
def kF.sq{xs:B_ V}(t:kF H H')(h:ZF a xs):SqT K H' a xs:=by
 rcases h with h|h
 ·show .inl (t a xs h)
 ·show .inr h
mutual
theorem Rep.tp(t:kF H H'):∀{d:D}{v:V},Rep K H d v->Rep K H' d v
 |.non,_,h=>h
 |.bl _,_,h=>h
 |.int _,_,h=>h
 |.str _,_,h=>h
 |.tup ds,_,⟨a,vs,e,q,r⟩=>⟨a,vs,e,t.sq q,dH.tp t r⟩
theorem dH.tp(t:kF H H'):∀{ds:B_ D}{vs:B_ V},dH K H ds vs->dH K H' ds vs
 |[],[],_=>trivial
 |_::_,_::_,⟨h,r⟩=>⟨Rep.tp t h,dH.tp t r⟩
 |[],_::_,h=>h.elim
 |_::_,[],h=>h.elim
end
def dH.length:∀{ds:B_ D}{vs:B_ V},dH K H ds vs->ds.length=vs.length
 |[],[],_=>rfl
 |_::_,_::_,⟨_,r⟩=>by simp[dH.length r]
 |[],_::_,h=>h.elim
 |_::_,[],h=>h.elim
def dH.get:∀{ds:B_ D}{vs:B_ V}{i:Nat}{v:V},dH K H ds vs->vs[i]?=a_ v->∃d,ds[i]?=a_ d/\Rep K H d v
 |[],[],_,_,_,e=>by simp at e
 |d::_,w::_,0,v,⟨h,_⟩,e=>by
  have:w=v:=by simpa using e
  subst this;show⟨d,rfl,h⟩
 |_::ds,_::vs,i+1,v,⟨_,r⟩,e=>by
  let⟨d,h1,h2⟩:=dH.get (ds:=ds) (vs:=vs) (i:=i) (v:=v) r<|l_ e;show⟨d,l_ h1,h2⟩
 |[],_::_,_,_,h,_=>h.elim
 |_::_,[],_,_,h,_=>h.elim
def dH.at:∀{ds:B_ D}{vs:B_ V}{i:Nat}{d:D},dH K H ds vs->ds[i]?=a_ d->∃v,vs[i]?=a_ v/\Rep K H d v
 |[],[],_,_,_,e=>by simp at e
 |d::_,w::_,0,d',⟨h,_⟩,e=>by
  have:d=d':=by simpa using e
  subst this;show⟨w,rfl,h⟩
 |_::ds,_::vs,i+1,d,⟨_,r⟩,e=>by
  let⟨v,h1,h2⟩:=dH.at (ds:=ds) (vs:=vs) (i:=i) (d:=d) r<|l_ e;show⟨v,l_ h1,h2⟩
 |[],_::_,_,_,h,_=>h.elim
 |_::_,[],_,_,h,_=>h.elim
variable{b:Bool}{its its':ZQ 0}{jl:B_ V}
section
variable{σ:St}
def eZ{v:s_}(h:RcAt A s v u b)(hs:v=u->b=true)(hf:∀f t,v≠.float f t):EqAt A s v u b:=λprog w E Q hq=>by
 unfold eqBool;refine VO ?_;refine wpAny_ite_split (λwt=>?_)<|λ_=>?_
 ·let e:=hs<|eq_of_beq wt;subst e;show SB<|XT<|SL hq
 ·cases v <;> first|exact absurd rfl (hf _ _)|exact SB (h prog w E _<|XO hq)|(cases u <;> exact SB (h prog w E _<|XO hq))
def yQ{d:D}{x:V}{v:s_}(h:Rep K H d x)(r:ZI v):∀f t,v≠.float f t:=λf t e=>by
 subst e;cases d with
 |non=>cases h;cases r
 |bl b=>cases h;cases r
 |int b=>cases h;let⟨_,z⟩:=r;cases z
 |str b=>cases h;let⟨_,z⟩:=r;cases z
 |tup ds=>let⟨_,_,rfl,_⟩:=h;cases r
def nB(I:P1 s):∀(n:Nat)(d e:D)(v:V),d.depth<=n->Rep X.K H d v->Rep X.K H e v->d=e
 |n,.non,e,v,_,h,h'=>by
  cases h
  cases e <;> first|(let⟨_,_,z,_⟩:=h';show absurd z (by intro q;cases q))|rfl|exact absurd h' (by intro z;cases z)
 |n,.bl b,e,v,_,h,h'=>by
  cases h
  cases e <;> first|(let⟨_,_,z,_⟩:=h';show absurd z (by intro q;cases q))|(cases h';rfl)|exact absurd h' (by intro z;cases z)
 |n,.int i,e,v,_,h,h'=>by
  cases h
  cases e <;> first|(let⟨_,_,z,_⟩:=h';show absurd z (by intro q;cases q))|(cases h';rfl)|exact absurd h' (by intro z;cases z)
 |n,.str x,e,v,_,h,h'=>by
  cases h
  cases e <;> first|(let⟨_,_,z,_⟩:=h';show absurd z (by intro q;cases q))|(cases h';rfl)|exact absurd h' (by intro z;cases z)
 |0,.tup ds,e,v,hd,h,h'=>absurd hd (by change ¬ Y0 0+1<=0;omega)
 |n+1,.tup ds,e,v,hd,h,h'=>by
  let⟨a,vs,rfl,q,r⟩:=h;cases e with
  |tup es=>
   let⟨a',jl,ea,q',r'⟩:=h';cases ea
   have:=I.tuple_inj q q';subst this;let du:Y0 0+1<=n+1:=hd;have:ds=es:=by
    apply Wr;intro i;cases hi:ds[i]? with
    |none=>have h1:=r.length;let h2:=r'.length;have:ds.length<=i:=List.getElem?_eq_none_iff.mp hi;show(List.getElem?_eq_none_iff.mpr ⋯).symm
    |some d=>let⟨v,hv,hr⟩:=r.at hi;let⟨e,he,xm⟩:=r'.get hv;rw[he,nB I n d e v (by have:=D.depths_le hi;omega) hr xm]
   rw[this]
  |_=>cases h'
def uP{xs ys:B_ D}:((Vm<|min xs.length ys.length).all (λj=>match xs[j]?,ys[j]? with|some x,a_ y=>eqD x y|_,_=>false)&&xs.length == ys.length)=gO xs ys:=by
 induction xs generalizing ys with
 |nil=>
  cases ys with
  |nil=>rfl
  |cons y ys=>simp[gO]
 |cons x xs ih=>
  cases ys with
  |nil=>simp[gO]
  |cons y ys=>
   have:=ih (ys:=ys);let e:min (x::xs).length (y::ys).length=min xs.length ys.length+1:=by simp only[VN];omega
   rw[e,Yg,Yq,List.all_map];simp only[List.getElem?_cons_zero,YO,Wq,VN,gO];rw[<-this];let e2:(xs.length+1 == ys.length+1)=(xs.length == ys.length):=by simp
   rw[e2,Bool.and_assoc]
def OF(I:P1 s):∀(n:Nat)(d e:D)(A:v_)(x y:V)(v u:s_),d.depth<=n->A.units+n<cLine->Rep X.K H d x->Rep X.K H e y->ZI v->RelV y u->RcAt A s v u (eqD d e):=by
 intro n
 induction n with
 |zero=>
  intro d e A x y v u hd hu hx hy rx ry;cases d with
  |tup ds=>exact absurd hd (by change ¬ Y0 0+1<=0;omega)
  |non=>
   cases hx;cases rx;cases e with
   |non=>cases hy;cases ry;show RcAt.none_none
   |bl b=>cases hy;cases ry;show RcAt.none_bool b
   |int b=>cases hy;let⟨t,rfl⟩:=ry;show RcAt.none_int b t
   |str b=>cases hy;let⟨t,rfl⟩:=ry;show RcAt.none_str b t
   |tup es=>let⟨a,vs,rfl,q,r⟩:=hy;cases ry;let⟨its,_,p,_⟩:=I.tuple q;show RcAt.none_tuple p ⋯
  |bl a=>
   cases hx;cases rx;cases e with
   |non=>cases hy;cases ry;show RcAt.bool_none a
   |bl b=>cases hy;cases ry;show RcAt.bool_bool a b
   |int b=>cases hy;let⟨t,rfl⟩:=ry;show RcAt.bool_int a b t
   |str b=>cases hy;let⟨t,rfl⟩:=ry;show RcAt.bool_str a b t
   |tup es=>let⟨a',vs,rfl,q,r⟩:=hy;cases ry;let⟨its,_,p,_⟩:=I.tuple q;show RcAt.bool_tuple a p ⋯
  |int a=>
   cases hx;let⟨t',rfl⟩:=rx;cases e with
   |non=>cases hy;cases ry;show RcAt.int_none a t'
   |bl b=>cases hy;cases ry;show RcAt.int_bool a t' b
   |int b=>cases hy;let⟨t,rfl⟩:=ry;show RcAt.int_int a t' b t
   |str b=>cases hy;let⟨t,rfl⟩:=ry;show RcAt.int_str a t' b t
   |tup es=>let⟨a',vs,rfl,q,r⟩:=hy;cases ry;let⟨its,_,p,_⟩:=I.tuple q;show RcAt.int_tuple a t' p ⋯
  |str a=>
   cases hx;let⟨t',rfl⟩:=rx;cases e with
   |non=>cases hy;cases ry;show RcAt.str_none a t'
   |bl b=>cases hy;cases ry;show RcAt.str_bool a t' b
   |int b=>cases hy;let⟨t,rfl⟩:=ry;show RcAt.str_int a t' b t
   |str b=>cases hy;let⟨t,rfl⟩:=ry;show RcAt.str_str a t' b t
   |tup es=>let⟨a',vs,rfl,q,r⟩:=hy;cases ry;let⟨its,_,p,_⟩:=I.tuple q;show RcAt.str_tuple a t' p ⋯
 |succ n ih=>
  intro d e A x y v u hd hu hx hy rx ry;by_cases h0:d.depth<=n
  ·show ih d e A x y v u h0 ⋯ hx hy rx ry
  ·cases d with
   |non=>exact absurd (show D.depth .non<=n from Vw n) h0
   |bl b=>exact absurd (show D.depth (.bl b)<=n from Vw n) h0
   |int b=>exact absurd (show D.depth (.int b)<=n from Vw n) h0
   |str b=>exact absurd (show D.depth (.str b)<=n from Vw n) h0
   |tup ds=>
    let oq:Y0 0<=n:=by have:Y0 0+1<=n+1:=hd;omega
    let⟨a,vs,rfl,q,r⟩:=hx;cases rx
    let⟨its,rv,p,_⟩:=I.tuple q;cases e with
    |non=>cases hy;cases ry;show RcAt.tuple_none p ⋯
    |bl b=>cases hy;cases ry;show RcAt.tuple_bool b p ⋯
    |int b=>cases hy;let⟨t,rfl⟩:=ry;show RcAt.tuple_int b t p ⋯
    |str b=>cases hy;let⟨t,rfl⟩:=ry;show RcAt.tuple_str b t p ⋯
    |tup es=>
     let⟨a',jl,rfl,q',r'⟩:=hy;cases ry
     let⟨its',az,p',_⟩:=I.tuple q';let l1:=r.length;let l2:=r'.length;let l3:=rv.length;let l4:=az.length;let key:=RcAt.tuples (A:=A) (e:=λj=>match ds[j]?,es[j]? with|some x,a_ y=>eqD x y|_,_=>false) p p' ⋯ (λj h1 h2=>by
      let ji:j<ds.length:=by simp at h1;omega
      let fj:j<es.length:=by simp at h2;omega
      let g1:ds[j]?=a_ ds[j]:=by simp[ji]
      let g2:es[j]?=a_ es[j]:=by simp[fj]
      let⟨xv,xt,rg⟩:=r.at g1;let⟨yv,wy,vf⟩:=r'.at g2;let⟨xu,qg,g8⟩:=rv.get xt;let⟨yu,uj,e8⟩:=az.get wy;let e1:its.toArray[j]=xu:=by have:its[j]?=a_ xu:=qg;simpa using(SC.mp this).2
      let e2:its'.toArray[j]=yu:=by have:its'[j]?=a_ yu:=uj;simpa using(SC.mp this).2
      rw[e1,e2];simp only[g1,g2];let UG:=D.depths_le g1;refine eZ (ih ds[j] es[j] A.in1 xv yv xu yu ⋯ (by change A.units+1+n<cLine;omega) rg vf g8 e8) (λev=>by
      subst ev;let xr:xv=yv:=RelV.inj g8 e8;subst xr;rw[nB I n ds[j] es[j] xv ⋯ rg vf];show jL _) (yQ rg g8))
     let sz:((Vm<|min its.toArray.size its'.toArray.size).all (λj=>match ds[j]?,es[j]? with|some x,a_ y=>eqD x y|_,_=>false)&&its.toArray.size == its'.toArray.size)=eqD (.tup ds) (.tup es):=by
      let a1:its.toArray.size=ds.length:=by simp;omega
      let a2:its'.toArray.size=es.length:=by simp;omega
      rw[a1,a2];simp only[eqD];show uP
     rw[<-sz];show key
def Mn(I:P1 s){d e:D}{x:V}{v:s_}(hd:d.depth<=n)(hu:A.units+n<cLine)(hx:Rep X.K H d x)(hy:Rep X.K H e y)(rx:ZI v)(ry:RelV y u):EqAt A s v u (eqD d e):=eZ (OF I n d e A x y v u hd hu hx hy rx ry) (λev=>by subst ev;let xr:x=y:=RelV.inj rx ry;subst xr;rw[nB I n d e x hd hx hy];show jL _)<|yQ hx rx
abbrev QY(K:UF):R2:=λx y H Q=>∃d e,Rep K H d x/\Rep K H e y/\d.depth<=40/\Q (.bl<|eqD d e) H
def Mp(hu:X.A.units+64<cLine)(K:UF)(hK:X.K=K):Y7 (VG .Eq) (QY K):=by subst hK;intro jn s σ H x y v u Q I rx ry h;let⟨d,e,hx,hy,hd,q⟩:=h;show OF I 40 d e X.A x y v u hd ⋯ hx hy rx ry X.prog X.w X.xe _ ⟨.bl _,H,I,rfl,q⟩
abbrev F2(K:UF)(H:Hp)(ds:B_ D)(v:V):Prop:=∃a vs,v=.ref a/\ZW a vs/\dH K H ds vs
def yR{xs ys:B_ D}(h:xs.length=ys.length):(Vm xs.length).all (λj=>match xs[j]?,ys[j]? with|some x,a_ y=>eqD x y|_,_=>false)=gO xs ys:=by have:=uP (xs:=xs) (ys:=ys);rw[h,Nat.min_self,beq_self_eq_true,Bool.and_true]at this;rw[h];show this
def Bb{xs ys:B_ D}(h:gO xs ys=true):xs.length=ys.length:=by rw[<-uP,VE]at h;show eq_of_beq h.2
def uQ{I:P1 s}{ds es:B_ D}(r:dH X.K H ds vs)(r':dH X.K H es jl)(rv:aJ vs its)(az:aJ jl its')(hd:Y0 0<=40)(hu:A.units+42<cLine):
  ∀j(h1:j<its.toArray.size)(h2:j<its'.toArray.size),EqAt A.in1 s its.toArray[j] its'.toArray[j] (match ds[j]?,es[j]? with|some x,a_ y=>eqD x y|_,_=>false):=λj h1 h2=>by
 let l1:=r.length;let l2:=r'.length;let l3:=rv.length;let l4:=az.length;let ji:j<ds.length:=by simp at h1;omega
 let fj:j<es.length:=by simp at h2;omega
 let g1:ds[j]?=a_ ds[j]:=by simp[ji]
 let g2:es[j]?=a_ es[j]:=by simp[fj]
 let⟨xv,xt,rg⟩:=r.at g1;let⟨yv,wy,vf⟩:=r'.at g2;let⟨xu,qg,g8⟩:=rv.get xt;let⟨yu,uj,e8⟩:=az.get wy;let e1:its.toArray[j]=xu:=by simpa using(SC.mp qg).2
 let e2:its'.toArray[j]=yu:=by simpa using(SC.mp uj).2
 rw[e1,e2];simp only[g1,g2];let UG:=D.depths_le g1;show Mn I (n:=40) ⋯ (by change A.units+1+40<cLine;omega) rg vf g8 e8
abbrev QZ(K:UF):R2:=λx y H Q=>∃ds es,F2 K H ds x/\F2 K H es y/\Y0 0<=40/\Q (.bl<|gO ds es) H
def Mq(hu:X.A.units+64<cLine)(K:UF)(hK:X.K=K):Y7 (VG .Eq) (QZ K):=by
 subst hK;intro jn s σ H x y v u Q I rx ry h;let⟨ds,es,⟨a,vs,rfl,q,r⟩,⟨b,jl,rfl,q',r'⟩,hd,k⟩:=h;cases rx;cases ry;let⟨its,rv,p,_⟩:=I.list q;let⟨its',az,p',_⟩:=I.list q';let l1:=r.length;let l2:=r'.length;let l3:=rv.length;let l4:=az.length;by_cases hl:ds.length=es.length
 ·refine eq_listAt p.isList p'.isList (by simp;omega) ⋯ (uQ (I:=I) r r' rv az hd ⋯) ⟨.bl _,H,I,rfl,?_⟩;let e1:its.toArray.size=ds.length:=by simp;omega
  rw[e1,yR hl];show k
 ·refine eq_list_lengthsAt p.isList p'.isList (by simp;omega) ⋯ ⟨.bl false,H,I,rfl,?_⟩;let e:gO ds es=false:=by
   cases h:gO ds es with
   |false=>rfl
   |true=>exact absurd (Bb h) hl
  rw[e]at k;show k
abbrev OG(K:UF)(neg:Bool):R2:=λx y H Q=>∃d p ds vs,y=.ref p/\(ZW p vs\/ZF p vs)/\Rep K H d x/\dH K H ds vs/\Y0 0<=40/\Q (.bl<|if neg then !ds.any (λe=>eqD e d) else ds.any (λe=>eqD e d)) H
abbrev isD(K:UF)(H:Hp)(d:D)(u:s_):Bool:=@decide (∃e x,ZI u/\Rep K H e x/\e.depth<=40/\eqD e d=true)<|WM _
def GE(I:P1 s){d e:D}{x:V}(r:ZI u)(h:Rep X.K H e x)(hd:e.depth<=40):q0f d u=eqD e d:=by
 unfold isD;cases q:eqD e d with
 |true=>exact @decide_eq_true _ (WM _) ⟨e,x,r,h,hd,q⟩
 |false=>refine @decide_eq_false _ (WM _) ?_;rintro⟨e',x',r',h',du,q'⟩;let ex:x'=x:=RelV.inj r' r;subst ex;rw[nB I 40 e' e x' du h' h]at q';rw[q]at q';cases q'
def pU(I:P1 s){d:D}:∀{ds:B_ D}{vs:B_ V}{us:ZQ 0},dH X.K H ds vs->aJ vs us->Y0 0<=40->us.any (q0f d)=ds.any λe=>eqD e d
 |[],[],_,_,.nil,_=>rfl
 |e::ds,_::_,_,⟨h,r⟩,.cons rv iq,hd=>by
  let h1:e.depth<=40/\Y0 0<=40:=by have:max e.depth (Y0 0)<=40:=hd;omega
  rw[Yr,Yr,GE I rv h h1.1,pU I r iq h1.2]
 |[],_::_,_,h,_,_=>h.elim
 |_::_,[],_,h,_,_=>h.elim
def pV(I:P1 s){A:v_}{d:D}{x:V}{v:s_}(hx:Rep X.K H d x)(rx:ZI v)(hu:A.units+42<cLine):∀{ds:B_ D}{vs:B_ V}{us:ZQ 0},dH X.K H ds vs->aJ vs us->Y0 0<=40->∀u∈us,EqAt A.in1 s u v (q0f d u)
 |[],[],_,_,.nil,_=>λu hu=>by cases hu
 |e::ds,_::_,_,⟨h,r⟩,.cons rv iq,hd=>λu hm=>by
  let h1:e.depth<=40/\Y0 0<=40:=by have:max e.depth (Y0 0)<=40:=hd;omega
  rcases U9.mp hm with rfl|hm
  ·rw[GE I rv h h1.1];show Mn I (n:=40) h1.1 (by change A.units+1+40<cLine;omega) h hx rv rx
  ·show pV I hx rx hu r iq h1.2 u hm
 |[],_::_,_,h,_,_=>h.elim
 |_::_,[],_,h,_,_=>h.elim
def Mr(hu:X.A.units+64<cLine)(K:UF)(hK:X.K=K):Y7 (VG .In) (OG K false):=by
 subst hK;intro jn s σ H x y v u Q I rx ry h;let⟨d,p,ds,vs,rfl,hq,hx,hr,hd,k⟩:=h;cases ry
 rcases hq with hq|hq
 ·let⟨its,r,pl,hz⟩:=I.list hq;refine SeqAt.in_listAt (q0f d) pl.isList (λw hw=>pV I hx rx ⋯ hr r hd w (l_ hw)) ⟨.bl _,H,I,rfl,?_⟩;rw[show its.toArray.any (q0f d)=its.any (q0f d) by simp,pU I hr r hd];show k
 ·let⟨its,r,pl,hz⟩:=I.tuple hq;refine SeqAt.in_tupleAt (q0f d) pl (λw hw=>pV I hx rx ⋯ hr r hd w (l_ hw)) ⟨.bl _,H,I,rfl,?_⟩;rw[show its.toArray.any (q0f d)=its.any (q0f d) by simp,pU I hr r hd];show k
def F3(hu:X.A.units+64<cLine)(K:UF)(hK:X.K=K):Y7 (VG .NotIn) (OG K true):=by
 subst hK;intro jn s σ H x y v u Q I rx ry h;let⟨d,p,ds,vs,rfl,hq,hx,hr,hd,k⟩:=h;cases ry
 rcases hq with hq|hq
 ·let⟨its,r,pl,hz⟩:=I.list hq;refine SeqAt.notIn_listAt (q0f d) pl.isList (λw hw=>pV I hx rx ⋯ hr r hd w (l_ hw)) ⟨.bl _,H,I,rfl,?_⟩;rw[show its.toArray.any (q0f d)=its.any (q0f d) by simp,pU I hr r hd];show k
 ·let⟨its,r,pl,hz⟩:=I.tuple hq;refine SeqAt.notIn_tupleAt (q0f d) pl (λw hw=>pV I hx rx ⋯ hr r hd w (l_ hw)) ⟨.bl _,H,I,rfl,?_⟩;rw[show its.toArray.any (q0f d)=its.any (q0f d) by simp,pU I hr r hd];show k
end
open PySem
abbrev keyLt:Sum Int Str->Sum Int Str->Bool
 |.inl a,.inl b=>decide (a<b)
 |.inr a,.inr b=>decide (a.cps.toList<b.cps.toList)
 |_,_=>false
abbrev bK:B_ (Sum Int Str)->B_ (Sum Int Str)->Bool
 |[],[]=>false
 |[],_::_=>true
 |_::_,[]=>false
 |x::xs,y::ys=>if x=y then bK xs ys else keyLt x y
abbrev fO:Sum Int Str->Bool
 |.inl _=>true
 |.inr _=>false
@[reducible]def shape(ks:B_ (Sum Int Str)):B_ Bool:=ks.map fO
def JD{a b:Str}(h:a.cps.toList=b.cps.toList):a=b:=by
 cases a;cases b
 congr;show Array.toList_inj.mp h
def GF{a b:Sum Int Str}(h:keyLt a b=true):keyLt b a=false:=by
 cases a <;> cases b <;> first|rfl|skip
 ·have:_<_:=of_decide_eq_true h;show decide_eq_false ⋯
 ·show decide_eq_false (List.lt_asymm<|of_decide_eq_true h)
def yS{a b:Sum Int Str}(k:fO a=fO b)(h:keyLt a b=false)(h':keyLt b a=false):a=b:=by
 cases a <;> cases b <;> first|cases k|skip
 ·let h1:=of_decide_eq_false h;let h2:=of_decide_eq_false h';congr 1;omega
 ·let h1:=of_decide_eq_false h;let h2:=of_decide_eq_false h';congr 1;show JD<|List.le_antisymm (X7.mp h2)<|X7.mp h1
def GG:∀{a b c:Sum Int Str},fO a=fO b->fO b=fO c->keyLt b a=false->keyLt c b=false->keyLt c a=false
 |.inl a,.inl b,.inl c,_,_,h,h'=>by let h1:¬ b<a:=of_decide_eq_false h;let h2:¬ c<b:=of_decide_eq_false h';show decide_eq_false ⋯
 |.inr a,.inr b,.inr c,_,_,h,h'=>by let h1:a.cps.toList<=b.cps.toList:=X7.mp<|of_decide_eq_false h;let h2:b.cps.toList<=c.cps.toList:=X7.mp<|of_decide_eq_false h';show decide_eq_false<|X7.mpr<|List.le_trans h1 h2
 |.inl _,.inr _,_,k,_,_,_=>by cases k
 |.inr _,.inl _,_,k,_,_,_=>by cases k
 |.inl _,.inl _,.inr _,_,k,_,_=>by cases k
 |.inr _,.inr _,.inl _,_,k,_,_=>by cases k
def tU:∀{a b:B_ (Sum Int Str)},bK a b=true->bK b a=false
 |[],[],_=>rfl
 |[],_::_,_=>rfl
 |_::_,[],h=>by cases h
 |x::xs,y::ys,h=>by
  unfold bK at h⊢;by_cases e:x=y
  ·subst e;rw[YX 0]at h⊢;show tU h
  ·rw[Zs 0]at h;rw[if_neg λz=>e z.symm];show GF h
def pW:∀{a b:B_ (Sum Int Str)},shape a=shape b->bK a b=false->bK b a=false->a=b
 |[],[],_,_,_=>rfl
 |[],_::_,s,_,_=>by cases s
 |_::_,[],s,_,_=>by cases s
 |x::xs,y::ys,s,h,h'=>by
  let s1:fO x=fO y:=by simpa using congrArg List.head? s
  let s2:shape xs=shape ys:=by simpa using congrArg List.tail s
  unfold bK at h h';by_cases e:x=y
  ·subst e;rw[YX 0]at h h';rw[pW s2 h h']
  ·rw[Zs 0]at h;rw[if_neg λz=>e z.symm]at h';show absurd (yS s1 h h') e
def pX:∀{a b c:B_ (Sum Int Str)},shape a=shape b->shape b=shape c->bK b a=false->bK c b=false->bK c a=false
 |[],[],[],_,_,_,_=>rfl
 |[],[],_::_,_,s',_,_=>by cases s'
 |[],_::_,_,s,_,_,_=>by cases s
 |_::_,[],_,s,_,_,_=>by cases s
 |_::_,_::_,[],_,s',_,_=>by cases s'
 |x::xs,y::ys,z::zs,s,s',h,h'=>by
  let s1:fO x=fO y:=by simpa using congrArg List.head? s
  let s2:shape xs=shape ys:=by simpa using congrArg List.tail s
  let s3:fO y=fO z:=by simpa using congrArg List.head? s'
  let s4:shape ys=shape zs:=by simpa using congrArg List.tail s'
  unfold bK at h h'⊢;by_cases e:y=x
  ·subst e;rw[YX 0]at h;by_cases e':z=y
   ·subst e';rw[YX 0]at h'⊢;show pX s2 s4 h h'
   ·rw[if_neg e']at h'⊢;show h'
  ·rw[Zs 0]at h;by_cases e':z=y
   ·subst e';rw[Zs 0];show h
   ·rw[if_neg e']at h';by_cases e2:z=x
    ·subst e2;exfalso;show e<|yS s3 h h'
    ·rw[if_neg e2];show GG s1 s3 h h'
open PySem PySem.W PyProof.Rows
section
variable(lt:Nat->Nat->Bool)
abbrev evT{α:Type}:KasT α->α
 |.ret a=>a
 |.ask i j k=>evT (k<|lt i j)
def jM{α β:Type}(f:α->KasT β):∀t:KasT α,J_ (t.bind f)=J_ (f<|J_ t)
 |.ret _=>rfl
 |.ask i j k=>jM f (k<|lt i j)
@[reducible]def pa'(p:Zd 0)(i:Nat):Nat:=p.getD i 0
abbrev STo(p:Zd 0)(k:Nat):Prop:=∀i j,i<=j->j<k->lt (Y_ j) (Y_ i)=false
abbrev NIc(p:Zd 0)(k:Nat):Prop:=∀i j,i<=j->j<k->lt (Y_ i) (Y_ j)=false
end
def iF{p:Zd 0}:Y_ i=(p[i]?).getD 0:=by unfold pa';simp[Array.getD_eq_getD_getElem?]
structure GH(lt:Nat->Nat->Bool)(p:Array Nat)(n f:Nat)(r:Array Nat×Nat×Nat):Prop where
 perm:r.1.Perm p
 lo:n<=r.2.1
 hi:r.2.1<=n+f
 q:r.2.2+1<=r.2.1
 ni:NIc lt r.1 r.2.1
 eq:∀i j,r.2.1-(r.2.2+1)<=i->i<r.2.1->r.2.1-(r.2.2+1)<=j->j<r.2.1->lt (pa' r.1 i) (pa' r.1 j)=false
variable{nrem:Nat}
section
variable{lt:Nat->Nat->Bool}(tr:∀i j k,lt j i=false->lt k j=false->lt k i=false)(as:∀i j,lt i j=true->lt j i=false)
include as in
def gI(i:Nat):lt i i=false:=by
 cases h:lt i i with
 |false=>rfl
 |true=>have:=as i i h;rw[h]at this;show this
include tr as
def CA(p:Zd 0):∀f n,1<=n->STo lt p n->n<=J_ (ZD f n)/\J_ (ZD f n)<=n+f/\STo lt p (J_<|ZD f n)
 |0,n,_,h=>⟨U6 _,U6 _,h⟩
 |f+1,n,h1,h=>by
  let e:J_ (ZD (f+1) n)=J_ (if lt (p.getD n 0) (p.getD (n-1) 0)=true then KasT.ret n else kas_asc p f (n+1)):=rfl;rw[e];by_cases c:lt (p.getD n 0) (p.getD (n-1) 0)=true
  ·rw[if_pos c];show⟨U6 _,Nat.le_add_right _ _,h⟩
  ·rw[if_neg c];let c':lt (p.getD n 0) (p.getD (n-1) 0)=false:=by simpa using c
   let h2:STo lt p (n+1):=λi j cu hj=>by
    rcases WN (Nat.le_of_lt_succ hj) with hj|rfl
    ·show h i j cu hj
    ·rcases WN cu with hi|rfl
     ·show tr _ _ _ (h i (j-1) ⋯ ⋯) c'
     ·show gI as _
   let⟨a,b,c⟩:=CA p f (n+1) ⋯ h2;show⟨⋯,⋯,c⟩
def rev_eq{p:Zd 0}{a:Nat}(hn:n<=p.size)(eq:∀i j,a<=i->i<n->a<=j->j<n->lt (Y_ i) (Y_ j)=false)(i j:Nat):
  lt (pa' (q0g a n) i) (pa' (q0g a n) j)=lt (Y_ i) (Y_ j):=by
 let g:∀k,pa' (q0g a n) k=if a<=k/\k<n then pa' p (a+n-1-k) else Y_ k:=λk=>by rw[iF,iF,iF];unfold kas_rev;rw[getElem?_mirror_all hn];split <;> rfl
 let sim:∀k,∃k',pa' (q0g a n) k=Y_ k'/\lt (Y_ k) (Y_ k')=false/\lt (Y_ k') (Y_ k)=false:=λk=>by
  rw[g];by_cases h:a<=k/\k<n
  ·rw[if_pos h];show⟨_,rfl,eq _ _ h.1 h.2 ⋯ ⋯,eq _ _ ⋯ ⋯ h.1 h.2⟩
  ·rw[if_neg h];show⟨k,rfl,gI as _,gI as _⟩
 let⟨i',ei,i1,i2⟩:=sim i;let⟨j',ej,j1,j2⟩:=sim j;rw[ei,ej];cases h1:lt (Y_ i) (Y_ j) with
 |false=>exact tr _ _ _ j1<|tr _ _ _ h1 i2
 |true=>
  cases h2:lt (Y_ i') (Y_ j') with
  |true=>rfl
  |false=>have:=tr _ _ _ j2<|tr _ _ _ h2 i1;rw[h1]at this;show this.symm
def A5:∀f (p:Zd 0) n q,n+f<=p.size->q+1<=n->NIc lt p n->(∀i j,n-(q+1)<=i->i<n->n-(q+1)<=j->j<n->lt (Y_ i) (Y_ j)=false)->GH lt p n f (J_<|kas_desc f p n q)
 |0,p,n,q,_,hq,hN,hE=>⟨Yl _,U6 _,U6 _,hq,hN,hE⟩
 |f+1,p,n,q,hs,hq,hN,hE=>by
  let e:J_ (kas_desc (f+1) p n q)=J_ (if lt (p.getD n 0) (p.getD (n-1) 0)=true then(if q>0 then kas_desc f (q0g (n-(q+1)) n) (n+1) 0 else kas_desc f p (n+1) 0)
    else .ask (p.getD (n-1) 0) (p.getD n 0) λd=>if d=true then .ret (p,n,q) else kas_desc f p (n+1) (q+1)):=rfl
  by_cases c:lt (p.getD n 0) (p.getD (n-1) 0)=true
  ·let down:∀p':Zd 0,p'.Perm p->(∀i j,lt (pa' p' i) (pa' p' j)=lt (Y_ i) (Y_ j))->J_ (kas_desc (f+1) p n q)=J_ (kas_desc f p' (n+1) 0)->GH lt p n (f+1) (J_<|kas_desc (f+1) p n q):=λp' hp hl UA=>by
    let tw:NIc lt p' (n+1):=λi j cu hj=>by
     rw[hl];rcases WN (Nat.le_of_lt_succ hj) with hj|rfl
     ·show hN i j cu hj
     ·rcases WN cu with hi|rfl
      ·show tr _ _ _ (as _ _ c) (hN i (j-1) ⋯ ⋯)
      ·show gI as _
    let qb:∀i j,n+1-(0+1)<=i->i<n+1->n+1-(0+1)<=j->j<n+1->lt (pa' p' i) (pa' p' j)=false:=λi j h1 h2 h3 h4=>by
     have:i=j:=⋯;subst this;show gI as _
    let ih:=A5 f p' (n+1) 0 (by rw[hp.size_eq];omega) ⋯ tw qb;rw[<-UA]at ih;let⟨a1,a2,a3,a4,a5,a6⟩:=ih;show⟨a1.trans hp,⋯,⋯,a4,a5,a6⟩
   rw[if_pos c]at e;by_cases hq0:q>0
   ·rw[if_pos hq0]at e;show down _ (Ym _ _ _ _) (rev_eq tr as ⋯ hE) e
   ·rw[if_neg hq0]at e;show down p (Yl _) (λ_ _=>rfl) e
  ·rw[if_neg c]at e;let c':lt (p.getD n 0) (p.getD (n-1) 0)=false:=by simpa using c
   let e2:J_ (kas_desc (f+1) p n q)=J_ (if lt (p.getD (n-1) 0) (p.getD n 0)=true then KasT.ret (p,n,q) else kas_desc f p (n+1) (q+1)):=e;by_cases d:lt (p.getD (n-1) 0) (p.getD n 0)=true
   ·rw[if_pos d]at e2;rw[e2];show⟨Yl _,U6 _,Nat.le_add_right _ _,hq,hN,hE⟩
   ·rw[if_neg d]at e2;let d':lt (p.getD (n-1) 0) (p.getD n 0)=false:=by simpa using d
    let tw:NIc lt p (n+1):=λi j cu hj=>by
     rcases WN (Nat.le_of_lt_succ hj) with hj|rfl
     ·show hN i j cu hj
     ·rcases WN cu with hi|rfl
      ·show tr _ _ _ d' (hN i (j-1) ⋯ ⋯)
      ·show gI as _
    let qb:∀i j,n+1-(q+1+1)<=i->i<n+1->n+1-(q+1+1)<=j->j<n+1->lt (Y_ i) (Y_ j)=false:=λi j h1 h2 h3 h4=>by
     by_cases hi:i=n
     ·by_cases hj:j=n
      ·rw[hi,hj];show gI as _
      ·rw[hi];show tr _ _ _ (hE (n-1) j ⋯ ⋯ ⋯ ⋯) c'
     ·by_cases hj:j=n
      ·rw[hj];show tr _ _ _ d'<|hE i (n-1) ⋯ ⋯ ⋯ ⋯
      ·show hE i j ⋯ ⋯ ⋯ ⋯
    let ih:=A5 f p (n+1) (q+1) ⋯ ⋯ tw qb;rw[<-e2]at ih;let⟨a1,a2,a3,a4,a5,a6⟩:=ih;show⟨a1,⋯,⋯,a4,a5,a6⟩
def Bc{p:Zd 0}(h1:1<=n)(hn:n<=nrem)(hz:nrem<=p.size)(hN:NIc lt p n):
  n<=(J_<|kas_tail3 n nrem p).1/\(J_<|kas_tail3 n nrem p).1<=nrem/\(J_<|kas_tail3 n nrem p).2.Perm p/\STo lt (J_<|kas_tail3 n nrem p).2 (J_<|kas_tail3 n nrem p).1:=by
 let e:J_ (kas_tail3 n nrem p)=(J_<|kas_asc (q0g 0 n) (nrem-n) n,q0g 0 n):=by unfold kas_tail3;rw[jM];rfl
 let g:∀k,k<n->pa' (q0g 0 n) k=Y_ (n-1-k):=λk hk=>by
  rw[iF,iF];unfold kas_rev;rw[getElem?_mirror_all ⋯,if_pos ⋯];congr 2;omega
 let hS:STo lt (q0g 0 n) n:=λi j cu hj=>by rw[g i ⋯,g j hj];show hN _ _ ⋯ ⋯
 let⟨a,b,c⟩:=CA tr as (q0g 0 n) (nrem-n) n h1 hS;rw[e];show⟨a,by change J_ (kas_asc (q0g 0 n) (nrem-n) n)<=nrem;omega,Ym _ _ _ _,c⟩
def sN{p:Zd 0}(h1:1<=n)(hn:n+1<=nrem)(hz:nrem<=p.size)(hN:NIc lt p n)(hd:lt (Y_ n) (Y_<|n-1)=true):
  1<=(J_<|q0h 0).1/\(J_<|q0h 0).1<=nrem/\(J_<|q0h 0).2.Perm p/\STo lt (J_<|q0h 0).2 (J_<|q0h 0).1:=by
 let tw:NIc lt p (n+1):=λi j cu hj=>by
  rcases WN (Nat.le_of_lt_succ hj) with hj|rfl
  ·show hN i j cu hj
  ·rcases WN cu with hi|rfl
   ·show tr _ _ _ (as _ _ hd) (hN i (j-1) ⋯ ⋯)
   ·show gI as _
 let qb:∀i j,n+1-(0+1)<=i->i<n+1->n+1-(0+1)<=j->j<n+1->lt (Y_ i) (Y_ j)=false:=λi j h1 h2 h3 h4=>by
  have:i=j:=⋯;subst this;show gI as _
 let D:=A5 tr as (nrem-(n+1)) p (n+1) 0 ⋯ ⋯ tw qb;let e:J_ (q0h 0)=J_ (if(J_<|kas_desc (nrem-(n+1)) p (n+1) 0).2.2>0 then kas_tail3 (J_<|kas_desc (nrem-(n+1)) p (n+1) 0).2.1 nrem (kas_rev (J_<|kas_desc (nrem-(n+1)) p (n+1) 0).1 ((J_<|kas_desc (nrem-(n+1)) p (n+1) 0).2.1-((J_<|kas_desc (nrem-(n+1)) p (n+1) 0).2.2+1)) (J_<|kas_desc (nrem-(n+1)) p (n+1) 0).2.1) else kas_tail3 (J_<|kas_desc (nrem-(n+1)) p (n+1) 0).2.1 nrem (J_<|kas_desc (nrem-(n+1)) p (n+1) 0).1):=by unfold kas_descPart;rw[jM]
 generalize evT lt (kas_desc (nrem-(n+1)) p (n+1) 0)=r at D e;let⟨a1,a2,a3,a4,a5,a6⟩:=D;let sz:r.1.size=p.size:=a1.size_eq;rw[e];by_cases hq:r.2.2>0
 ·rw[if_pos hq];let hl:=rev_eq tr as (p:=r.1) (a:=r.2.1-(r.2.2+1)) (n:=r.2.1) ⋯ a6;let⟨b1,b2,b3,b4⟩:=Bc tr as (n:=r.2.1) (nrem:=nrem) (p:=kas_rev r.1 (r.2.1-(r.2.2+1)) r.2.1) ⋯ ⋯ (by unfold kas_rev;rw[mirror_size];omega) (λi j cu hj=>by rw[hl];show a5 i j cu hj);show⟨⋯,b2,(b3.trans<|Ym _ _ _ _).trans a1,b4⟩
 ·rw[if_neg hq];let⟨b1,b2,b3,b4⟩:=Bc tr as (n:=r.2.1) (nrem:=nrem) (p:=r.1) ⋯ ⋯ ⋯ a5;show⟨⋯,b2,b3.trans a1,b4⟩
def uR(p:Zd 0):∀f n,1<=n->J_ (ZD f n)<n+f->lt (Y_<|J_<|ZD f n) (Y_<|J_ (ZD f n)-1)=true
 |0,n,_,h=>absurd h (WY _)
 |f+1,n,h1,h=>by
  let e:J_ (ZD (f+1) n)=J_ (if lt (p.getD n 0) (p.getD (n-1) 0)=true then KasT.ret n else kas_asc p f (n+1)):=rfl;rw[e]at h⊢;by_cases c:lt (p.getD n 0) (p.getD (n-1) 0)=true
  ·rw[if_pos c];show c
  ·rw[if_neg c]at h⊢;show uR p f (n+1) ⋯ ⋯
def GI{p:Zd 0}(h1:1<=nrem)(hz:nrem<=p.size):
  1<=(J_<|kas_count nrem p).1/\(J_<|kas_count nrem p).1<=nrem/\(J_<|kas_count nrem p).2.Perm p/\STo lt (J_<|kas_count nrem p).2 (J_<|kas_count nrem p).1:=by
 let h0:STo lt p 1:=λi j cu hj=>by
  have:i=j:=⋯;subst this;show gI as _
 let⟨a,b,c⟩:=CA tr as p (nrem-1) 1 (U6 _) h0;let stop:=uR tr as p (nrem-1) 1<|U6 _;let e:J_ (kas_count nrem p)=J_ (if(J_ (ZD (nrem-1) 1) == nrem)=true then .ret (J_<|ZD (nrem-1) 1,p) else if J_ (ZD (nrem-1) 1)>1 then .ask (p.getD 0 0) (p.getD (J_ (ZD (nrem-1) 1)-1) 0) λc=>if c=true then .ret (J_<|ZD (nrem-1) 1,p) else kas_descPart (J_<|ZD (nrem-1) 1) nrem (q0g 0<|J_<|ZD (nrem-1) 1) else kas_descPart (J_<|ZD (nrem-1) 1) nrem p):=by unfold kas_count;rw[jM]
 generalize evT lt (ZD (nrem-1) 1)=n at a b c e stop;rw[e];by_cases hn:(n == nrem)=true
 ·rw[if_pos hn];show⟨a,by change n<=nrem;omega,Yl _,c⟩
 ·rw[if_neg hn];let uv:n≠nrem:=by simpa using hn
  let st:=stop ⋯;by_cases h2:n>1
  ·rw[if_pos h2];let e2:∀k:Bool->KasT (Nat×Zd 0),J_ (.ask (p.getD 0 0) (p.getD (n-1) 0) k)=J_ (k<|lt (p.getD 0 0)<|p.getD (n-1) 0):=λ_=>rfl;rw[e2];by_cases h3:lt (p.getD 0 0) (p.getD (n-1) 0)=true
   ·rw[if_pos h3];show⟨a,by change n<=nrem;omega,Yl _,c⟩
   ·rw[if_neg h3];let Tr:lt (Y_ 0) (Y_<|n-1)=false:=by simpa using h3
    let eq:∀i j,0<=i->i<n->0<=j->j<n->lt (Y_ i) (Y_ j)=false:=λi j _ hi _ hj=>by show tr _ _ _ (c j (n-1) ⋯ ⋯)<|tr _ _ _ Tr<|c 0 i ⋯ hi
    let hl:=rev_eq tr as (p:=p) (a:=0) (n:=n) ⋯ eq;let g:pa' (q0g 0 n) n=Y_ n:=by rw[iF,iF];unfold kas_rev;rw[getElem?_mirror_all ⋯,if_neg ⋯]
    let⟨b1,b2,b3,b4⟩:=sN tr as (n:=n) (nrem:=nrem) (p:=q0g 0 n) a ⋯ (by unfold kas_rev;rw[mirror_size];omega) (λi j cu hj=>by rw[hl];show eq i j ⋯ ⋯ ⋯ hj) (by rw[hl];show st);show⟨b1,b2,b3.trans<|Ym _ _ _ _,b4⟩
  ·rw[if_neg h2];let UC:n=1:=⋯;subst UC;show sN tr as (n:=1) (nrem:=nrem) (p:=p) (U6 _) ⋯ hz (λi j cu hj=>by
    have:i=j:=⋯;subst this;show gI as _) st
def uS(p:Zd 0)(k:Nat)(hS:STo lt p k):∀f l r,r-l<=f->l<=r->r<=k->(∀i,i<l->lt (Y_ k) (Y_ i)=false)->(∀i,r<=i->i<k->lt (Y_ k) (Y_ i)=true)->
  l<=J_ (ZN f l r)/\J_ (ZN f l r)<=k/\(∀i,i<J_ (ZN f l r)->lt (Y_ k) (Y_ i)=false)/\(∀i,J_ (ZN f l r)<=i->i<k->lt (Y_ k) (Y_ i)=true)
 |0,l,r,hf,hl,hr,h1,h2=>by
  have:l=r:=⋯;subst this;show⟨U6 _,hr,h1,h2⟩
 |f+1,l,r,hf,hl,hr,h1,h2=>by
  let e:J_ (ZN (f+1) l r)=J_ (if l >= r then .ret l else .ask (p.getD k 0) (p.getD ((l+r)/2) 0) λc=>if c=true then kas_place p k f l ((l+r)/2) else ZN f ((l+r)/2+1) r):=rfl;rw[e];by_cases kh:l >= r
  ·rw[if_pos kh];have:l=r:=⋯;subst this;show⟨U6 _,hr,h1,h2⟩
  ·rw[if_neg kh];let e2:∀q:Bool->KasT Nat,J_ (.ask (p.getD k 0) (p.getD ((l+r)/2) 0) q)=J_ (q<|lt (p.getD k 0)<|p.getD ((l+r)/2) 0):=λ_=>rfl;rw[e2];by_cases c:lt (p.getD k 0) (p.getD ((l+r)/2) 0)=true
   ·rw[if_pos c];refine uS p k hS f l ((l+r)/2) ⋯ ⋯ ⋯ h1 λi hi hk=>?_;cases q:lt (Y_ k) (Y_ i) with
    |true=>rfl
    |false=>
     have:=tr _ _ _ (hS ((l+r)/2) i hi hk) q;rw[show lt (Y_ k) (Y_<|(l+r)/2)=true from c]at this
     show this.symm
   ·rw[if_neg c];let c':lt (Y_ k) (Y_<|(l+r)/2)=false:=by simpa using c
    let⟨b1,b2,b3,b4⟩:=uS p k hS f ((l+r)/2+1) r ⋯ ⋯ hr (λi hi=>by
     cases q:lt (Y_ k) (Y_ i) with
     |false=>rfl
     |true=>
      exfalso;let s1:=hS i ((l+r)/2) ⋯ ⋯;let s2:=as _ _ q;have:lt (Y_ k) (Y_ i)=false:=by
       -- p[mid]<=p[k] (c'),p[i]<=p[mid]
       show tr _ _ _ s1 c'
      rw[q]at this;cases this) h2
    show⟨⋯,b2,b3,b4⟩
def GJ:∀f (p:Zd 0) k,1<=k->k+f<=p.size->STo lt p k->(J_<|kas_bin f p k).Perm p/\STo lt (J_<|kas_bin f p k) (k+f)
 |0,p,k,_,_,h=>⟨Yl _,h⟩
 |f+1,p,k,h1,hz,h=>by
  let e:J_ (kas_bin (f+1) p k)=J_ (kas_bin f (bubble p k<|k-J_ (ZN k 0 k))<|k+1):=by
   change J_ ((ZN k 0 k).bind λl=>kas_bin f (bubble p k<|k-l)<|k+1)=_
   rw[jM]
  let⟨b1,b2,b3,b4⟩:=uS tr as p k h k 0 k ⋯ (Vw _) (U6 _) (λi hi=>absurd hi<|Nat.not_lt_zero _) (λi hi hk=>absurd hk ⋯);generalize evT lt (ZN k 0 k)=l at e b1 b2 b3 b4;let g:∀i,pa' (bubble p k<|k-l) i=if i=l then pa' p k else if l<i/\i<=k then pa' p (i-1) else Y_ i:=λi=>by
   rw[iF,iF,iF,iF,getElem?_bubble ⋯ _ ⋯];let el:k-(k-l)=l:=⋯;rw[el];split
   ·rfl
   ·split <;> rfl
  let hS:STo lt (bubble p k<|k-l) (k+1):=λi j cu hj=>by
   rw[g i,g j];by_cases hj1:j=l
   ·by_cases lj:i=l
    ·rw[if_pos hj1,if_pos lj];show gI as _
    ·rw[if_pos hj1,if_neg lj,if_neg ⋯];show b3 i ⋯
   ·rw[if_neg hj1];by_cases lj:i=l
    ·rw[if_pos lj,if_pos ⋯];show as _ _<|b4 (j-1) ⋯ ⋯
    ·rw[if_neg lj];by_cases hj2:l<j/\j<=k
     ·rw[if_pos hj2];by_cases vg:l<i/\i<=k
      ·rw[if_pos vg];show h _ _ ⋯ ⋯
      ·rw[if_neg vg];show h _ _ ⋯ ⋯
     ·rw[if_neg hj2,if_neg ⋯];show h _ _ cu ⋯
  let ih:=GJ f (bubble p k<|k-l) (k+1) ⋯ (by rw[bubble_size];omega) hS;rw[e];show⟨ih.1.trans<|bubble_perm _ _ _,by rw[show k+(f+1)=k+1+f by omega];show ih.2⟩
def JE(h1:1<=n):(J_<|kas_sort n).toList.Perm (Vm n)/\(J_<|kas_sort n).toList.Pairwise (λi j=>lt j i=false):=by
 let e:J_ (kas_sort n)=J_ (if(J_<|kas_count n<|Xy<|Vm n).1<n then kas_bin (n-max (J_<|kas_count n<|Xy<|Vm n).1 1) (J_<|kas_count n<|Xy<|Vm n).2 (max (J_<|kas_count n<|Xy<|Vm n).1 1) else .ret (J_<|kas_count n<|Xy<|Vm n).2):=by unfold kas_sort;rw[jM]
 let⟨a1,a2,a3,a4⟩:=GI tr as (nrem:=n) (p:=Xy<|Vm n) h1 (by simp);generalize evT lt (kas_count n<|Xy<|Vm n)=r at e a1 a2 a3 a4;let fin:∀p:Zd 0,p.Perm (Xy<|Vm n)->STo lt p n->p.toList.Perm (Vm n)/\p.toList.Pairwise (λi j=>lt j i=false):=λp hp hs=>by
  let hsz:p.size=n:=by rw[hp.size_eq];simp
  refine⟨by simpa using Array.perm_iff_toList_perm.mp hp,?_⟩
  rw[Wa];intro i j hi hj cu;let ak:i<p.size:=by simpa using hi
  let j9:j<p.size:=by simpa using hj
  have:=hs i j (Xu cu) ⋯;simpa[pa',YQ,ak,j9] using this
 rw[e];by_cases ag:r.1<n
 ·rw[if_pos ag];let hm:max r.1 1=r.1:=⋯;rw[hm];let⟨b1,b2⟩:=GJ tr as (n-r.1) r.2 r.1 a1 (by rw[a3.size_eq];simp;omega) a4;refine fin _ (b1.trans a3) ?_;rw[show r.1+(n-r.1)=n by omega]at b2;show b2
 ·rw[if_neg ag];have:r.1=n:=⋯;show fin _ a3<|this▸a4
end
open PySem.SeqAt PySem.W
abbrev InP{α:Type}(n:Nat)(P:α->Prop):KasT α->Prop
 |.ret a=>P a
 |.ask i j k=>i<n/\j<n/\∀b,InP n P<|k b
def InP.bind{α β:Type}{P:α->Prop}{Q:β->Prop}{f:α->KasT β}:∀{t:KasT α},InP n P t->(∀a,P a->InP n Q (f a))->InP n Q (t.bind f)
 |.ret a,h,hf=>hf a h
 |.ask i j k,⟨h1,h2,h3⟩,hf=>⟨h1,h2,λb=>InP.bind (h3 b) hf⟩
def InP.mono{α:Type}{P Q:α->Prop}(hq:∀a,P a->Q a):∀{t:KasT α},InP n P t->InP n Q t
 |.ret a,h=>hq a h
 |.ask i j k,⟨h1,h2,h3⟩=>⟨h1,h2,λb=>InP.mono hq (h3 b)⟩
abbrev AllLt(n:Nat)(p:Zd 0):Prop:=∀k,p.getD k 0<n
def AllLt.of{p q:Zd 0}(h:AllLt n p)(g:∀k:Nat,q[k]?=b_\/∃k':Nat,q[k]?=p[k']?)(hn:0<n):AllLt n q:=λk=>by
 let e:∀(r:Zd 0) k,r.getD k 0=(r[k]?).getD 0:=λr k=>by simp[Array.getD_eq_getD_getElem?]
 rw[e];rcases g k with h1|⟨k',h1⟩
 ·rw[h1];show hn
 ·rw[h1,<-e];show h k'
def AllLt.perm{p q:Zd 0}(h:AllLt n p)(hp:q.Perm p)(hn:0<n):AllLt n q:=by
 refine AllLt.of h (λk=>?_) hn;cases e:q[k]? with
 |none=>exact .inl rfl
 |some v=>
  right;let hm:v∈q.toList:=by
   have:q.toList[k]?=a_ v:=by simpa using e
   show VI this
  let Tq:v∈p.toList:=(Array.perm_iff_toList_perm.mp hp).mem_iff.mp hm;let⟨k',hk⟩:=List.mem_iff_getElem?.mp Tq;show⟨k',by rw[<-hk];simp⟩
section
variable(hn:0<n)
include hn
def A7{p:Zd 0}(h:AllLt n p):∀f m,InP n (λ_=>True) (ZD f m)
 |0,m=>trivial
 |f+1,m=>⟨h _,h _,λb=>by
  cases b with
  |true=>exact trivial
  |false=>exact A7 h f (m+1)⟩
def pY:∀f (p:Zd 0) m q,AllLt n p->InP n (λr=>AllLt n r.1) (kas_desc f p m q)
 |0,p,m,q,h=>h
 |f+1,p,m,q,h=>⟨h _,h _,λb=>by
  cases b with
  |true=>
   change InP n _ (if q>0 then kas_desc f (q0g (m-(q+1)) m) (m+1) 0 else kas_desc f p (m+1) 0)
   by_cases hq:q>0
   ·rw[if_pos hq];show pY f _ _ _<|h.perm (Ym _ _ _ _) hn
   ·rw[if_neg hq];show pY f _ _ _ h
  | false=>exact ⟨h _,h _,fun d=>by
    cases d with
    |true=>exact h
    |false=>exact pY f _ _ _ h⟩⟩
def yT{p:Zd 0}(h:AllLt n p)(m r:Nat):InP n (λx=>AllLt n x.2) (kas_tail3 m r p):=by unfold kas_tail3;show InP.bind (A7 hn (h.perm (Ym _ _ _ _) hn) _ _) λa _=>h.perm (Ym _ _ _ _) hn
def pZ{p:Zd 0}(h:AllLt n p)(m r:Nat):InP n (λx=>AllLt n x.2) (kas_descPart m r p):=by
 unfold kas_descPart;refine InP.bind (pY hn _ _ _ _ h) λa ha=>?_;by_cases hq:a.2.2>0
 ·rw[if_pos hq];show yT hn (ha.perm (Ym _ _ _ _) hn) _ _
 ·rw[if_neg hq];show yT hn ha _ _
def F4{p:Zd 0}(h:AllLt n p)(r:Nat):InP n (λx=>AllLt n x.2) (kas_count r p):=by
 unfold kas_count;refine InP.bind (A7 hn h _ _) λa _=>?_;by_cases h1:(a == r)=true
 ·rw[if_pos h1];show h
 ·rw[if_neg h1];by_cases h2:a>1
  ·rw[if_pos h2];show⟨h _,h _,λb=>by
    cases b with
    |true=>exact h
    |false=>exact pZ hn (h.perm (Ym _ _ _ _) hn) _ _⟩
  ·rw[if_neg h2];show pZ hn h _ _
def qY{p:Zd 0}(h:AllLt n p)(k:Nat):∀f l r,InP n (λ_=>True) (ZN f l r)
 |0,l,r=>trivial
 |f+1,l,r=>by
  change InP n _ (if l >= r then .ret l else .ask (p.getD k 0) (p.getD ((l+r)/2) 0) λc=>if c=true then kas_place p k f l ((l+r)/2) else ZN f ((l+r)/2+1) r)
  by_cases hl:l >= r
  ·rw[if_pos hl];show trivial
  ·rw[if_neg hl];show⟨h _,h _,λb=>by
    cases b with
    |true=>exact qY h k f _ _
    |false=>exact qY h k f _ _⟩
def DU:∀f (p:Zd 0) k,AllLt n p->InP n (λ_=>True) (kas_bin f p k)
 |0,p,k,_=>trivial
 |f+1,p,k,h=>InP.bind (qY hn h k _ _ _) λl _=>DU f _ _ (h.perm (bubble_perm _ _ _) hn)
def uT:InP n (λ_=>True) (kas_sort n):=by
 let h0:AllLt n (Xy<|Vm n):=λk=>by
  by_cases hk:k<n
  ·simp[YQ,hk]
  ·simp[YQ,hk,hn]
 unfold kas_sort;refine InP.bind (F4 hn h0 n) λr hr=>?_;by_cases h:r.1<n
 ·rw[if_pos h];show DU hn _ _ _ hr
 ·rw[if_neg h];show trivial
end
def uU{α:Type}{n:Nat}{cmp:Nat->Nat->(j_ Bool)->td->Prop}{lt:Nat->Nat->Bool}{s:td}(hc:∀i j C,i<n->j<n->C (lt i j) s->cmp i j C s){Q:α->td->Prop}{P:α->Prop}:
  ∀{t:KasT α},InP n P t->Q (J_ t) s->t.kasWp cmp Q s
 |.ret _,_,h=>h
 |.ask i j k,⟨h1,h2,h3⟩,h=>hc i j _ h1 h2 (uU hc (h3 _) h)
abbrev ltX(n:Nat)(lt:Nat->Nat->Bool)(i j:Nat):Bool:=if i<n then(if j<n then lt i j else true) else false
def Mt{lt:Nat->Nat->Bool}(tr:∀i j k,i<n->j<n->k<n->lt j i=false->lt k j=false->lt k i=false)(i j k:Nat)(h1:ltX n lt j i=false)(h2:ltX n lt k j=false):ltX n lt k i=false:=by
 unfold ltX at*;by_cases hi:i<n <;> by_cases hj:j<n <;> by_cases hk:k<n <;> simp only[hi,hj,hk,if_true,if_false]at h1 h2⊢ <;> first|exact tr i j k hi hj hk h1 h2|exact absurd h2 nofun|exact absurd h1 nofun|rfl
def Mu{lt:Nat->Nat->Bool}(as:∀i j,i<n->j<n->lt i j=true->lt j i=false)(i j:Nat)(h:ltX n lt i j=true):ltX n lt j i=false:=by
 unfold ltX at*;by_cases hi:i<n <;> by_cases hj:j<n <;> simp only[hi,hj,if_true,if_false]at h⊢ <;> first|exact as i j hi hj h|exact absurd h nofun|rfl
def yU{α:Type}{n:Nat}{lt lt':Nat->Nat->Bool}(h:∀i j,i<n->j<n->lt i j=lt' i j){P:α->Prop}:∀{t:KasT α},InP n P t->J_ t=evT lt' t
 |.ret _,_=>rfl
 |.ask i j k,⟨h1,h2,h3⟩=>by
  change J_ (k<|lt i j)=evT lt' (k<|lt' i j)
  rw[h i j h1 h2];show yU h<|h3 _
def Be{lt:Nat->Nat->Bool}(tr:∀i j k,i<n->j<n->k<n->lt j i=false->lt k j=false->lt k i=false)(as:∀i j,i<n->j<n->lt i j=true->lt j i=false)(h1:1<=n):
  (J_<|kas_sort n).toList.Perm (Vm n)/\(J_<|kas_sort n).toList.Pairwise (λi j=>lt j i=false):=by
 let e:J_ (kas_sort n)=evT (ltX n lt) (kas_sort n):=yU (λi j hi hj=>by unfold ltX;rw[if_pos hi,if_pos hj])<|uT ⋯;let⟨a,b⟩:=JE (lt:=ltX n lt) (Mt tr) (Mu as) h1;rw[e];refine⟨a,b.imp_of_mem λ{i j} hi hj h=>?_⟩;let ak:i<n:=by simpa using a.mem_iff.mp hi
 let j9:j<n:=by simpa using a.mem_iff.mp hj
 unfold ltX at h;rw[if_pos j9,if_pos ak]at h;show h
variable{κ:SortKind}
def tH{vs:ZQ 0}{P:PySem.Fin->td->Prop}(lt:Nat->Nat->Bool)(tr:∀i j k,i<vs.length->j<vs.length->k<vs.length->lt j i=false->lt k j=false->lt k i=false)(as:∀i j,i<vs.length->j<vs.length->lt i j=true->lt j i=false)(ho:Zb 0=a_ (seqObj "list" vs.toArray n))(dh:vs.length<64)(hk:∀s':td,(∀b o,b≠a->N_ 0=a_ o->s'.heap.get? b=a_ o)->∀Q:j_ SortKind,Q κ s'->k_ (keyKind' vs.toArray) Q E s')(ag:∀s':td,(∀b o,b≠a->N_ 0=a_ o->s'.heap.get? b=a_ o)->∀i j,i<vs.length->j<vs.length->∀Q:j_ Bool,Q (lt i j) s'->k_ (keyLt' κ (Zn 0)<|vs.getD j Vn) Q (λ_ _=>False) s')(h:∀p:B_ Nat,p.Perm (Vm vs.length)->p.Pairwise (λi j=>lt j i=false)->P (.done<|.ret .none) {s with heap:=sortedHeap s.heap a vs (p.map λi=>Zn 0).toArray}):
  k_ (Builtin.«list.sort» ⟨[.ref a],[]⟩) P E s:=by
 rw[list_sort_plain];let ha:a<(e_ s):=Vd ho;refine SB<|listItems_at ho rfl ?_;refine SB (Xz ho rfl ?_ (by rw[Va,VQ];omega)<|Vw _);obtain⟨e1,d0⟩:∃e1,(X_<|VB λ_=>#[]).get? a=a_ (seqObj "list" #[] e1):=⟨_,Yn ho<|λ_=>#[]⟩;refine SB<|seqEpoch_at d0 rfl ?_;refine SB (wpAny_newTuple ?_ (by change vs.length<=_;rw[VQ];omega));refine SB<|wpAny_newList ?_<|Vw _;refine VO ?_;let nv:(((X_<|VB λ_=>#[]).push<|seqObj "tuple" vs.toArray 0).push<|seqObj "list" #[] 0).get? a=a_ (seqObj "list" #[] e1):=by rw[XU _ _ _ (by rw[size_push',Yy];show Vh<|XW ha),XU _ _ _ (by rw[Yy];show Vh ha)];show d0
 let kept:∀b o,b≠a->N_ 0=a_ o->(((X_<|VB λ_=>#[]).push<|seqObj "tuple" vs.toArray 0).push<|seqObj "list" #[] 0).get? b=a_ o:=λb o hb e=>Zp<|Zp<|(Wg s.heap (VB λ_=>#[])<|Wx hb).trans e
 change k_ _ P E {s with heap:=((X_<|VB λ_=>#[]).push<|seqObj "tuple" vs.toArray 0).push (seqObj "list" #[] 0)}
 dsimp only;let hsz:vs.toArray.size=vs.length:=by simp
 by_cases h2:vs.toArray.size<2
 ·rw[if_pos h2,if_pos h2];refine SB<|SL ?_;rw[StateT.run_pure];refine SB<|SL ?_;dsimp only;refine SB<|seqEpoch_at nv rfl ?_;refine SB (Xz nv rfl ?_ (Vw _) (hsz2:=by rw[Array.size_map];change(pairsOf vs).size<=_;rw[pairsOf_size,VQ];omega));simp only[bne_self_eq_false,VV,if_false];let e:(vs.toArray.zip vs.toArray).map (·.2)=((Vm vs.length).map λi=>Zn 0).toArray:=by
   apply Array.toList_inj.mp;apply Wr;intro i;by_cases hi:i<vs.length
   ·simp[hi]
   ·simp[hi]
  let key:=h (Vm vs.length) (XF _) (by rw[Wa];intro i j hi hj cu;simp only[XX]at hi hj;omega);rw[<-e]at key;show SL key
 ·rw[if_neg h2,if_neg h2];let fj:2<=vs.length:=⋯;refine SB (hk _ kept _ ?_);refine SB (WE (kat_run (ks:=vs) (vs:=vs) (E:=E) (Q:=λbu s'=>s'={s with heap:=((X_ (VB λ_=>#[])).push (seqObj "tuple" vs.toArray 0)).push (seqObj "list" #[] 0)}/\arrOf bu=(J_ (kas_sort vs.length)).map (kas_item (vs.toArray.zip vs.toArray))/\failedOf bu=b_)
   (G:=λp s'=>p=J_ (kas_sort vs.length)/\s'={s with heap:=((X_<|VB λ_=>#[]).push<|seqObj "tuple" vs.toArray 0).push (seqObj "list" #[] 0)}) rfl fj dh (λp bu s' _ a2 a3 a4=>⟨a4.2,by rw[a2,a4.1],a3⟩)
   (uU (n:=vs.length) (lt:=lt) (λi j C hi hj hC=>ag _ kept i j hi hj C hC) (uT ⋯) ⟨rfl,rfl⟩)) ?_ λ_ _ e=>e)
  rintro⟨⟨⟩,bu⟩ s' ⟨rfl,har,hf⟩;dsimp only;let jv:=kat_snds (ks:=vs) (vs:=vs) rfl har;let⟨c1,c2⟩:=Be tr as ⋯;refine SB (seqEpoch_at nv rfl ?_);refine SB (Xz nv rfl ?_ (Vw _) (hsz2:=by
   have:(Array.map (λx=>x.snd)<|arrOf bu).size<=Ve:=by rw[jv,Va,U5,c1.length_eq,XX,VQ];omega
   first|exact this|exact XY this))
  rw[hf];simp only[bne_self_eq_false,VV,if_false];let key:=h _ c1 c2;rw[<-jv]at key;show SL key
abbrev kD:Key->D
 |.inl i=>.int i
 |.inr x=>.str x
abbrev tD(ks:Zt 0):D:=.tup<|ks.map kD
def JF{k:Key}(h:Rep K H (kD k) v):v=kV k:=by cases k <;> exact h
def yV{K:UF}{H:Hp}:∀{ks:Zt 0}{vs:B_ V},dH K H (ks.map kD) vs->vs=ks.map kV
 |[],[],_=>rfl
 |k::ks,v::vs,⟨h,r⟩=>by rw[JF h,yV (ks:=ks) r];rfl
 |[],_::_,h=>h.elim
 |_::_,[],h=>h.elim
@[reducible]def nC(h:w_):ZQ 0->B_ (Zt 0)->Prop:=Paired λv ks=>∃a us,v=.ref a/\IsTup h a us.toArray/\aJ (ks.map kV) us
def nC.get{h:w_}:∀{vs:ZQ 0}{af:B_ (Zt 0)}{i:Nat},nC h vs af->i<vs.length->∃a us,Zn 0=.ref a/\IsTup h a us.toArray/\aJ ((af.getD i []).map kV) us
 |_,_,i,.nil,hi=>by simp at hi
 |_,_,0,.cons ⟨a,us,e,p,q⟩ t,hi=>⟨a,us,l_ e,p,l_ q⟩
 |_,_,i+1,.cons _ t,hi=>by
  let⟨a,us,e,p,q⟩:=nC.get (i:=i) t<|l_ hi;show⟨a,us,l_ e,p,l_ q⟩
def uV{X:Cx}{jn:g_ 0}{σ:St}{H:Hp}{s:td}(I:P1 s):∀{af:B_ (Zt 0)}{vs:B_ V}{us:ZQ 0},dH X.K H (af.map tD) vs->aJ vs us->nC s.heap us af
 |[],[],_,_,.nil=>.nil
 |ks::af,v::vs,_,⟨⟨a,ws,e,q,r⟩,rs⟩,.cons rv iq=>by
  subst e;cases rv
  let⟨its,r2,p,_⟩:=I.tuple q;rw[yV r]at r2;show .cons ⟨a,its,rfl,p,r2⟩<|uV I rs iq
 |[],_::_,_,h,_=>h.elim
 |_::_,[],_,h,_=>h.elim
variable{ls:Zt 0}{us ws:ZQ 0}{af:B_ (Zt 0)}{sh:B_ Bool}
section
def lN{b:Bool}{Q:j_ Bool}:∀(ks ls:Zt 0)(us ws:ZQ 0)(i:Nat),aJ (ks.map kV) us->aJ (ls.map kV) ws->shape ks=shape ls->Q (bK ks ls) s->KatLex prog w A b false Q (us.zip ws) i s
 |[],[],_,_,i,.nil,.nil,_,h=>h
 |[],_::_,_,_,_,_,_,e,_=>by cases e
 |_::_,[],_,_,_,_,_,e,_=>by cases e
 |x::ks,y::ls,_,_,i,.cons (b:=u) r1 t1,.cons (b:=v) r2 t2,e,h=>by
  let s1:fO x=fO y:=by simpa using congrArg List.head? e
  let s2:shape ks=shape ls:=by simpa using congrArg List.tail e
  rw[List.zip_cons_cons];unfold bK at h;cases x with
  |inl a=>
   cases y with
   |inr c=>cases s1
   |inl c=>
    let⟨t,rfl⟩:=r1;let⟨t',rfl⟩:=r2;refine kat_cons<|EqAt.int_int a t c t' prog w _ _ ?_;by_cases ac:a=c
    ·subst ac;rw[YX 0]at h;rw[beq_self_eq_true];show kat_yes<|lN ks ls _ _ (i+1) t1 t2 s2 h
    ·rw[if_neg<|λz=>ac<|Sum.inl.inj z]at h;rw[beq_eq_false_iff_ne.mpr ac];refine kat_no ?_;cases hb:(b&&i == 0) with
     |true=>exact oneLt_int h
     |false=>exact kat_one _ _ (lt_int<|show PySem.W.BoolBack Q (.bool<|decide (a<c)) s from h)
  |inr a=>
   cases y with
   |inl c=>cases s1
   |inr c=>
    let⟨t,rfl⟩:=r1;let⟨t',rfl⟩:=r2;refine kat_cons<|EqAt.str_str a t c t' prog w _ _ ?_;by_cases ac:a=c
    ·subst ac;rw[YX 0]at h;rw[beq_self_eq_true];show kat_yes<|lN ks ls _ _ (i+1) t1 t2 s2 h
    ·rw[if_neg<|λz=>ac<|Sum.inr.inj z]at h;rw[beq_eq_false_iff_ne.mpr ac];refine kat_no ?_;cases hb:(b&&i == 0) with
     |true=>exact oneLt_str h
     |false=>exact kat_one _ _ (lt_str<|show PySem.W.BoolBack Q (.bool<|decide (a.cps.toList<c.cps.toList)) s from h)
def CB{x y:t_}{ks:Zt 0}{Q:j_ Bool}(hx:q0j x us.toArray)(hy:q0j y ws.toArray)(r1:aJ (ks.map kV) us)(r2:aJ (ls.map kV) ws)(e:shape ks=shape ls)(h:Q (bK ks ls) s):
  k_ (keyLt' (tuples' b) (.ref x)<|.ref y) Q E s:=by
 let⟨ox,qt,_,n,dx⟩:=hx;let⟨oy,uq,_,m,dy⟩:=hy;refine kat_lt qt dx uq dy ?_;let l1:=r1.length;let l2:=r2.length;let l3:ks.length=ls.length:=by simpa using congrArg List.length e
 rw[U5]at l1 l2;let hf:decide (us.toArray.size<ws.toArray.size)=false:=decide_eq_false (by simp;omega);rw[hf];show lN ks ls us ws 0 r1 r2 e h
set_option tactic.hygienic true in
def uW{h:w_}{b:Bool}{sh:B_ Bool}:∀{vs:ZQ 0}{af:B_ (Zt 0)},nC h vs af->(∀ks∈af,shape ks=b::sh)->∃fs:ZQ 0,fs.length=vs.length/\KatTups h vs fs/\∀f∈fs,typeOf f=pure (.type<|if b then "int" else "str")
 |_,_,.nil,_=>⟨[],rfl,KatTups.nil,λ_ hf=>nomatch hf⟩
 |_,_,.cons (b:=ks) ⟨a,us,e,⟨o,ho,hc,n,hd⟩,r⟩ t,hs=>by
  let⟨fs,hl,ht,hT⟩:=uW t λx hx=>hs x<|U8 _ hx;let h0:=hs ks UV;subst e;cases ks with
  |nil=>cases h0
  |cons k ks=>
   cases r with
   |cons rk rks=>
    rename_i u us';let hk:fO k=b:=by simpa using congrArg List.head? h0
    refine⟨u::fs,by simp[hl],KatTups.cons ho hc hd (by simp) ht,λf hf=>?_⟩;rcases U9.mp hf with rfl|hf
    ·cases k with
     |inl i=>let⟨tk,rfl⟩:=rk;subst hk;rfl
     |inr x=>let⟨tk,rfl⟩:=rk;subst hk;rfl
    ·show hT f hf
def F5{vs:ZQ 0}{Q:j_ SortKind}(t:nC s.heap vs af)(hs:∀ks∈af,shape ks=b::sh)(h0:0<vs.length)(h:Q (tuples' true) s):k_ (keyKind' vs.toArray) Q E s:=by
 let⟨fs,hl,ht,hT⟩:=uW t hs;refine kat_kind (T:=.type<|if b then "int" else "str") ht ⋯ (λv hv=>by rw[hT v hv];show Looks.now) (by cases b <;> rfl) ?_;have:((WV<|if b then "int" else "str") != WV "tuple")=true:=by cases b <;> rfl
 rw[this];show h
def qZ{P:PySem.Fin->td->Prop}(ho:Zb 0=a_ (seqObj "list" ([]:ZQ 0).toArray n))(h:P (.done<|.ret .none) {s with heap:=sortedHeap s.heap a [] #[]}):k_ (Builtin.«list.sort» ⟨[.ref a],[]⟩) P E s:=by
 rw[list_sort_plain];refine SB<|listItems_at ho rfl ?_;refine SB<|Xz ho rfl ?_ (Vw _)<|Vw _;let ha:a<(e_ s):=Vd ho;obtain⟨e1,d0⟩:∃e1,(X_<|VB λ_=>#[]).get? a=a_ (seqObj "list" #[] e1):=⟨_,Yn ho<|λ_=>#[]⟩;refine SB<|seqEpoch_at d0 rfl ?_;refine SB<|wpAny_newTuple ?_<|Vw _;refine SB<|wpAny_newList ?_<|Vw _;refine VO ?_;let nv:(((X_<|VB λ_=>#[]).push<|seqObj "tuple" ([]:ZQ 0).toArray 0).push<|seqObj "list" #[] 0).get? a=a_ (seqObj "list" #[] e1):=by rw[XU _ _ _ (by rw[size_push',Yy];show Vh<|XW ha),XU _ _ _ (by rw[Yy];show Vh ha)];show d0
 change k_ _ P E {s with heap:=((X_<|VB λ_=>#[]).push<|seqObj "tuple" ([]:ZQ 0).toArray 0).push (seqObj "list" #[] 0)}
 dsimp only;rw[if_pos nofun,if_pos nofun];refine SB<|SL ?_;rw[StateT.run_pure];refine SB<|SL ?_;dsimp only;refine SB<|seqEpoch_at nv rfl ?_;let e0:(Array.map (λx=>x.snd)<|arrOf<|SortSt.mk' general' ((#[]:YY 0).zip (#[]:YY 0)) #[] 7 b_)=(#[]:YY 0):=by
  change Array.map (λx=>x.snd) ((#[]:YY 0).zip (#[]:YY 0))=#[]
  simp
 refine SB (Xz nv rfl ?_ (Vw _) (hsz2:=by
  let e1:(Array.map (λx=>x.snd)<|arrOf<|SortSt.mk' general' ((#[]:YY 0).zip (#[]:YY 0)) #[] 7 b_).size=0:=by rw[e0];rfl
  first|exact VS (Nat.le_of_eq e1) (Vw _)|(show _<=_;omega)))
 simp only[bne_self_eq_false,VV,if_false];refine SL ?_
 change P (.done<|.ret .none) {s with heap:=(((X_<|VB λx=>#[]).push<|seqObj "tuple" ([]:ZQ 0).toArray 0).push<|seqObj "list" #[] 0).update a (VB λx=>Array.map (λx=>x.snd)<|arrOf<|SortSt.mk' general' ((#[]:YY 0).zip (#[]:YY 0)) #[] 7 b_)}
 rw[e0];show h
def yW{v:s_}(Sl:ZQ 0->td->Prop)(hc:m_ prog w A.in1 (collect v) Sl E s)(h:∀vs s1,Sl vs s1->vs.length<64/\∃lt:Nat->Nat->Bool,(∀i j k,i<vs.length->j<vs.length->k<vs.length->lt j i=false->lt k j=false->lt k i=false)/\(∀i j,i<vs.length->j<vs.length->lt i j=true->lt j i=false)/\
   (∀(A':v_)(s':td),(∀b o,s1.heap.get? b=a_ o->s'.heap.get? b=a_ o)->0<vs.length->∀(Q:j_ SortKind) E',Q κ s'->m_ prog w A' (keyKind' vs.toArray) Q E' s')/\
   (∀(s':td),(∀b o,s1.heap.get? b=a_ o->s'.heap.get? b=a_ o)->∀i j,i<vs.length->j<vs.length->∀Q:j_ Bool,Q (lt i j) s'->m_ prog w A.in1.in1 (keyLt' κ (Zn 0)<|vs.getD j Vn) Q (λ_ _=>False) s')/\
   ∀(p:B_ Nat)(h':w_)(e:Nat),p.Perm (Vm vs.length)->p.Pairwise (λi j=>lt j i=false)->(∀b o,s1.heap.get? b=a_ o->Zf 0=a_ o)->h'.get? (e_ s1)=a_ (seqObj "list" (p.map λi=>Zn 0).toArray e)->Q (.ref (e_ s1)) {s1 with heap:=h'}):
  k_ (call (.builtin "sorted") [v]) Q E s:=by
 refine Calls.call_function_entry kind_sorted plain_sorted entry_sorted (args_sorted1 _) ?_;unfold Builtin.«sorted»;refine SB (m:=checkCount "sorted" 1 1 _)<|SL ?_;refine SB<|WE hc (λvs s1 c=>?_) λ_ _ x=>x;let⟨dh,lt,tr,as,hk,ag,fin⟩:=h vs s1 c;refine SB (wpAny_newList ?_ (by rw[VQ];omega));let gw:(s1.heap.push<|seqObj "list" vs.toArray 0).get? (e_ s1)=a_ (seqObj "list" vs.toArray 0):=Zc 0;let keep:∀b o,s1.heap.get? b=a_ o->b≠(e_ s1)/\(s1.heap.push<|seqObj "list" vs.toArray 0).get? b=a_ o:=λb o q=>⟨Vh<|Vd q,Zp q⟩
 change u_ _ _ _ {s1 with heap:=s1.heap.push (seqObj "list" vs.toArray 0)}
 refine SB<|VO<|VD slot_list_sort ⟨_,gw,rfl⟩ entry_list_sort ?_<|args_list_sort _;let tree:m_ prog w A.in1.in1 (Builtin.«list.sort» ⟨[.ref<|e_ s1],[]⟩) (λr s'=>∃p:B_ Nat,r=.done (.ret .none)/\p.Perm (Vm vs.length)/\p.Pairwise (λi j=>lt j i=false)/\s'={s1 with heap:=sortedHeap (s1.heap.push<|seqObj "list" vs.toArray 0) (e_ s1) vs (p.map λi=>Zn 0).toArray}) E {s1 with heap:=s1.heap.push (seqObj "list" vs.toArray 0)}:=by
  by_cases h0:0<vs.length
  ·show tH (κ:=κ) lt tr as gw dh (λs' kp Q hq=>hk _ s' (λb o e=>kp b o (keep b o e).1 (keep b o e).2) h0 Q _ hq) (λs' kp i j hi hj Q hq=>ag s' (λb o e=>kp b o (keep b o e).1 (keep b o e).2) i j hi hj Q hq) λp a1 a2=>⟨p,rfl,a1,a2,rfl⟩
  ·let e0:vs=[]:=List.length_eq_zero_iff.mp ⋯;subst e0;show qZ gw ⟨[],rfl,XF _,Ys,rfl⟩
 refine WE tree (λr s' hr=>?_) λ_ _ x=>x;let⟨p,rfl,a1,a2,rfl⟩:=hr;refine⟨_,rfl,SL ⟨_,rfl,?_⟩⟩;let⟨e,he⟩:=sortedHeap_at (h:=s1.heap.push<|seqObj "list" vs.toArray 0) (out:=(p.map λi=>Zn 0).toArray) gw;show fin p _ e a1 a2 (λb o q=>(sortedHeap_old (keep b o q).1 (by rw[size_push'];show XW<|Vd q)).trans (keep b o q).2) he
end
def yX{α:Type}{xs:B_ α}{d:α}{p:B_ Nat}(h:p.Perm (Vm xs.length)):(p.map λi=>xs.getD i d).Perm xs:=by
 let e:(Vm xs.length).map (λi=>xs.getD i d)=xs:=by
  apply Wr;intro i;by_cases hi:i<xs.length
  ·simp[hi]
  ·simp[hi]
 have:=h.map λi=>xs.getD i d
 rwa[e]at this
def rA{vs:B_ V}{us:ZQ 0}(r:aJ vs us):∀{p:B_ Nat},(∀i∈p,i<vs.length)->aJ (p.map λi=>vs.getD i .non) (p.map λi=>us.getD i Vn)
 |[],_=>.nil
 |i::p,h=>by
  let hi:=h i UV;let g:vs[i]?=a_ (vs.getD i .non):=by simp[hi]
  let⟨u,hu,hr⟩:=r.get g;let e:us.getD i Vn=u:=by simp[Wv,hu]
  refine .cons ?_<|rA r λj hj=>h j<|U8 _ hj
  change RelV (vs.getD i .non) (us.getD i Vn)
  rw[e];show hr
def xI:typeLookup (.type "tuple") "keys" = pure b_:=by rw[Yo,W6];kernel_rfl
def nY:entryFor table "dict.update.loop" = a_ Builtin.«dict.update.loop»:=entryFor_of_tree (by kernel_rfl)
def fI:plainId "dict.update.loop" = true:=by decide +kernel
def xJ{o:Obj}{xs:YY 0}{k:Nat}{Q:C_ s_->td->Prop}(hx:Zb 0=a_ o)(hc:o.cls=.type "tuple")(jc:o.data=.seq xs k)(hd:o.dict=b_)(hA:A.handled=b_)(h:∀h' tk,(∀b u,N_ 0=a_ u->Zf 0=a_ u)->Q b_ {s with heap:=h',toks:=tk}):k_ (getAttr? (.ref a) "keys") Q E s:=by
 let⟨c,vb,dat,sl⟩:=o;simp only at hc jc hd;subst hc jc hd;let⟨hp,g,d,tk,os⟩:=s;let hT:∀om,(⟨hp,g,d,om,os⟩:td).TypeIs (.ref a) "tuple" := λ_=>⟨_,hx,rfl⟩;let f1:=sub_AttributeError;let f3:=F.slot_tuple_getattribute.lookup;let f4:=F.slot_tuple_getattribute.bind<|.ref a;let f5:=am_tuple_getattr_none;unfold getAttr? getAttrBy? getAttrBy
 repeat (any_goals (first|assumption|exact hT _|((with_reducible show wpAny _ _ (call (Value.builtin "tuple.__getattribute__") _ _) _ _ _);refine call_meets F.slot_tuple_getattribute (hT _) am_entry_tuple_getattribute (F.args_tuple_getattribute_2 _ _) (meets_getattribute_miss_tuple a xs k sl "keys" _ xI nofun<|by size_fits) ⟨hx,hA,λh' om e de=>?_⟩)|wp_step))
 let⟨t',u',he⟩:=de.there
 change u_ (getattributeRaised _ _ _ _ _ _ _) _ _ _
 unfold getattributeRaised
 repeat (any_goals (first|assumption|wp_step))
 show h _ _ de.of.keeps
variable{I:t_}{fp wr:B_ t_}
section
variable{K:Type}[DecidableEq K]{knd:KeyKind prog w K}
def CC{d:t_}{P:Nat->s_->Prop}{St:Nat->w_->Prop}(W:Walks prog w A.in1 I fp wr n P St)(hd:d∉fp)(ps:B_ (t_×K×s_×s_))(hn:ps.length=n)(hP:∀i v,P i v->∃p,ps[i]?=a_ p/\v=.ref p.1)(hT:∀p∈ps,p.1∉wr/\p.1≠d)(hk:∀p∈ps,knd.is p.2.1 p.2.2.1=true)(res:s_):
  ∀(m i:Nat)(s:td)(kvs:B_ (K×s_)),n-i=m->i<=n->St i s.heap->s.heap.DictOf knd d kvs->kvs.length+n<=Ve+i->(∀p∈ps,q0j p.1 #[p.2.2.1,p.2.2.2])->
  (∀h' tk,h'.DictOf knd d (merged kvs<|(ps.drop i).map λp=>(p.2.1,p.2.2.2))->(∀b o,b≠d->b∉wr->N_ 0=a_ o->Zf 0=a_ o)->R (.ok<|.ret res) {s with heap:=h',toks:=tk})->
  codeAny (Z8 0) A (.builtin "dict.update.loop" ⟨[.ref d,.ref I,rawInt i,res],[]⟩) R s:=by
 let Sj:d∉wr:=λh=>hd<|W.sub _ h;intro m
 induction m with
 |zero=>
  intro i s kvs hm hi cg k0 hz hit hR;let cp:i=n:=⋯;subst cp;refine Xo nY ?_;rw[WQ fI _]
  change wpAny _ A.in1 (pyNext (.ref I) >>= _) _ _ s
  refine SB<|W.done s _ _ cg λh' tk d9=>?_
  change wpAny _ A.in1 (Builtin.Dict.addKeywords d [] >>= _) _ _ _
  let nk:=hR h' tk (by rw[List.drop_of_length_le ⋯];let⟨o,es,ep,h1,h2⟩:=k0;show⟨o,es,ep,d9 d _ Sj h1,h2⟩) λb o _ hb e=>d9 b o hb e;show SB<|SL<|SL nk
 |succ m ih=>
  intro i s kvs hm hi cg k0 hz hit hR;let ag:i<n:=⋯;refine Xo nY ?_;rw[WQ fI _]
  change wpAny _ A.in1 (pyNext (.ref I) >>= _) _ _ s
  refine SB<|W.item i s _ _ ag cg λv h' tk T2 ja d9=>?_;let⟨p,hp,rfl⟩:=hP i v T2;let w8:=VI hp;let⟨ob,Uz,kj,nn,Tf⟩:=hit p w8;let p8:=d9 _ _ (hT p w8).1 Uz;let UL:({s with heap:=h',toks:=tk}:td).TypeIs (.ref p.1) "tuple" := ⟨ob,p8,kj⟩;let wc:h'.DictOf knd d kvs:=by let⟨o,es,ep,h1,h2⟩:=k0;show⟨o,es,ep,d9 d _ Sj h1,h2⟩
  refine SB<|VO<|SB<|wpAny_tryCatch ?_;unfold Builtin.Dict.pairItems;refine SB<|Xv UL ?_;rw[if_pos nofun];refine SB<|wpAny_seqItems p8 Tf<|SL ?_
  change u_ (holding [p.2.2.1,p.2.2.2]<|dictSet d p.2.2.1 p.2.2.2) _ _ _
  refine VO (wpAny_dictSet_pairs (hk p w8) wc (hsz:=by omega) λh2 hd2 gf=>?_);refine SL ⟨X8 fI _,?_⟩;let jm:St (i+1) h2:=W.frame (i+1) h' h2 ja λb hb o e=>(gf.2 b<|λz=>hd<|z▸hb).trans e;refine ih (i+1) _ (stored kvs p.2.1 p.2.2.2) ⋯ ag jm hd2 ?_ (λq hq=>?_) λh3 S9 TL To=>?_
  ·have:=stored_length_le kvs p.2.1 p.2.2.2;omega
  ·let⟨UO,c1,c2⟩:=hit q hq;show⟨UO,(gf.2 _ (hT q hq).2).trans<|d9 _ _ (hT q hq).1 c1,c2⟩
  ·refine hR h3 S9 ?_ λb o hb hw e=>To b o hb hw<|(gf.2 b hb).trans<|d9 b o hw e;let vo:ps.drop i=p::ps.drop (i+1):=by let⟨hl,e⟩:=SC.mp hp;rw[List.drop_eq_getElem_cons hl,e]
   rw[vo];show TL
def tJ{o:Obj}{k:Nat}{ps:B_ (t_×K×s_×s_)}(hA:A.handled=b_)(hx:Zb 0=a_ o)(hc:o.cls=.type "tuple")(jc:o.data=.seq (ps.map λp=>Vu p.1).toArray k)(hd:o.dict=b_)(hk:∀p∈ps,knd.is p.2.1 p.2.2.1=true)(hit:∀p∈ps,q0j p.1 #[p.2.2.1,p.2.2.2])(hz:ps.length<=Ve)(h:∀h' tk,h'.DictOf knd (e_ s) (merged []<|ps.map λp=>(p.2.1,p.2.2.2))->(∀b u,N_ 0=a_ u->Zf 0=a_ u)->Q (.ref<|e_ s) {s with heap:=h',toks:=tk}):
  k_ (call (.type "dict") [.ref a]) Q E s:=by
 refine callType_codes (Q₁:=λobj s₁=>obj=.ref (e_ s)/\s₁={s with heap:=s.heap.push {cls:=.type "dict",data:=.dict #[]} }) F.kt_called_dict (F.kt_typeCall_dict_1 _) F.entry_dict_init (kt_code_dict_new _ ⟨rfl,rfl⟩) ?_;rintro obj s₁ ⟨rfl,rfl⟩;let jd:(s.heap.push {cls:=.type "dict",data:=.dict #[]}).DictOf knd (e_ s) []:=Heap.DictOf.new s.heap;let up:∀b u,N_ 0=a_ u->(s.heap.push {cls:=.type "dict",data:=.dict #[]}).get? b=a_ u:=λb u e=>Zp e;let Tb:({s with heap:=s.heap.push {cls:=.type "dict",data:=.dict #[]} }:td).TypeIs (.ref a) "tuple" := ⟨o,up _ _ hx,hc⟩;refine⟨jd.typeIs,F.args_dict_init_2 _ _,?_⟩;unfold Builtin.«dict.__init__»;refine SB ?_;unfold Builtin.Dict.selfAndRest;refine SB (XA jd.typeIs<|show u_ (pure (s.heap.objs.size,[Vu a])) _ _ _ from SL ?_)
 change u_ (Builtin.Dict.updateFrom "dict.__init__" (e_ s) (.ref a) [] .none) _ _ _
 unfold Builtin.Dict.updateFrom;refine SB<|Xv Tb ?_;rw[if_pos nofun];refine SB<|xJ (up _ _ hx) hc jc hd hA λh1 TF si=>?_;rw[if_pos<|by rfl];refine SB<|XT ?_;let o5:IsTup h1 a (ps.map λp=>Vu p.1).toArray:=⟨o,si _ _<|up _ _ hx,hc,k,jc⟩;refine SB (wpAny_pyIter_tuple (show({s with heap:=h1,toks:=TF}:td).heap.IsTuple a _ from o5) (SL ⟨X8 fI _,?_⟩))
 let vd:(e_ s)<h1.objs.size:=by have:=si (e_ s) _<|U7 s.heap rfl;show Vd this
 let ag:∀b u,N_ 0=a_ u->b<(e_ s):=λb u e=>Vd e;let Si:=ag _ _ hx;refine CC (knd:=knd) (fp:=[h1.objs.size,a]) (wr:=[h1.objs.size]) (n:=(ps.map λp=>Vu p.1).toArray.size) (Walks.tuple (A:=A.in1.in1) hA h1.objs.size a (Vh<|YG Si vd) (ps.map λp=>Vu p.1).toArray) ?_ ps (by simp) (λi v e=>?_) (λp hp=>?_) hk .none _ 0 _ [] (Nat.sub_zero _) (Vw _) ?_ ?_ (l_ hz) (λp hp=>?_) λh' tk dd kk=>?_
 ·intro z;rcases U9.mp z with z|z
  ·show Vh vd z
  ·show Vh Si (Vc.mp z).symm
 ·let e':(ps.map λp=>Vu p.1)[i]?=a_ v:=by simpa using e
  rw[Vk]at e';let⟨p,hp,rfl⟩:=Vr.mp e';show⟨p,hp,rfl⟩
 ·let⟨ob,e,_⟩:=hit p hp;let h0:=ag _ _ e;show⟨λz=>Vh (YG h0 vd)<|Vc.mp z,Vh h0⟩
 ·refine⟨⟨_,Zc 0,rfl,rfl⟩,?_⟩;let⟨ob,e,r⟩:=o5;show⟨ob,Zp e,r⟩
 ·let⟨oo,es,ep,e,r⟩:=jd;show⟨oo,es,ep,Zp<|si _ _ e,r⟩
 ·let⟨ob,e,r⟩:=hit p hp;show⟨ob,Zp<|si _ _<|up _ _ e,r⟩
 ·refine⟨rfl,h h' tk (l_ dd) λb u e=>?_⟩;let h0:=ag _ _ e;show kk b u (Vh h0) (λz=>Vh (YG h0 vd)<|Vc.mp z)<|Zp<|si _ _<|up _ _ e
end
variable{key:s_}
section
variable{K:Type}[DecidableEq K]
def rB{knd:KeyKind prog w K}{d:t_}{kvs:B_ (K×s_)}{k:K}{x:s_}(ba:knd.is k key=true)(hm:s.heap.DictOf knd d kvs)(hz:kvs.length<=Ve)(there:∀v,valueAt kvs k=a_ v->Q v { s with toks:=s.toks+1})(new:valueAt kvs k=b_->∀h',h'.DictOf knd d (stored kvs k x)->WD d s.heap h'->Q x {s with heap:=h',toks:=s.toks+1}):k_ (dictSetDefault d key x) Q E s:=by
 let uf:=hm.mapOf;let⟨o,es,ep,ho,hc,hd,hk,hp,hn⟩:=id hm;let fv:es.size<=Ve:=by let e1:=hp.length;rw[X5]at e1;omega
 unfold dictSetDefault;refine VO<|SB<|knd.pyHash ba<|SB<|wpAny_dictFind_of (s:={ s with toks:=s.toks+1}) ba ho hd hk ?_;let yr:(es.findIdx? λe=>knd.is k e.key)=kvs.findIdx? λkv=>decide (kv.1=k):=by rw[<-hp.findIdx k];let⟨l⟩:=es;simp
 cases hi:es.findIdx? λe=>knd.is k e.key with
 |some i=>
  refine SB<|Ws (s:={ s with toks:=s.toks+1}) ho hd ?_;let⟨o',es',iu,cy,_,du,_,hf⟩:=uf;obtain rfl:o=o':=Vv<|ho.symm.trans cy;let zc:es=es':=by rw[hd]at du;injection du
  subst zc;let SK:valueAt kvs k=(es[i]?).map (·.val):=by rw[<-hf k,findBy_of_findIdx?,hi]
  let ag:i<es.size:=(Array.findIdx?_eq_some_iff_findIdx_eq.mp hi).1;rw[Vq ag]at SK⊢;show SB<|XT<|SL<|there _ SK
 |none=>
  let fresh:k∉kvs.map (·.1):=not_mem_of_findIdx_none<|yr▸hi;let qc:¬ (kvs.any λkv=>decide (kv.1=k))=true:=by rw[List.any_eq_true];rintro⟨kv,q1,q2⟩;show fresh<|Vp.mpr ⟨kv,q1,of_decide_eq_true q2⟩
  let hv:valueAt kvs k=b_:=by
   let⟨o',es',iu,cy,_,du,_,hf⟩:=uf;obtain rfl:o=o':=Vv<|ho.symm.trans cy;let zc:es=es':=by rw[hd]at du;injection du
   subst zc;rw[<-hf k,findBy_of_findIdx?,hi]
  refine SB<|XT<|SB<|wpAny_updateDictKeys (hz:=fv) (s:={ s with toks:=s.toks+1}) ho hd (SL<|new hv _ ⟨_,_,ep+1,VU _ ho<|Obj.isFreed_of_dict<|Obj.data_mapDictKeys hd _,hc.mapDictKeys _,Obj.data_mapDictKeys hd _,hk.push ba _,?_,?_⟩<|Vz ..)
  ·rw[stored,if_neg qc];let q:=hp.append ba (knd.hash k) x;let⟨l⟩:=es;simpa using q
  ·rw[stored,if_neg qc,VW,Xk];refine⟨hn,by simp,λu yx v o9 e=>fresh ?_⟩;have:v=k:=by simpa using o9
   rw[<-this,<-e];show yx
end
section
variable{K:Type}[DecidableEq K]
def kG(knd:KeyKind prog w K)(d:t_)(hd:(d == Wi)=false){k:K}(ba:knd.is k key=true)(x:s_):
  MeetsIn prog w (Builtin.«dict.setdefault» ⟨[.ref d,key,x],[]⟩) (λA R s=>∃kvs,s.heap.DictOf knd d kvs/\kvs.length<=Ve/\(∀v,valueAt kvs k=a_ v->R (.ok (.ret v)) { s with toks:=s.toks+1})/\
   (valueAt kvs k=b_->∀h',h'.DictOf knd d (stored kvs k x)->WD d s.heap h'->R (.ok (.ret x)) {s with heap:=h',toks:=s.toks+1})):=
 .of_wp λA R s ⟨kvs,hm,hz,r1,r2⟩=>by
  unfold Builtin.«dict.setdefault»;refine SB ?_;unfold Builtin.Dict.keyAndDefault;refine SB (XA hm.typeIs<|show u_ (pure (d,key,a_ x)) _ _ s from SL ?_)
  change u_ (if(d == Wi)=true then _ else(dictSetDefault d key x >>= _)) _ _ s
  rw[if_neg (show ¬ _ from by rw[hd];decide)]
  show SB<|rB ba hm hz (λv e=>SL ⟨v,rfl,r1 v e⟩) λe h' q1 q2=>SL ⟨x,rfl,r2 e h' q1 q2⟩
end
variable{dc:t_}{ep:Nat}{oc:Obj}{it:t_}
section
variable{v:t_}{es:Array Xw}
def F6(hv:s.heap.IsValuesView v dc)(h1:Zv 0=a_ oc)(h2:oc.data=.dict es ep)(q:Q (.ref<|e_ s) {s with heap:=s.heap.push {cls:=.type "dict_valueiterator",data:=.fields #[.ref dc,.int 0 0,.int es.size 0,.int ep 0]} }):k_ (pyIter<|.ref v) Q E s:=by
 let⟨ov,g1,g2,g3⟩:=id hv;refine XZ hv.typeIs F.slot_dict_values_iter (VD F.slot_dict_values_iter hv.typeIs F.entry_dict_values_iter (show u_ (Builtin.«dict_values.__iter__» _) _ _ _ from ?_) (F.args_dict_values_iter_1 _))
 unfold Builtin.«dict_values.__iter__»;refine SB<|SL<|SB ?_;unfold Builtin.Dict_items.dictOf;refine SB<|YE g1 g3 (x:=.ref dc) rfl<|SL<|SB ?_;unfold Builtin.Dict_items.newIterator;refine SB<|Ws h1 h2<|SB<|W7 h1 h2 ?_;rw[show VR "dict_valueiterator" = false by decide];simp only[VV,if_false];refine Vo (SL ⟨_,rfl,"dict_valueiterator",_,⟨_,Zc 0,rfl⟩,Ww.lookup,(by simpa[rawInt] using q)⟩)
def GK{Q:C_ s_->td->Prop}(hI:s.heap.IsValIter it dc i es.size ep)(h1:Zv 0=a_ oc)(h2:oc.data=.dict es ep)(ag:i<es.size)(q:∀h',h'.IsValIter it dc (i+1) es.size ep->WD it s.heap h'->Q (a_ es[i].val) {s with heap:=h'}):k_ (pyNext<|.ref it) Q E s:=by
 let⟨oi,g1,g2,g3⟩:=id hI;unfold pyNext;refine SB<|W0<|VC (name:=Vg "__next__") hI.typeIs Ww<|VD Ww hI.typeIs F.entry_dict_valueiterator_next ?_<|F.args_dict_valueiterator_next_1 _;refine SB<|SL<|SB<|SB ?_
 first|refine SB (Xc hI.typeIs<|SL ?_)|refine SB (X0 hI.typeIs<|SL ?_)
 refine SB<|W1 g1 g3 ?_;rw[show VR "dict_valueiterator" = false by decide];simp only[VV,if_false]
 change u_ (if(Vu dc == Vn)=true then _ else _) _ _ s
 rw[if_neg<|show ¬ ((Vu dc == Vn)=true) from Vj]
 refine SB<|SL<|SB<|Ws h1 h2 ?_;rw[if_neg<|show ¬ _ by simp];refine SB<|SL<|SB<|W7 h1 h2 ?_;rw[if_neg<|show ¬ _ by simp];refine SL ?_;simp only[show ¬ ((i:Int)<0) by omega,if_false,Xl,Vq ag];refine SB ?_
 first|refine SB (Xc hI.typeIs<|SL ?_)|refine SB (X0 hI.typeIs<|SL ?_)
 refine SB (wpAny_isOneOf_valiter hI.typeIs<|show u_ (YL (.ref it) 1 (rawInt<|(i:Int)+1) >>= _) _ _ s from SB (XH g1 g3 (by simp) ?_))
 let jx:(q0b (W2 (·.setIfInBounds 1 (rawInt<|(i:Int)+1)))).IsValIter it dc (i+1) es.size ep:=⟨_,VU _ g1<|XB<|Xa g3 _,(Obj.cls_mapFields ..).trans g2,by rw[Xa g3];simp[rawInt]⟩;let lu:({s with heap:=q0b (W2 (·.setIfInBounds 1 (rawInt<|(i:Int)+1)))}:td).TypeIs (.ref it) "dict_valueiterator" := jx.typeIs;refine SB<|VO<|SB<|wpAny_isOneOf_valiter lu<|SB<|wpAny_isOneOf_valiter lu ?_
 change u_ (pure es[i].val) _ _ _
 show SL<|SL ⟨_,rfl,SL<|q _ jx<|Vz ..⟩
def GL{Q:C_ s_->td->Prop}(hh:A.handled=b_)(hI:s.heap.IsValIter it dc i es.size ep)(h1:Zv 0=a_ oc)(h2:oc.data=.dict es ep)(kh:es.size<=i)(q:∀h',q0n 0->Q b_ {s with heap:=h'}):k_ (pyNext<|.ref it) Q E s:=by
 let⟨oi,g1,g2,g3⟩:=id hI;unfold pyNext;refine SB<|W0<|VC (name:=Vg "__next__") hI.typeIs Ww<|VD Ww hI.typeIs F.entry_dict_valueiterator_next ?_<|F.args_dict_valueiterator_next_1 _;refine SB<|SL<|SB<|SB ?_
 first|refine SB (Xc hI.typeIs<|SL ?_)|refine SB (X0 hI.typeIs<|SL ?_)
 refine SB<|W1 g1 g3 ?_;rw[show VR "dict_valueiterator" = false by decide];simp only[VV,if_false]
 change u_ (if(Vu dc == Vn)=true then _ else _) _ _ s
 rw[if_neg<|show ¬ ((Vu dc == Vn)=true) from Vj]
 refine SB<|SL<|SB<|Ws h1 h2 ?_;rw[if_neg<|show ¬ _ by simp];refine SB<|SL<|SB<|W7 h1 h2 ?_;rw[if_neg<|show ¬ _ by simp];refine SL ?_;simp only[show ¬ ((i:Int)<0) by omega,if_false,Xl,VP kh];refine SB ?_
 first|refine SB (Xc hI.typeIs<|SL ?_)|refine SB (X0 hI.typeIs<|SL ?_)
 refine(show u_ (YL (.ref it) 0 .none >>= _) _ _ s from SB (XH g1 g3 (by simp) ?_))
 refine(show u_ (newExc (.type "StopIteration") [] >>= _) _ _ _ from SB ?_);simp only[newExc,newTuple]
 refine SB (Vo (SB (m:=W3 _ _)<|Xd (a:=Vn) (by first|rfl|(simp only[W3];rfl))<|Vo ?_<|by size_fits)<|by size_fits)
 simp only[raiseNew];refine SB<|wpAny_handled ?_;rw[show A.in1.handled=b_ from hh]
 refine SB<|SL<|wpAny_throw ?_;refine SB<|Wn (T:="StopIteration") (b:=true) ⟨_,Zc 0,rfl⟩ isSubtype_stop ?_;show SL<|q _<|((Vz ..).extBut.push _).push _
def CD(hh:A.handled=b_)(I dc:t_)(gj:dc≠I)(oc:Obj)(es:Array Xw)(ep:Nat)(h2:oc.data=.dict es ep):
  Walks prog w A I [I,dc] [I] es.size (λi v=>∃e,es[i]?=a_ e/\v=e.val) (λi h=>h.IsValIter I dc i es.size ep/\h.get? dc=a_ oc) where
 sub:=λb hb=>by rw[Vc.mp hb];show UV
 frame:=λ_ _ _ st hk=>⟨let ⟨o,e,r⟩:=st.1;⟨o,hk I UV o e,r⟩,hk dc (U8 _ UV) _ st.2⟩
 item:=λi s Q E hi st hQ=>GK st.1 st.2 h2 hi λh' yk iy=>hQ _ h' s.toks ⟨es[i],by simp[hi],rfl⟩ ⟨yk,(iy.2 dc gj).trans st.2⟩ λb o hb e=>(iy.2 b λz=>hb (by rw[z];show UV)).trans e
 done:=λs Q E st hQ=>GL hh st.1 st.2 h2 (U6 _) λh' jt=>hQ h' s.toks λb o hb e=>jt b o (λz=>hb (by rw[z];show UV)) e
 self:=λ_ _ _ _ st hQ=>wpAny_pyIter_valiter st.1 hQ
def GM{r:t_}(h2:oc.data=.dict es ep):PySem.W.KdlSrc prog w "dict_values" r dc es.size (λi v=>∃e,es[i]?=a_ e/\v=e.val) (λh=>h.IsValuesView r dc/\h.get? dc=a_ oc) where
 type:=λ_ hm=>hm.1.typeIs
 there:=λ_ hm=>⟨let ⟨_,ho,_⟩:=hm.1;Vd ho,Vd hm.2⟩
 keep:=λ_ _ hm hk=>⟨let ⟨o,ho,x⟩:=hm.1;⟨o,hk r (.inl rfl) o ho,x⟩,hk dc (.inr rfl) _ hm.2⟩
 notList:=by decide
 notTuple:=by decide
 hint:=λ_ _ _ _ hm hq=>PySem.W.kdl_hint_values hm.1.typeIs hq
 iter:=λ_ _ hh hm=>⟨_,_,(λ_ _ hq=>F6 hm.1 hm.2 h2 hq),CD hh _ dc (Vh<|Vd hm.2) oc es ep h2,⟨⟨_,Zc 0,rfl,rfl⟩,Zp hm.2⟩⟩
def A8(dc:t_)(hd:(dc == Wi)=false):MeetsIn prog w (Builtin.«dict.values» ⟨[.ref dc],[]⟩) (λ_ R s=>s.TypeIs (.ref dc) "dict" /\
   R (.ok (.ret (.ref (e_ s)))) {s with heap:=s.heap.push {cls:=.type "dict_values",data:=.fields #[.ref dc]} }):=
 .of_wp λA R s ⟨hT,h⟩=>by
  refine SB ?_;unfold Builtin.Dict.noArgs;refine SB (XA hT<|show u_ (pure dc) _ _ s from SL (show u_ (W8 dc >>= _) _ _ s from ?_))
  unfold W8;rw[if_neg (show ¬ _ from by rw[hd];decide)]
  refine SB<|SL<|SB<|Vo<|SL ⟨_,rfl,h⟩
end
namespace FR
def nolen_lr:typeLookup (.type "list_reverseiterator") "__len__" = pure b_:=by rw[Yo,W6];kernel_rfl
def hint_lr:typeLookup (.type "list_reverseiterator") "__length_hint__" = pure (a_<|.builtin "list_reverseiterator.__length_hint__"):=by rw[Yo,W6];kernel_rfl
end FR
@[reducible]def GN(items:YY 0)(i:Nat)(v:s_):Prop:=items[items.size-1-i]?=a_ v
def GO{Q:j_ Bool}(hT:s.TypeIs (.ref it) "list_reverseiterator")(h:Q false s):k_ (WO<|.ref it) Q E s:=by
 unfold WO;refine SB<|Xn hT FR.nolen_lr ?_
 change wpAny _ A (specialOf (Vu it) (Vg "__length_hint__") >>= _) _ _ _
 refine SB<|Xn hT FR.hint_lr ?_;generalize Sx:("list_reverseiterator.__length_hint__" : String)=id0
 wp_delta
 rw[show splitId id0=a_ ("list_reverseiterator","__length_hint__") from by subst Sx;decide +kernel]
 subst Sx;refine SB (Wn (b:=true) hT (by rw[isSubtype_type];kernel_rfl) ?_);show SL h
variable{items:YY 0}{l:t_}
def CF(hh:A.handled=b_)(hit:s.heap.IsRevIter it l ((items.size:Int)-1))(hl:s.heap.IsList l items)(gj:l≠it)(S:t_)(Sa:S≠it)(UH:S≠l)(res:s_)(c₀:Nat)(hS:s.heap.get? S=a_ {cls:=.type "list",data:=.seq #[] c₀})(hR:∀h' tk cj c',(∀b o,b≠S->b≠it->N_ 0=a_ o->Zf 0=a_ o)->h'.get? S=a_ {cls:=.type "list",dict:=b_,data:=.seq cj c',slots:=#[]}->ItemsOf (GN items) cj items.size->R (.ok<|.ret res) {s with heap:=h',toks:=tk})(hn:items.size<=Ve):
  m_ prog w A.in1 (V1 (.ref S) (.ref it) res)
   (λfin s'=>match fin with|.done f=>R (.ok f) s'|.again c'=>c'.quiet=true/\codeAny (Z8 0) A c' R s') (λe s'=>R (.error e) s') s:=by
 let m6:S∉[it,l]:=by simp only[U9,Yz,or_false,not_or];show⟨Sa,UH⟩
 let W:=Walks.listRev (prog:=prog) (w:=w) (A:=A.in1) hh it l gj items;let RS:0<=items.size/\s.heap.IsRevIter it l ((items.size:Int)-1-((0:Nat):Int))/\s.heap.IsList l items:=⟨Vw _,by
  let e:(items.size:Int)-1-((0:Nat):Int)=(items.size:Int)-1:=⋯;rw[e];show hit,hl⟩
 unfold V1;refine SB<|Xv (T:="list_reverseiterator") hit.typeIs ?_;let h1:Xb (.ref S) (.ref it)=false:=by simp[Xb,Sa]
 let h2:(WV "list_reverseiterator" == WV "list")=false:=by decide
 let h3:(WV "list_reverseiterator" == WV "tuple")=false:=by decide
 simp only[h1,h2,h3,Bool.or_false,VV,if_false];refine SB<|W.self _ _ _ _ RS ?_;refine SB<|VO<|GO hit.typeIs ?_;rw[q0k 0];refine SL ⟨X8 PySem.F.plain_extend_loop _,codeAny_extend_loopS W.toS hn S m6 res items.size 0 _ #[] c₀ rfl (Vw _) RS hS (ItemsOf.nil _) λs' cj c' hm jw aw=>?_⟩;rw[Moved.eq_with hm];refine hR s'.heap s'.toks cj c' (λb o hb hi e=>hm.heap b o (λhmem=>?_) e) jw aw;rcases U9.mp hmem with e'|hmem
 ·show hb e'
 ·show hi (Vc.mp hmem)
def xK(hh:A.handled=b_)(hit:s.heap.IsRevIter it l ((items.size:Int)-1))(hl:s.heap.IsList l items)(gj:l≠it)(hn:items.size<=Ve)(hQ:∀h' tk cj c',(∀b o,b≠it->N_ 0=a_ o->Zf 0=a_ o)->h'.get? (e_ s)=a_ {cls:=.type "list",dict:=b_,data:=.seq cj c',slots:=#[]}->ItemsOf (GN items) cj items.size->Q (.ref<|e_ s) {s with heap:=h',toks:=tk}):
  k_ (call (.type "list") [.ref it]) Q E s:=by
 refine callType_codes (Q₁:=λobj s₁=>obj=.ref (e_ s)/\s₁={s with heap:=s.heap.push {cls:=.type "list",data:=.seq #[]} }) PySem.F.called_list (PySem.F.typeCall_list_1 _) PySem.F.entry_list_init
  (code_list_new _ ⟨rfl,rfl⟩) λobj s₁ h₁=>?_
 let⟨rfl,rfl⟩:=h₁
 have hS:(s.heap.push {cls:=.type "list",data:=.seq #[]}).get? (e_ s)=a_ {cls:=.type "list",data:=.seq #[]}:=Zc 0
 have Sr:it<(e_ s):=let ⟨o,ho,_⟩:=hit;Vd ho
 have u3:l<(e_ s):=let ⟨o,ho,_⟩:=hl;Vd ho
 refine⟨⟨_,hS,rfl⟩,PySem.F.args_list_init_2 _ _,?_⟩
 show wpAny _ A.in1.in1 (do let old <-Builtin.List.listItems (.ref<|e_ s);Builtin.List.listUpdate (.ref<|e_ s) (λ_=>#[]);letGo old.toList.reverse;V1 (.ref<|e_ s) (.ref it) .none) _ _ _
 refine SB ?_
 unfold Builtin.List.listItems
 refine SB<|wpAny_seqItems hS rfl<|SL ?_
 show u_ (updateSeq (e_ s) (λ_=>#[]) >>= λ_=>letGo (#[]:YY 0).toList.reverse >>= λ_=>V1 (.ref<|e_ s) (.ref it) .none) _ _ _
 refine SB<|wpAny_updateSeq hS rfl ?_
 have u0:=VU (VB<|λ_=>(#[]:YY 0)) hS rfl
 have oth:∀b o,b≠(e_ s)->N_ 0=a_ o->((s.heap.push {cls:=.type "list",data:=.seq #[]}).update (e_ s)<|VB<|λ_=>(#[]:YY 0)).get? b=a_ o:=
  λb o hb e=>(Wg _ _<|Wx hb).trans<|Zp e
 refine SB<|wpAny_letGo ?_
 refine CF (A:=A.in1) hh (hit.at λo e=>oth it o (Vh Sr) e) (let ⟨o,ho,r⟩:=hl;⟨o,oth l o (Vh u3) ho,r⟩) gj (e_ s) (WR Sr) (WR u3) .none _ u0 (λh' tk cj c' hk jw aw=>?_) hn
 exact⟨rfl,hQ h' tk cj c' (λb o hb e=>hk b o (Vh<|Vd e) hb<|oth b o (Vh<|Vd e) e) jw aw⟩
variable{ov:s_}
def iT{ok:s_}(hI:IsItemIter s.heap it dc i n ep ok ov):s.TypeIs (.ref it) "dict_itemiterator" := ⟨_,hI,rfl⟩
def CG{v:t_}{es:Array Xw}(hv:s.heap.IsItemsView v dc)(h1:Zv 0=a_ oc)(h2:oc.data=.dict es ep)(q:Q (.ref<|e_ s) {s with heap:=s.heap.push {cls:=.type "dict_itemiterator",data:=.fields #[.none,.bool false,.ref dc,.int 0 0,.int es.size 0,.int ep 0,.none,.none]} }):k_ (pyIter<|.ref v) Q E s:=by
 let⟨ov,g1,g2,g3⟩:=id hv;refine XZ hv.typeIs F.slot_dict_items_iter (VD F.slot_dict_items_iter hv.typeIs F.entry_dict_items_iter (show u_ (Builtin.«dict_items.__iter__» _) _ _ _ from ?_) (F.args_dict_items_iter_1 _))
 unfold Builtin.«dict_items.__iter__»;refine SB<|SL<|SB ?_;unfold Builtin.Dict_items.dictOf;refine SB<|YE g1 g3 (x:=.ref dc) rfl<|SL<|SB ?_;unfold Builtin.Dict_items.newIterator;refine SB<|Ws h1 h2<|SB<|W7 h1 h2 ?_;rw[show VR "dict_itemiterator" = true by decide];simp only[if_true,Builtin.Dict_items.ownedTupleFields,Yx,List.nil_append,VV,if_false];refine Vo (SL ⟨_,rfl,"dict_itemiterator",_,⟨_,Zc 0,rfl⟩,V8.lookup,(by simpa[rawInt] using q)⟩)
def next_item{es:Array Xw}{ok:s_}{Q:C_ s_->td->Prop}(hI:IsItemIter s.heap it dc i es.size ep ok ov)(h1:Zv 0=a_ oc)(h2:oc.data=.dict es ep)(ag:i<es.size)(q:∀h',IsItemIterOut h' it dc (i+1) es.size ep es[i].key es[i].val (e_ s)->h'.get? (e_ s)=a_ {cls:=.type "tuple",data:=.seq #[es[i].key,es[i].val]}->
   (∀(b:t_)(o:Obj),b≠it->N_ 0=a_ o->Zf 0=a_ o)->Q (c_ (e_ s)) {s with heap:=h'}):k_ (pyNext (.ref it)) Q E s:=by
 let hT:=iT hI;unfold pyNext;refine SB<|W0<|VC (name:=Vg "__next__") hT V8<|VD V8 hT F.entry_dict_itemiterator_next ?_<|F.args_dict_itemiterator_next_1 _;refine SB<|SL<|SB<|SB ?_
 first|refine SB (W9 hT<|SL ?_)|refine SB (XJ hT<|SL ?_)
 refine SB<|W1 hI rfl ?_;rw[show VR "dict_itemiterator" = true by decide];simp only[if_true]
 change u_ (if(Vu dc == Vn)=true then _ else _) _ _ s
 rw[if_neg<|show ¬ ((Vu dc == Vn)=true) from Vj]
 refine SB<|SL<|SB<|Ws h1 h2 ?_;rw[if_neg<|show ¬ _ by simp];refine SB<|SL<|SB<|W7 h1 h2 ?_;rw[if_neg<|show ¬ _ by simp];refine SL ?_;simp only[show ¬ ((i:Int)<0) by omega,if_false,Xl,Vq ag];refine SB ?_
 first|refine SB (W9 hT<|SL ?_)|refine SB (XJ hT<|SL ?_)
 refine SB (wpAny_isOneOf_itemiter hT<|show u_ (YL (.ref it) 3 (rawInt<|(i:Int)+1) >>= _) _ _ s from SB (XH hI rfl (by simp) ?_))
 let jx:IsItemIter (q0b (W2 (·.setIfInBounds 3 (rawInt<|(i:Int)+1)))) it dc (i+1) es.size ep ok ov:=by
  change(q0b _).get? it=_
  rw[VU _ hI<|XB<|Xa rfl _];simp[W2,rawInt]
 let kp:∀(b:t_)(o:Obj),b≠it->N_ 0=a_ o->(q0b (W2 (·.setIfInBounds 3 (rawInt<|(i:Int)+1)))).get? b=a_ o:=λb o hb e=>by rw[(Vz ..).2 b hb];show e
 let sz:(q0b (W2 (·.setIfInBounds 3 (rawInt<|(i:Int)+1)))).objs.size=(e_ s):=(Vz ..).1;generalize s.heap.update it (W2 (·.setIfInBounds 3 (rawInt<|(i:Int)+1)))=hA at jx kp sz;let lu:({s with heap:=hA}:td).TypeIs (.ref it) "dict_itemiterator" := iT jx;refine SB<|VO<|SB<|wpAny_isOneOf_itemiter lu<|SB<|wpAny_isOneOf_itemiter lu ?_
 change u_ (Builtin.Dict_items.pairFromOwner (.ref it) 6 es[i].key es[i].val) _ _ _
 unfold Builtin.Dict_items.pairFromOwner;simp only[newTuple];refine SB (Vo ?_<|by size_fits);let qf:IsItemIter (hA.push {cls:=.type "tuple",data:=.seq #[es[i].key,es[i].val]}) it dc (i+1) es.size ep ok ov:=Zp jx;let gt:(hA.push {cls:=.type "tuple",data:=.seq #[es[i].key,es[i].val]}).get? hA.objs.size=a_ {cls:=.type "tuple",data:=.seq #[es[i].key,es[i].val]}:=Zc 0;let RK:∀(b:t_)(o:Obj),b≠it->N_ 0=a_ o->(hA.push {cls:=.type "tuple",data:=.seq #[es[i].key,es[i].val]}).get? b=a_ o:=λb o hb e=>Zp<|kp b o hb e;rw[sz]at gt;let ne:(e_ s)≠it:=WR<|Vd hI
 change u_ _ _ _ {s with heap:=hA.push {cls:=.type "tuple",data:=.seq #[es[i].key,es[i].val]} }
 generalize hA.push {cls:=.type "tuple",data:=.seq #[es[i].key,es[i].val]}=hB at qf gt RK;let eA:(Vu ({s with heap:=hA}:td).heap.objs.size)=.ref (e_ s):=by rw[<-sz]
 simp only[eA];unfold Builtin.Dict_items.ownedTupleIsFree;refine SB<|SB<|YE (s:={s with heap:=hB}) qf rfl (x:=.none) rfl (SL ?_);simp only[if_true];refine SB<|YE (s:={s with heap:=hB}) qf rfl (x:=ok) rfl (SB<|YE (s:={s with heap:=hB}) qf rfl (x:=ov) rfl ?_);let my:∀{h1:w_}{fs:YY 0}{j:Nat}{x:s_}{α:Type}{f:Unit->Sem α}{R:α->td->Prop}{E':f_ 0},h1.get? it=a_ {cls:=.type "dict_itemiterator",data:=.fields fs}->j<fs.size->
   (∀h2:w_,h2.get? it=a_ {cls:=.type "dict_itemiterator",data:=.fields (fs.setIfInBounds j x)}->(∀(b:t_),b≠it->h2.get? b=h1.get? b)->m_ prog w A.in1 (f ()) R E' {s with heap:=h2})->
   m_ prog w A.in1 (YL (.ref it) j x >>= f) R E' {s with heap:=h1}:=λ{h1 fs j x α f R E'} g hj k=>by
  refine SB<|XH (s:={s with heap:=h1}) g rfl hj ?_;refine k _ ?_ λb hb=>(Vz ..).2 b hb;rw[VU _ g<|XB<|Xa rfl _];simp[W2]
 refine my qf (by simp) λh3 g3 s3=>?_;refine my g3 (by simp) λh4 g4 s4=>?_;refine my g4 (by simp) λh5 g5 s5=>?_;refine my g5 (by simp) λh6 g6 s6=>?_;refine SB (wpAny_letGo<|SL<|SL ⟨_,rfl,SL<|q h6 (by rw[<-sz];change h6.get? it=_;rw[g6];simp) ?_ λb o hb e=>?_⟩)
 ·rw[s6 _ ne,s5 _ ne,s4 _ ne,s3 _ ne];show gt
 ·rw[s6 _ hb,s5 _ hb,s4 _ hb,s3 _ hb];show RK b o hb e
def F7{es:Array Xw}{ok:s_}{Q:C_ s_->td->Prop}(hh:A.handled=b_)(hI:IsItemIter s.heap it dc i es.size ep ok ov)(h1:Zv 0=a_ oc)(h2:oc.data=.dict es ep)(kh:es.size<=i)(q:∀h',q0n 0->Q b_ {s with heap:=h'}):k_ (pyNext<|.ref it) Q E s:=by
 let hT:=iT hI;unfold pyNext;refine SB<|W0<|VC (name:=Vg "__next__") hT V8<|VD V8 hT F.entry_dict_itemiterator_next ?_<|F.args_dict_itemiterator_next_1 _;refine SB<|SL<|SB<|SB ?_
 first|refine SB (W9 hT<|SL ?_)|refine SB (XJ hT<|SL ?_)
 refine SB<|W1 hI rfl ?_;rw[show VR "dict_itemiterator" = true by decide];simp only[if_true]
 change u_ (if(Vu dc == Vn)=true then _ else _) _ _ s
 rw[if_neg<|show ¬ ((Vu dc == Vn)=true) from Vj]
 refine SB<|SL<|SB<|Ws h1 h2 ?_;rw[if_neg<|show ¬ _ by simp];refine SB<|SL<|SB<|W7 h1 h2 ?_;rw[if_neg<|show ¬ _ by simp];refine SL ?_;simp only[show ¬ ((i:Int)<0) by omega,if_false,Xl,VP kh];refine SB ?_
 first|refine SB (W9 hT<|SL ?_)|refine SB (XJ hT<|SL ?_)
 refine(show u_ (YL (.ref it) 2 .none >>= _) _ _ s from SB (XH hI rfl (by simp) ?_))
 refine(show u_ (newExc (.type "StopIteration") [] >>= _) _ _ _ from SB ?_);simp only[newExc,newTuple]
 refine SB (Vo (SB (m:=W3 _ _)<|Xd (a:=Vn) (by first|rfl|(simp only[W3];rfl))<|Vo ?_<|by size_fits)<|by size_fits)
 simp only[raiseNew];refine SB<|wpAny_handled ?_;rw[show A.in1.handled=b_ from hh]
 refine SB<|SL<|wpAny_throw ?_;refine SB<|Wn (T:="StopIteration") (b:=true) ⟨_,Zc 0,rfl⟩ isSubtype_stop ?_;show SL<|q _<|((Vz ..).extBut.push _).push _
def uX:entryFor table "dict_itemiterator.__iter__" = a_ Builtin.«dict_keyiterator.__iter__»:=entryFor_alias (id:="dict_itemiterator.__iter__") (id':="dict_keyiterator.__iter__") (by first|rfl|decide +kernel) (by first|rfl|decide +kernel) (by decide +kernel) (by rfl)
def CH{ok:s_}(hI:IsItemIter s.heap it dc i n ep ok ov)(q:Q (.ref it) s):k_ (pyIter<|.ref it) Q E s:=by
 let hT:=iT hI;refine XZ hT F.slot_dict_itemiterator_iter (VD F.slot_dict_itemiterator_iter hT uX (show u_ (Builtin.«dict_keyiterator.__iter__» _) _ _ _ from ?_) (F.args_dict_itemiterator_iter_1 _))
 unfold Builtin.«dict_keyiterator.__iter__»;refine SB<|SL ?_;show SL ⟨_,rfl,"dict_itemiterator",_,hT,V8.lookup,q⟩
def Bf(dc:t_)(hd:(dc == Wi)=false):MeetsIn prog w (Builtin.«dict.items» ⟨[.ref dc],[]⟩) (λ_ R s=>s.TypeIs (.ref dc) "dict" /\
   R (.ok (.ret (.ref (e_ s)))) {s with heap:=s.heap.push {cls:=.type "dict_items",data:=.fields #[.ref dc]} }):=
 .of_wp λA R s ⟨hT,h⟩=>by
  refine SB ?_;unfold Builtin.Dict.noArgs;refine SB (XA hT<|show u_ (pure dc) _ _ s from SL (show u_ (W8 dc >>= _) _ _ s from ?_))
  unfold W8;rw[if_neg (show ¬ _ from by rw[hd];decide)]
  refine SB<|SL<|SB<|Vo<|SL ⟨_,rfl,h⟩
def GP(xs:Zd 0)(j:Nat):∀(fuel lo hi:Nat),hi-lo<=fuel->lo<=hi->hi<=xs.size->(∀i(h:i<xs.size),i<lo->xs[i]<j)->(∀i(h:i<xs.size),hi<=i->¬ xs[i]<j)->
  (xs.toList.Pairwise (· < ·))->SetTable.below.go xs j fuel lo hi<=xs.size/\(∀i(h:i<xs.size),(xs[i]<j↔i<SetTable.below.go xs j fuel lo hi)):=by
 intro fuel
 induction fuel with
 |zero=>
  intro lo hi hf hl hs ha hb _;have:lo=hi:=⋯;subst this
  change lo<=_/\∀i(h:i<xs.size),(xs[i]<j↔i<lo)
  refine⟨hs,λi h=>⟨λh1=>Decidable.byContradiction λh2=>hb i h ⋯ h1,λh1=>ha i h h1⟩⟩
 |succ fuel ih=>
  intro lo hi hf hl hs ha hb hp
  change(if lo<hi then _ else lo)<=_/\∀i(h:i<xs.size),(xs[i]<j↔i<(if lo<hi then _ else lo))
  by_cases h:lo<hi
  ·simp only[if_pos h];let hm:(lo+hi)/2<xs.size:=⋯;let mono:∀a b(ha:a<xs.size)(hb:b<xs.size),a<b->xs[a]<xs[b]:=λa b h1 h2 h3=>by
    have:=(Wa.mp hp) a b (l_ h1) (l_ h2) h3
    simpa using this
   change(if xs.getD ((lo+hi)/2) j<j then _ else _)<=_/\∀i(h:i<xs.size),(xs[i]<j↔i<(if xs.getD ((lo+hi)/2) j<j then _ else _))
   let e:xs.getD ((lo+hi)/2) j=xs[(lo+hi)/2]:=by simp[YQ,hm]
   rw[e];by_cases hc:xs[(lo+hi)/2]<j
   ·simp only[if_pos hc];show ih _ _ ⋯ ⋯ hs (λi h1 h2=>by
     by_cases h3:i=(lo+hi)/2
     ·subst h3;show hc
     ·have:=mono i _ h1 hm ⋯;omega) hb hp
   ·simp only[if_neg hc];show ih _ _ ⋯ ⋯ ⋯ ha (λi h1 h2=>by
     by_cases h3:i=(lo+hi)/2
     ·subst h3;show hc
     ·have:=mono _ i hm h1 ⋯;omega) hp
  ·simp only[if_neg h];have:lo=hi:=⋯;subst this;show⟨hs,λi h=>⟨λh1=>Decidable.byContradiction λh2=>hb i h ⋯ h1,λh1=>ha i h h1⟩⟩
def uY{xs:Zd 0}(hp:xs.toList.Pairwise (· < ·))(j:Nat):XM xs j<=xs.size/\(∀i(h:i<xs.size),(xs[i]<j↔i<XM xs j)):=GP xs j xs.size 0 xs.size ⋯ ⋯ ⋯ (λi h h1=>by omega) (λi h h1=>by omega) hp
variable{j:Nat}
def xM{xs:Zd 0}(hp:xs.toList.Pairwise (· < ·))(hj:xs[XM xs j]?≠a_ j):(SetTable.insertAt xs (XM xs j) j).toList.Pairwise (· < ·):=by
 let⟨h1,h2⟩:=uY hp j;generalize XM xs j=p at h1 h2 hj;let e:(SetTable.insertAt xs p j).toList=xs.toList.take p++[j]++xs.toList.drop p:=by simp[SetTable.insertAt,Xq]
 rw[e];rw[XS,List.pairwise_append,List.singleton_append,Vt];refine⟨hp.sublist<|List.take_sublist ..,⟨λa ha=>?_,hp.sublist<|List.drop_sublist ..⟩,λa ha b hb=>?_⟩
 ·let⟨i,hi,rfl⟩:=List.mem_iff_getElem.mp ha;rw[List.getElem_drop];let ag:p+i<xs.size:=by simp at hi;omega
  let hn:=mt (h2 (p+i) ag).mp ⋯;let gj:xs[p+i]≠j:=by
   intro he;by_cases hi0:i=0
   ·subst hi0;apply hj;rw[Vq ⋯];show congrArg a_ he
   ·have:=(Wa.mp hp) p (p+i) (by simp;omega) (l_ ag) ⋯
    let h3:=mt (h2 p ⋯).mp ⋯;simp at this;omega
  simp;omega
 ·let⟨i,hi,rfl⟩:=List.mem_iff_getElem.mp ha;rw[List.getElem_take];let ak:i<p:=by simp at hi;omega
  let ag:i<xs.size:=⋯;let hx:=(h2 i ag).mpr ak;rcases U9.mp hb with rfl|hb
  ·simpa using hx
  ·let⟨k,hk,rfl⟩:=List.mem_iff_getElem.mp hb;rw[List.getElem_drop];let wb:p+k<xs.size:=by simp at hk;omega
   have:=(Wa.mp hp) i (p+k) (l_ ag) (l_ wb) ⋯
   simpa using this
structure TOk(bt:Bool)(t:X9):Prop where
 dum:t.dummies=#[]
 led:bt=false->t.led=true
 ris:t.plain=true->t.place.toList.Pairwise (· < ·)
variable{bt:Bool}
def TOk.standIn{t:X9}(h:TOk bt t)(n:Nat):TOk bt (t.standIn n):=⟨rfl,h.led,λe=>by cases e⟩
def A9{t:X9}(h:t.dummies=#[])(j:Nat):t.slot j≠.dummy:=by
 unfold SetTable.slot;simp only[h,show SetTable.has #[] j=false from by simp[SetTable.has]]
 split <;> simp
def CI{t:X9}(h:t.slot j=.empty):t.place[XM t.place j]?≠a_ j:=by unfold SetTable.slot at h;intro e;simp[e]at h
def F8(t:X9)(p:SetTable.Probe):(t.advance p).dummy=p.dummy:=by
 unfold SetTable.advance;split
 ·rfl
 ·rfl
set_option tactic.hygienic true in
def GQ{t:X9}(hd:t.dummies=#[])(f:Nat->Int)(h:Int):∀(fuel:Nat)(p:SetTable.Probe),p.dummy=b_->∀j d,SetTable.probe.go t f h fuel p=a_ (.empty j d)->d=b_/\t.slot j=.empty:=by
 intro fuel
 induction fuel with
 |zero=>intro p _ j d e;cases e
 |succ fuel ih=>
  intro p hp j d e;unfold SetTable.probe.go at e;split at e
  ·rename_i he;cases e
   show⟨hp,he⟩
  ·rename_i he;show(A9 hd _ he).elim
  ·split at e
   ·cases e
   ·show ih _ (by rw[F8];show hp) j d e
set_option tactic.hygienic true in
def F9{t:X9}(hd:t.dummies=#[]){h:Int}(e:t.freeSlot h=a_ (j,b)):t.slot j=.empty:=by
 unfold SetTable.freeSlot at e;split at e
 ·rename_i j' d he;let⟨h1,h2⟩:=GQ hd _ _ _ _ rfl _ _ he;subst h1;cases e
  show h2
 ·cases e
def TOk.put{t:X9}(h:TOk bt t)(he:t.slot j=.empty):TOk bt (t.put j).1:=by refine⟨?_,h.led,λe=>xM (h.ris e)<|CI he⟩;simp[SetTable.put,h.dum,SetTable.has]
def TOk.orSt{t:X9}(h:TOk bt t)(n:Nat):TOk bt (t.orStandIn n):=by
 unfold SetTable.orStandIn;split
 ·show h
 ·show h.standIn n
set_option tactic.hygienic true in
def TOk.lay{t:X9}(h:TOk bt t)(es:Array (Int×s_))(k:Int)(x:s_):TOk bt (layNew t es k x).2.1:=by
 unfold layNew;split
 ·rename_i slot wd e;show(h.put<|F9 h.dum e).orSt _
 ·show h.standIn _
def Fb(f:Nat->C_ Nat):∀n,((List.filterMap (λj=>Option.map (λx=>(j,x))<|f j)<|Vm n).map (·.1)).Pairwise (· < ·):=by
 intro n;let h1:(Vm n).Pairwise (· < ·):=List.pairwise_lt_range;let h2:((List.filterMap (λj=>Option.map (λx=>(j,x))<|f j)<|Vm n).map (·.1)).Sublist (Vm n):=by
  induction Vm n with
  |nil=>simp
  |cons a l ih=>
   simp only[Wj];cases f a with
   |none=>exact ih.cons _
   |some x=>exact ih.cons₂ _
 show h1.sublist h2
set_option tactic.hygienic true in
def TOk.relay{t:X9}(h:TOk bt t)(es:Array (Int×s_))(n:Nat):TOk bt (relayAll t es n).2.1:=by
 unfold relayAll;split
 ·rename_i t' order e;let TX:TOk bt t':=by
   unfold SetTable.relaid SetTable.laid at e;simp only[Option.bind_eq_bind]at e;cases ho:SetTable.layClean (SetTable.sizeAbove n-1) (Array.map (λx=>x.fst) es) with
   |none=>rw[ho]at e;cases e
   |some owner=>rw[ho]at e;let e2:=Vv e;let e3:_=t':=congrArg Prod.fst e2;subst e3;refine⟨rfl,h.led,λ_=>?_⟩;show Fb (λj=>owner.getD j b_) _
  dsimp only;split
  ·show TX
  ·show h.standIn _
 ·show h.standIn _
abbrev uZ(e:Int×s_):Int:=match e.2 with|.int k _=>k|_=>0
abbrev cN(w:x_):Bool:=w.params.followText "set-order"
abbrev iU(w:x_)(h:w_)(a:t_)(ks:Z9 0):Prop:=∃o es ep t,h.get? a=a_ o/\o.ExactSet/\o.data=.set es ep t/\TOk (cN w) t/\Z1 0=true/\
 (∀e∈es.toList,∃k tk,e=(hashInt k,Wt k tk))/\(es.toList.map uZ).Perm ks
variable{es':Array (Int×s_)}
def DV{h:w_}{o:Obj}{es:Array (Int×s_)}{t t':X9}(ho:h.get? a=a_ o)(hd:o.data=.set es ep t):
  (h.update a<|Obj.putSet es' t').get? a=a_ { o with data:=.set es' (ep+1) t'}:=by
 let⟨c,d,da,sl⟩:=o;cases hd
 rw[VU _ ho<|by rfl];rfl
def GR{es:Array (Int×s_)}(h:∀e∈es.toList,∃k tk,e=(hashInt k,Wt k tk)):ElemsOf (intKind prog w) es.toList:=λe he=>by let⟨k,tk,rfl⟩:=h e he;show⟨⟨k,intKind_is prog w k tk,rfl⟩,rfl⟩
def Mv{ks:Z9 0}{k:Int}{tk:Tok}{Q:j_ Bool}(hS:iU w s.heap a ks)(hb:ks.length+1<scanBound)
  (h:∀b h',WD a s.heap h'->iU w h' a (if k∈ks then ks else ks++[k])->Q b {s with heap:=h'}):k_ (setAddHashed a (.int k tk)<|hashInt k) Q E s:=by
 let⟨o,es,ep,t,ho,hx,hd,ht,hf,n9,hp⟩:=hS;let hlen:es.size=ks.length:=by have:=hp.length_eq;simpa using this
 let hE:ElemsOf (intKind prog w) es.toList:=GR n9;unfold setAddHashed;refine VO ?_;rw[setAddHashedIn.eq_def];refine SB<|X1 ho hd hf ?_;dsimp only;rw[byScan_of (prog:=prog) (w:=w) (knd:=intKind prog w) (show(Wt k tk).scannable=true from rfl) ⋯ hE,YX 0]
 refine SB ?_;unfold setAddByScan;refine SB<|XT<|SB<|wpAny_setScan_of (knd:=intKind prog w) (intKind_is prog w k tk) ho hd hf hE ?_;cases hi:List.findIdx? (λe=>(intKind prog w).is k e.snd) es.toList with
 |some j=>
  let hm:k∈ks:=by let⟨hj,h1,_⟩:=List.findIdx?_eq_some_iff_getElem.mp hi;let cp:=V9 hj;let⟨k',om,e⟩:=n9 _ cp;rw[e]at h1;have:k=k':=(intKind prog w).inj _ _ _ h1<|intKind_is prog w k' om;subst this;refine hp.mem_iff.mp<|Vp.mpr ⟨_,cp,?_⟩;rw[e];rfl
  refine SL<|SL<|h _ s.heap (Heap.SameBut.refl ..) ?_;rw[if_pos hm];show⟨o,es,ep,t,ho,hx,hd,ht,hf,n9,hp⟩
 |none=>
  let hm:k∉ks:=by intro hk;let⟨e,he,UX⟩:=Vp.mp<|hp.mem_iff.mpr hk;let⟨k',om,rfl⟩:=n9 _ he;let h1:=List.findIdx?_eq_none_iff.mp hi _ he;let h2:k'=k:=UX;subst h2;rw[intKind_is prog w k' om]at h1;cases h1
  let pe:=layNew_perm t es (hashInt k)<|.int k tk;let fi:=layNew_fits t es (hashInt k)<|.int k tk;let tl:=ht.lay es (hashInt k)<|.int k tk;generalize layNew t es (hashInt k) (.int k tk)=L at pe fi tl;let⟨cq,t1,wd,xi⟩:=L;dsimp only at pe fi tl⊢;let hsz:cq.size<scanBound:=by have:=pe.length_eq;simp at this;omega
  let fin:∀h' es' iu t',WD a s.heap h'->h'.get? a=a_ { o with data:=.set es' iu t'}->es'.toList.Perm cq.toList->TOk (cN w) t'->t'.fits es'.size=true->Q true {s with heap:=h'}:=λh' es' iu t' h1 h2 h3 h4 h5=>by
   let p2:es'.toList.Perm (es.toList++[(hashInt k,.int k tk)]):=h3.trans<|l_ pe;refine h _ _ h1 ?_;rw[if_neg hm];refine⟨_,_,_,_,h2,⟨hx.1,hx.2.1,hx.2.2⟩,rfl,h4,h5,λe he=>?_,?_⟩
   ·rcases Vx.mp (p2.mem_iff.mp he) with h6|h6
    ·show n9 e h6
    ·show⟨k,tk,Vc.mp h6⟩
   ·refine(p2.map uZ).trans ?_;rw[VW];show hp.append<|XF _
  refine SB ?_;refine WE (Q:=λ_ s'=>s'=s) ?_ (λ_ s' e=>?_)<|λ_ _ e=>e
  ·cases xi
   ·show SL rfl
   ·show XT rfl
  subst e;let Uo:∀{f:Unit->Sem (C_ Bool)}{R:C_ Bool->td->Prop},k_ (f ()) R E { s' with heap:=s'.heap.update a (Obj.putSet cq t1)}->k_ (storeSet a cq t1 >>= f) R E s':=λhq=>SB<|wpAny_storeSet_of ho hd hq<|fits_of_scanBound hsz;let g1:=DV (es':=cq) (t':=t1) ho hd;let sb:=Vz s'.heap a<|Obj.putSet cq t1;let my:∀{m:Sem Bool},m=pure true->∀{f:Bool->Sem (C_ Bool)}{R:C_ Bool->td->Prop},k_ (f true) R E s'->k_ (m >>= f) R E s':=λe _ _ hq=>by subst e;show SB<|SL hq
  by_cases a7:t1.plain=true;rw[if_pos a7];refine my (hashByValue_scannable 8<|show(Wt k tk).scannable=true from rfl) ?_
  rotate_left
  rw[if_neg a7];refine my rfl ?_
  all_goals
   rw[YX 0];refine Uo ?_;by_cases hc:(!wd&&t1.tooFull)=true
   ·rw[if_pos hc];let zb:=relayAll_perm t1 cq<|YT cq.size;let zp:=relayAll_fits t1 cq<|YT cq.size;let tr:=tl.relay cq<|YT cq.size;let hl:(relayAll t1 cq<|YT cq.size).fst.size=cq.size:=by have:=zb.length_eq;simpa using this
    generalize relayAll t1 cq (YT cq.size)=L at zb zp tr hl;let⟨es2,t2,g2⟩:=L;refine SB<|WE (Q:=λ_ s2=>s2={ s' with heap:=s'.heap.update a (Obj.putSet cq t1)}) ?_ (λ_ s2 e2=>?_) (λ_ _ e=>e)
    ·cases g2
     ·show SL rfl
     ·show XT rfl
    ·subst e2;refine SB (wpAny_storeSet_of (s:={ s' with heap:=s'.heap.update a (Obj.putSet cq t1)}) g1 rfl ?_ (by rw[hl];show fits_of_scanBound hsz));show SL<|SL<|fin _ _ _ _ (sb.trans<|Vz _ _ _) (DV (h:=s'.heap.update a<|Obj.putSet cq t1) (o:={ o with data:=.set cq (ep+1) t1}) g1 rfl) zb tr zp
   ·rw[if_neg hc];show SL<|SL<|fin _ _ _ _ sb g1 (XF _) tl fi
def iU.kept{h:w_}{ks:Z9 0}(H:iU w h a ks)(k:∀o,h.get? a=a_ o->h'.get? a=a_ o):iU w h' a ks:=by let⟨o,es,ep,t,ho,r⟩:=H;show⟨o,es,ep,t,k o ho,r⟩
def step_eq(ks:Z9 0)(k:Int):(if k∈ks then ks else ks++[k])=step_dedup ks k:=by
 unfold step_dedup;have:(ks.any λx=>x == k)=true↔k∈ks:=by simp
 by_cases h:k∈ks
 ·rw[if_pos h,if_pos<|this.mpr h]
 ·rw[if_neg h,if_neg<|mt this.mp h]
variable{G:Array GenState->Array GenState->Prop}
def GS{P:Nat->s_->Prop}{St:j_ Nat}(W:WalksS prog w A.in1 I fp wr G n P St)(S:t_)(m6:S∉fp)(val:Nat->Int)(xk:∀i v,P i v->∃t,v=Wt (val i) t)(hb:n+1<scanBound):∀(k i:Nat)(s:td),n-i=k->i<=n->St i s->iU w s.heap S (firstMet val i)->
   (∀s',Moved (S::wr) G s s'->iU w s'.heap S (firstMet val n)->R (.ok<|.ret .none) s')->codeAny (Z8 0) A (.builtin "set.update.loop" ⟨[.ref S,.ref I],[]⟩) R s:=by
 let RX:S∉wr:=λh=>m6<|W.sub S h;let jz:∀b∈wr,b∈S::wr:=λb hb=>U8 S hb;intro k
 induction k with
 |zero=>
  intro i s hk hi cg hS hR;have:i=n:=⋯;subst this;refine Xo PyProof.Rows.F.entry_set_update_loop ?_;rw[WQ Xj];refine(show u_ (pyNext (.ref I) >>= _) _ _ s from SB (W.done s _ _ cg λs' hm=>?_))
  show SL<|hR s' (hm.mono jz)<|hS.kept λo ho=>hm.heap S o RX ho
 |succ k ih=>
  intro i s hk hi cg hS hR;let ag:i<n:=⋯;refine Xo PyProof.Rows.F.entry_set_update_loop ?_;rw[WQ Xj];refine(show u_ (pyNext (.ref I) >>= _) _ _ s from SB (W.item i s _ _ ag cg λv s' hP ja hm=>?_))
  let⟨t,rfl⟩:=xk i v hP;let jw:iU w s'.heap S (firstMet val i):=hS.kept λo ho=>hm.heap S o RX ho;refine(show u_ (holding [Wt (val i) t] (setAdd S<|.int (val i) t) >>= _) _ _ s' from SB (VO ?_))
  unfold setAdd;refine VO<|SB<|(intKind prog w).pyHash (intKind_is prog w (val i) t) ?_;let hl:=firstMet_length_le val i;refine Mv (s:={ s' with toks:=s'.toks+1}) jw ⋯ λb h' RJ u9=>?_;rw[step_eq,<-firstMet_succ]at u9;refine SL ⟨X8 Xj _,ih (i+1) _ ⋯ ag (W.frame (i+1) s' h' (s'.toks+1) ja (YD _) λb hb o e=>?_) u9 λdi wu zf=>hR di ?_ zf⟩
  ·rw[RJ.2 b λh=>m6<|h▸hb];show e
  ·refine Moved.trans W.gtrans (Moved.then_heap (hm.mono jz) (YD _) λb o hb e=>?_) wu;rw[RJ.2 b λh=>hb<|h▸UV];show e
variable{Q₁:f_ 0}
def code_set_new(x:s_)(q:Q₁ (.ref<|e_ s) {s with heap:=s.heap.push {cls:=.type "set",data:=.set #[] 0 (Wo 0 0 !cN w)} }):
  codeAny (Z8 0) A (.call (.builtin "set.__new__") ⟨[.type "set",x],[]⟩) (wants Q₁ E) s:=by
 refine codeAny_of_tree ?_;refine SB<|Xd (F.newCall_set_1 x)<|SL ⟨X8 F.plain_set_new _,Xo F.entry_set_new ?_⟩;rw[WQ F.plain_set_new];unfold Builtin.«set.__new__»;refine SB ?_;unfold Builtin.Frozenset.newClass;refine(show u_ (isType (.type "set") >>= _) _ _ s from SB (SL ?_))
 rw[q0k 0];refine SB<|Xd sub_set_self ?_;rw[q0k 0];refine SL<|SB ?_;unfold newSet setsByText;refine SB<|SB<|YA<|SL ?_;show Vo<|SL q
def Fc(hh:A.handled=b_)(hl:s.heap.IsList l items)(hi:IntsAre items.toList ns)(hb:items.size+1<scanBound)(h:∀h' tk,iU w h' (e_ s) (firstMet (λi=>ns.getD i 0) items.size)->(∀b o,N_ 0=a_ o->Zf 0=a_ o)->Q (.ref<|e_ s) {s with heap:=h',toks:=tk}):
  k_ (call (.type "set") [.ref l]) Q E s:=by
 let⟨c,tl,xn⟩:=YH.mro;let dr:=YH.made;let jz:=YH.sub;refine wpAny_call (codeAny_of_tree<|show u_ _ _ _ _ from SL ⟨Code.quiet_builtin _<|by simp,Xo F.entry_type_call ?_⟩)
 rw[show A.under (Code.builtin "type.__call__" ⟨WV "set" :: [Vu l],[]⟩)=A.in1 from Around.under_plain (weight_type_call_type "set" [Vu l] []) rfl]
 unfold Builtin.«type.__call__»;dsimp only;let h1:=YH.notType;let h2:=YH.canCreate;refine WA (show decide _=false from rfl) ?_
 refine WA (show decide _=false from rfl) ?_
 refine SB<|Xd (F.typeCall_set_1<|Vu l) ?_;refine SB<|Xd xn ?_;refine WA (show decide _=false from rfl) ?_
 refine SB<|Xd dr ?_;refine SB<|SL ?_;refine SB<|VO<|wpAny_call<|codeAny_mono (code_set_new (E:=E) (Q₁:=λobj s₁=>obj=.ref (e_ s)/\s₁={s with heap:=s.heap.push {cls:=.type "set",data:=.set #[] 0 (Wo 0 0 !cN w)} }) (Vu l) ⟨rfl,rfl⟩) λr s₁ hr=>?_;cases r with
 |error e=>exact hr
 |ok fl=>
 cases fl with
 |next=>exact hr.elim
 |brk=>exact hr.elim
 |cont=>exact hr.elim
 |ret obj=>
  let⟨rfl,rfl⟩:=hr;let hT:({s with heap:=s.heap.push {cls:=.type "set",data:=.set #[] 0 (Wo 0 0 !cN w)} }:td).TypeIs (.ref<|e_ s) "set" := ⟨_,Zc 0,rfl⟩;refine(show u_ _ _ _ _ from SB (Wn hT jz ?_))
  rw[q0k 0];refine SB<|VO<|VC (name:=Vg "__init__") hT YH.init ?_;refine wpAny_call<|codeAny_call_builtin YH.init.plain F.entry_set_init<|check_set_init_1 hT ?_;let ho:(s.heap.push {cls:=.type "set",data:=.set #[] 0 (Wo 0 0 !cN w)}).get? (e_ s)=a_ {cls:=.type "set",data:=.set #[] 0 (Wo 0 0 !cN w)}:=Zc 0;let dv:(s.heap.push {cls:=.type "set",data:=.set #[] 0 (Wo 0 0 !cN w)}).IsList l items:=by let⟨o,e,r⟩:=hl;show⟨o,Zp e,r⟩
  let vk:({s with heap:=s.heap.push {cls:=.type "set",data:=.set #[] 0 (Wo 0 0 !cN w)} }:td).TypeIs (.ref l) "list" := by let⟨o,e,r,_⟩:=dv;show⟨o,e,r⟩
  let UP:iU w (s.heap.push {cls:=.type "set",data:=.set #[] 0 (Wo 0 0 !cN w)}) (e_ s) []:=⟨_,_,_,_,ho,⟨rfl,rfl,rfl⟩,rfl,⟨rfl,λe=>by simp[Wo,e],λ_=>Ys⟩,rfl,λe he=>(by cases he),XF _⟩;unfold Builtin.«set.__init__»;refine SB (show u_ (pure ()) _ _ _ from SL ?_)
  refine(show u_ (typeNameOfCut 200 (Vu<|e_ s) >>= _) _ _ _ from SB ?_)
  unfold typeNameOfCut shownTypeOf;refine SB<|SB<|Xv hT ?_;rw[q0k 0];refine SL (Xd (a:="set") (by rfl) ?_);refine SB (Xd (a:=()) (by rfl) ?_);refine SB<|SL ?_;unfold setUsed;refine SB<|SB<|X1 ho rfl rfl<|SL ?_;refine WA (show decide _=false from by cases cN w <;> rfl) ?_
  refine(show u_ (Builtin.Frozenset.updateFrom "set.__init__" (e_ s) (.ref l) >>= _) _ _ _ from SB ?_)
  unfold Builtin.Frozenset.updateFrom Builtin.Frozenset.isAnySet;refine SB ?_;refine SB<|Wn vk F.sub_list_set ?_;refine Wn vk F.sub_list_frozenset ?_;rw[q0k 0];refine SB<|Xv vk ?_;rw[q0k 0];refine SB<|wpAny_pyIter_list dv ?_;refine SB<|wpAny_runValue ?_;let ne1:(e_ s)≠(s.heap.push {cls:=.type "set",data:=.set #[] 0 (Wo 0 0 !cN w)}).objs.size:=Vh<|Vd ho;let qm:l<(e_ s):=by let⟨o,e,_⟩:=hl;show Vd e
  let ne2:(e_ s)≠l:=WR qm;let Ug:∀b o,N_ 0=a_ o->(s.heap.push {cls:=.type "set",data:=.set #[] 0 (Wo 0 0 !cN w)}).get? b=a_ o:=λb o e=>Zp e;let hsz:(e_ s)<(s.heap.push {cls:=.type "set",data:=.set #[] 0 (Wo 0 0 !cN w)}).objs.size:=Vd ho;clear hT vk ho;generalize s.heap.push {cls:=.type "set",data:=.set #[] 0 (Wo 0 0 !cN w)}=h0 at*;refine GS (A:=A.in1.in1) (Walks.toS<|Walks.list (A:=A.in1.in1.in1) hh h0.objs.size l (Vh<|YG qm hsz) items) (e_ s) ?_ (λi=>ns.getD i 0) (λi v hv=>hi.int_at i v<|l_ hv) hb items.size 0 _ (Nat.sub_zero _) (Vw _) ⟨⟨_,Zc 0,rfl,rfl⟩,?_⟩ (UP.kept λo e=>Zp e) λs' hm hS=>?_
  ·intro z;rcases U9.mp z with z|z
   ·show ne1 z
   ·show ne2 (Vc.mp z)
  ·let⟨o,e,r⟩:=dv;show⟨o,Zp e,r⟩
  ·refine SL (SL<|SL ?_);let e:=Moved.eq_with hm;rw[e];refine h s'.heap s'.toks hS λb o e=>hm.heap b o (λz=>?_)<|Zp<|Ug b o e;rcases U9.mp z with z|z
   ·show Vh (Vd e) z
   ·show Vh (YG (Vd e) hsz) (Vc.mp z)
def bE:Slot "set_iterator" (Vg "__next__") "set_iterator.__next__" := Slot.of (owner:="set_iterator") (n:="__next__")
 (by rw[Yo,W6];rfl) (by decide +kernel) (by decide +kernel) (by decide +kernel) (.inl<|by decide +kernel) (by rw[isSubtype_type];rfl) (by decide +kernel)
def qA:Slot "set_iterator" (Vg "__iter__") "set_iterator.__iter__" := Slot.of (owner:="set_iterator") (n:="__iter__")
 (by rw[Yo,W6];rfl) (by decide +kernel) (by decide +kernel) (by decide +kernel) (.inl<|by decide +kernel) (by rw[isSubtype_type];rfl) (by decide +kernel)
def fJ:entryFor table "set_iterator.__next__" = a_ Builtin.«set_iterator.__next__»:=entryFor_of_tree (by rfl)
def vA:entryFor table "set.__iter__" = a_ Builtin.«frozenset.__iter__»:=entryFor_alias (id:="set.__iter__") (id':="frozenset.__iter__") (by first|rfl|decide +kernel) (by first|rfl|decide +kernel) (by decide +kernel) (by rfl)
def Bg:YC (String.ofList ['r','o','t','a','r','e','t','i','_','t','e','s'].reverse) Manifest.owners=a_ Manifest.sig_set_iterator:=by rfl
def gQ(a:s_):argsOk "set_iterator.__next__" ⟨[a],[]⟩:=by let e:=signature?_of (id:="set_iterator.__next__") (n:=['_','_','t','x','e','n','_','_']) (o:=['r','o','t','a','r','e','t','i','_','t','e','s']) (by rfl) Bg;unfold argsOk;rw[e];rfl
def oG{α:Type}:∀{l:B_ α}{i:Nat}(h:i<l.length),(l[i]::l.eraseIdx i).Perm l
 |[],i,h=>by simp at h
 |x::l,0,h=>by simp
 |x::l,i+1,h=>by simp only[List.getElem_cons_succ,List.eraseIdx_cons_succ];show(List.Perm.swap _ _ _).trans (List.Perm.cons _<|oG<|l_ h)
variable{src:Source}
def wp_choose{Q:j_ Nat}(hn:n≠0)(h:∀i d,i<n->Q i { s with drawn:=d}):wpAny M A (choose src n) Q E s:=λΓ p _=>by unfold choose;unfold Sem.wp;show⟨hn,h _ _<|Nat.mod_lt _<|Nat.pos_of_ne_zero hn⟩
def JG{α:Type}:∀(n:Nat)(xs:B_ α)(s:td)(Q:B_ α->td->Prop),xs.length=n->(∀ys d,ys.Perm xs->Q ys { s with drawn:=d})->wpAny M A (drawOrder n xs) Q E s:=by
 intro n
 induction n with
 |zero=>intro xs s Q hl h;have:xs=[]:=Yf hl;subst this;show SL<|h [] s.drawn<|XF _
 |succ n ih=>
  intro xs s Q hl h;cases xs with
  |nil=>simp at hl
  |cons x l=>
   refine(show u_ (choose Source.order (x::l).length >>= _) _ _ _ from SB (wp_choose (by simp) λi d hi=>?_))
   let e:(x::l)[i]?=a_ (x::l)[i]:=VM hi;rw[e];refine SB (ih _ _ _ (by rw[List.length_eraseIdx_of_lt hi];simp at hl⊢;omega) λys d' hp=>SL<|h _ _ ?_);show(List.Perm.cons _ hp).trans (oG hi)
def JH{α:Type}(next:Nat->Nat):∀(fuel k:Nat)(left:B_ α)(out:Array α),left.length=fuel->(pickOrder.go next fuel k left out).toList.Perm (out.toList++left):=by
 intro fuel
 induction fuel with
 |zero=>intro k left out hl;have:left=[]:=Yf hl;subst this;simp[pickOrder.go]
 |succ fuel ih=>
  intro k left out hl;let hi:next k%left.length<left.length:=Nat.mod_lt _ ⋯
  change(match left[next k%left.length]? with|some x=>pickOrder.go next fuel (k+1) (left.eraseIdx<|next k%left.length) (out.push x)|none=>out).toList.Perm _
  rw[VM hi];dsimp only;refine(ih _ _ _ (by rw[List.length_eraseIdx_of_lt hi];omega)).trans ?_;rw[Array.toList_push,XS];show List.Perm.append_left _<|oG hi
def Fd{α:Type}(next:Nat->Nat)(xs:Array α):(pickOrder next xs).toList.Perm xs.toList:=by have:=JH next xs.size 0 xs.toList #[] (by simp);unfold pickOrder;simpa using this
abbrev jN(w:x_)(a:t_)(ep:Nat)(es:Array (Int×s_)):Array (Int×s_):=if cN w=true then pickOrder (w.params.setOrder a ep) es else es
def kH{es:Array (Int×s_)}:(q0m 0).toList.Perm es.toList:=by
 unfold jN;split
 ·show Fd _ _
 ·show XF _
abbrev slotAt(w:x_)(t:X9)(i:Nat):Nat:=if cN w=true then 0 else if i=0 then 0 else t.place.getD (i-1) 0+1
def Mw{es:Array (Int×s_)}{t:X9}(ht:TOk (cN w) t)(hf:Z1 0=true)(ie:cN w=true\/(!t.plain&&decide (es.size>1))=false)(hb:cN w=false):t.place.toList.Pairwise (· < ·):=by
 rcases ie with h|h
 ·rw[hb]at h;cases h
 ·cases hp:t.plain with
  |true=>exact ht.ris hp
  |false=>
   rw[hp]at h;have:es.size<=1:=by simpa using h
   let hs:t.place.size=es.size:=by have:=hf;simp[SetTable.fits]at this;show this.1
   have:t.place.toList.length<=1:=by simp;omega
   match hl:t.place.toList with
   |[]=>exact Ys
   |[x]=>exact Ya _ _
   |x::y::r=>rw[hl]at this;simp at this
def Bh{o:Obj}{es:Array (Int×s_)}{t:X9}{Q:C_ (s_×Nat)->td->Prop}(ho:Zb 0=a_ o)(hd:o.data=.set es ep t)(ht:TOk (cN w) t)(hf:Z1 0=true)(ie:cN w=true\/(!t.plain&&decide (es.size>1))=false)(hi:i<=es.size)(q:Q ((q0m 0)[i]?.map λe=>(e.2,Zz<|i+1)) s):k_ (setNext a (Zz i) i ep) Q E s:=by
 unfold setNext;refine SB<|X1 ho hd hf ?_;unfold setsByText;refine SB<|SB<|YA<|SL ?_
 change u_ (if cN w=true then _ else _) _ _ _
 by_cases hb:cN w=true
 ·rw[if_pos hb];refine WA (show decide _=false from by simp) ?_
  unfold setWalk;refine SB<|SB<|X1 ho hd hf ?_;unfold setsByText;refine SB<|SB<|YA<|SL ?_
  change u_ (if cN w=true then _ else _) _ _ _
  rw[if_pos hb];refine SB<|YA<|SL<|SL ?_;let e1:q0m 0=pickOrder (w.params.setOrder a ep) es:=if_pos hb;let e2:∀j,Zz j=0:=λj=>if_pos hb;rw[e1,e2]at q;rw[e2];show q
 ·let hb':cN w=false:=by simpa using hb
  rw[if_neg hb];let hr:=Mw ht hf ie hb';let xy:(!t.plain&&decide (es.size>1))=false:=by
   rcases ie with h|h
   ·show(hb h).elim
   ·show h
  refine WA (show decide ((!t.plain&&decide (es.size>1))=true)=false from by rw[xy];rfl) ?_
  let we:=ht.led hb';refine SB (Xd (a:=()) (show(if(!t.led && !es.isEmpty)=true then _ else pure ())=pure () from by rw[we];rfl) (SL ?_))
  let hs:t.place.size=es.size:=by have:=hf;simp[SetTable.fits]at this;show this.1
  let zg:XM t.place (Zz i)=i:=by
   let⟨h1,h2⟩:=uY hr<|Zz i;generalize hp:XM t.place (Zz i)=p at h1 h2;let mono:∀x y(hx:x<t.place.size)(hy:y<t.place.size),x<y->t.place[x]<t.place[y]:=λx y hx hy uc=>by
    have:=(Wa.mp hr) x y (l_ hx) (l_ hy) uc
    simpa using this
   let cq:Zz i=if i=0 then 0 else t.place.getD (i-1) 0+1:=if_neg hb;rw[cq]at h2;by_cases h0:i=0
   ·subst h0;rcases Nat.eq_zero_or_pos p with h|h
    ·show h
    ·have:=(h2 0 ⋯).mpr h;simp at this
   ·rw[if_neg h0]at h2;let qh:i-1<t.place.size:=⋯;let eg:t.place.getD (i-1) 0=t.place[i-1]:=by simp[YQ,qh]
    rw[eg]at h2;let l1:i-1<p:=(h2 (i-1) qh).mp ⋯;rcases Nat.lt_or_ge i p with h|h
    ·have:=(h2 i ⋯).mpr h;have:=mono (i-1) i qh ⋯ ⋯;omega
    ·omega
  rw[zg];let e1:q0m 0=es:=if_neg hb;rw[e1]at q;by_cases ag:i<es.size
  ·rw[Vq ag]at q⊢;rw[Vq<|show i<t.place.size by omega];let e2:Zz (i+1)=t.place[i]+1:=by have:Zz (i+1)=if i+1=0 then 0 else t.place.getD (i+1-1) 0+1:=if_neg hb;rw[this];simp[YQ,show i<t.place.size by omega]
   simpa[e2] using q
  ·rw[VP ⋯]at q⊢;simpa using q
variable{E':f_ 0}{first:s_}
section
variable{o:Obj}{es:Array (Int×s_)}{t:X9}
abbrev siO(a:t_)(first:s_)(i n ep:Nat):Obj:={cls:=.type "set_iterator",data:=.fields #[first,.int i 0,.ref a,.int n 0,.int ep 0]}
def GT(ho:Zb 0=a_ o)(hx:o.ExactSet)(hd:o.data=.set es ep t)(hf:Z1 0=true)(hz:es.size<=Ve)(q1:(cN w=true\/(!t.plain&&decide (es.size>1))=false)->Q (.ref<|e_ s) {s with heap:=s.heap.push (siO a (.int 0 0) 0 es.size ep)})(q2:∀(ys:B_ Nat) d,ys.Perm (Vm es.size)->Q (.ref<|s.heap.objs.size+1) {s with heap:=(s.heap.push {cls:=.type "tuple",data:=.seq (ys.map λi=>Wt (i:Nat) 0).toArray}).push<|siO a (.ref<|e_ s) 0 es.size ep,drawn:=d}):
  k_ (pyIter<|.ref a) Q E s:=by
 let hT:s.TypeIs (.ref a) "set" := ⟨o,ho,hx.1⟩;refine XZ hT F.slot_set_iter (VD F.slot_set_iter hT vA (show u_ (Builtin.«frozenset.__iter__» _) _ _ _ from ?_) (F.args_set_iter_1 _))
 unfold Builtin.«frozenset.__iter__» Builtin.Frozenset.slot0;refine SB<|SB<|SL<|SL ?_;unfold Builtin.Frozenset.sizeOf;refine SB<|SB<|Yb ho hd hf<|SL ?_;unfold setDrawn setsByText;refine SB<|SB<|X1 ho hd hf<|SB<|SB<|YA<|SL<|SL ?_
 change u_ (if(!(cN w)&&(!t.plain&&decide (es.size>1)))=true then _ else _) _ _ _
 by_cases hc:(!(cN w)&&(!t.plain&&decide (es.size>1)))=true
 ·rw[if_pos hc];refine SB (JG _ _ _ _ (by simp) λys d hp=>?_);unfold newTuple newFields;refine SB (Vo ?_ ?_)
  ·refine SB (wpAny_setEpoch_of (o:=o) (Zp ho) hd hf ?_);refine SB<|Vo<|SL ⟨_,rfl,"set_iterator",_,⟨_,Zc 0,rfl⟩,bE.lookup,?_⟩;have:=q2 ys d hp;rw[<-Xi s.heap {cls:=.type "tuple",data:=.seq (ys.map λi=>Wt (i:Nat) 0).toArray}]at this;show this
  ·change(List.map (λi=>rawInt ((i:Nat):Int)) ys).toArray.size<=Ve
   have:=hp.length_eq;simp at this⊢;omega
 ·rw[if_neg hc];refine SB<|SL ?_;refine SB<|wpAny_setEpoch_of ho hd hf ?_;unfold newFields;refine SB<|Vo<|SL ⟨_,rfl,"set_iterator",_,⟨_,Zc 0,rfl⟩,bE.lookup,q1 ?_⟩;simp at hc;cases hb:cN w with
  |true=>exact .inl rfl
  |false=>refine .inr ?_;have:=hc hb;simpa using this
def nD{h1:w_}{fs:YY 0}{x:s_}{α:Type}{f:Unit->Sem α}{R:α->td->Prop}(g:h1.get? it=a_ {cls:=.type "set_iterator",data:=.fields fs})(hj:j<fs.size)(k:∀h2:w_,h2.get? it=a_ {cls:=.type "set_iterator",data:=.fields (fs.setIfInBounds j x)}->(∀(b:t_),b≠it->h2.get? b=h1.get? b)->Heap.ExtBut it h1 h2->k_ (f ()) R E' {s with heap:=h2}):
  k_ (YL (.ref it) j x >>= f) R E' {s with heap:=h1}:=by
 refine SB<|XH (s:={s with heap:=h1}) g rfl hj ?_;refine k _ ?_ (λb hb=>(Vz ..).2 b hb) (Vz ..).extBut;rw[VU _ g<|XB<|Xa rfl _];simp[W2]
def Bi(hI:s.heap.get? it=a_ (siO a first i n ep)):s.TypeIs (.ref it) "set_iterator" := ⟨_,hI,rfl⟩
def Fe{Q:C_ s_->td->Prop}(hI:s.heap.get? it=a_ (siO a (.int (Zz i) 0) i es.size ep))(ho:Zb 0=a_ o)(hd:o.data=.set es ep t)(ht:TOk (cN w) t)(hf:Z1 0=true)(ie:cN w=true\/(!t.plain&&decide (es.size>1))=false)(ag:i<es.size)(cw:i<(q0m 0).size)(q:∀h',h'.get? it=a_ (siO a (.int (Zz<|i+1) 0) (i+1) es.size ep)->(∀(b:t_),b≠it->Zf 0=N_ 0)->Q (a_ (q0m 0)[i].2) {s with heap:=h'}):k_ (pyNext<|.ref it) Q E s:=by
 let hT:=Bi hI;unfold pyNext;refine SB<|W0<|VC (name:=Vg "__next__") hT bE<|VD bE hT fJ ?_<|gQ _;refine SB<|SL<|SB<|W1 hI rfl ?_;refine(show u_ (setEntries a >>= _) _ _ s from SB (Yb ho hd hf ?_))
 refine WA (show decide _=false from by simp) ?_
 refine(show u_ (setNext a (Zz i) i ep >>= _) _ _ s from SB (Bh ho hd ht hf ie (Xu ag) ?_))
 rw[Vq cw];refine(show u_ (YL (.ref it) 0 _ >>= _) _ _ {s with heap:=s.heap} from nD hI (by simp[siO]) λh2 g2 k2 _=>?_)
 refine nD g2 (by simp) λh3 g3 k3 _=>?_;refine SL ⟨_,rfl,SL<|q h3 ?_ λb hb=>by rw[k3 b hb,k2 b hb]⟩;rw[g3];simp[siO,rawInt]
def GU{Q:C_ s_->td->Prop}(hh:A.handled=b_)(hI:s.heap.get? it=a_ (siO a (.int (Zz es.size) 0) es.size es.size ep))(ho:Zb 0=a_ o)(hd:o.data=.set es ep t)(ht:TOk (cN w) t)(hf:Z1 0=true)
  (ie:cN w=true\/(!t.plain&&decide (es.size>1))=false)
  (q:∀h',q0n 0->Q b_ {s with heap:=h'}):k_ (pyNext<|.ref it) Q E s:=by
 let hT:=Bi hI;let hsz:(q0m 0).size=es.size:=by have:=(kH (w:=w) (a:=a) (ep:=ep) (es:=es)).length_eq;simpa using this
 unfold pyNext;refine SB<|W0<|VC (name:=Vg "__next__") hT bE<|VD bE hT fJ ?_<|gQ _;refine SB<|SL<|SB<|W1 hI rfl ?_;refine(show u_ (setEntries a >>= _) _ _ s from SB (Yb ho hd hf ?_))
 refine WA (show decide _=false from by simp) ?_
 refine(show u_ (setNext a (Zz es.size) es.size ep >>= _) _ _ s from SB (Bh ho hd ht hf ie (U6 _) ?_))
 rw[VP ⋯];refine(show u_ (YL (.ref it) 2 _ >>= _) _ _ {s with heap:=s.heap} from nD hI (by simp[siO]) λh2 g2 k2 x2=>?_)
 refine(show u_ (newExc (.type "StopIteration") [] >>= _) _ _ _ from SB ?_);simp only[newExc,newTuple]
 refine SB (Vo (SB (m:=W3 _ _)<|Xd (a:=Vn) (by first|rfl|(simp only[W3];rfl))<|Vo ?_<|by size_fits)<|by size_fits)
 simp only[raiseNew];refine SB<|wpAny_handled ?_;rw[show A.in1.handled=b_ from hh]
 refine SB<|SL<|wpAny_throw ?_;refine SB<|Wn (T:="StopIteration") (b:=true) ⟨_,Zc 0,rfl⟩ isSubtype_stop ?_;show SL<|q _<|(x2.push _).push _
abbrev xO(ys:B_ Nat):Obj:={cls:=.type "tuple",data:=.seq (ys.map λi=>Wt (i:Nat) 0).toArray}
def Ff{tp p:Nat}{e:Int×s_}{ys:B_ Nat}{Q:C_ s_->td->Prop}(hI:s.heap.get? it=a_ (siO a (.ref tp) i es.size ep))(xl:s.heap.get? tp=a_ (xO ys))(ho:Zb 0=a_ o)(hd:o.data=.set es ep t)(hf:Z1 0=true)(hp:ys[i]?=a_ p)(he:es[p]?=a_ e)(q:∀h',h'.get? it=a_ (siO a (.ref tp) (i+1) es.size ep)->(∀(b:t_),b≠it->Zf 0=N_ 0)->Q (a_ e.2) {s with heap:=h'}):k_ (pyNext<|.ref it) Q E s:=by
 let hT:=Bi hI;unfold pyNext;refine SB<|W0<|VC (name:=Vg "__next__") hT bE<|VD bE hT fJ ?_<|gQ _;refine SB<|SL<|SB<|W1 hI rfl ?_;refine(show u_ (setEntries a >>= _) _ _ s from SB (Yb ho hd hf ?_))
 refine WA (show decide _=false from by simp) ?_
 unfold seqItems?;refine(show u_ ((load tp >>= _) >>= _) _ _ s from SB (SB<|wpAny_load xl<|show u_ (pure<|a_ _) _ _ s from SL ?_))
 let e1:(ys.map λi=>Wt (i:Nat) 0).toArray[((i:Nat):Int).toNat]?=a_ (.int p 0):=by simp[hp]
 refine(show u_ (match(ys.map λi=>Wt (i:Nat) 0).toArray[((i:Nat):Int).toNat]? with|some (Wt place tok)=>_|some val=>_|none=>_) _ _ s from ?_)
 rw[e1];unfold setNextDrawn;refine SB<|SB<|X1 ho hd hf ?_;refine WA (show decide _=false from by simp) ?_
 refine(show u_ (match es[p]? with|some (fst,x)=>pure x|x=>_) _ _ s from ?_)
 rw[he];refine SL ?_;refine(show u_ (YL (.ref it) 1 _ >>= _) _ _ {s with heap:=s.heap} from nD hI (by simp[siO]) λh2 g2 k2 _=>?_)
 refine SL ⟨_,rfl,SL<|q h2 ?_ k2⟩;rw[g2];simp[siO,rawInt]
def GV{tp:Nat}{ys:B_ Nat}{Q:C_ s_->td->Prop}(hh:A.handled=b_)(hI:s.heap.get? it=a_ (siO a (.ref tp) es.size es.size ep))(xl:s.heap.get? tp=a_ (xO ys))(ho:Zb 0=a_ o)(hd:o.data=.set es ep t)(hf:Z1 0=true)
  (hy:ys.length=es.size) (q:∀h',q0n 0->Q b_ {s with heap:=h'}):k_ (pyNext<|.ref it) Q E s:=by
 let hT:=Bi hI;unfold pyNext;refine SB<|W0<|VC (name:=Vg "__next__") hT bE<|VD bE hT fJ ?_<|gQ _;refine SB<|SL<|SB<|W1 hI rfl ?_;refine(show u_ (setEntries a >>= _) _ _ s from SB (Yb ho hd hf ?_))
 refine WA (show decide _=false from by simp) ?_
 unfold seqItems?;refine(show u_ ((load tp >>= _) >>= _) _ _ s from SB (SB<|wpAny_load xl<|show u_ (pure<|a_ _) _ _ s from SL ?_))
 let e1:(ys.map λi=>Wt (i:Nat) 0).toArray[((es.size:Nat):Int).toNat]?=b_:=by simp[hy]
 refine(show u_ (match(ys.map λi=>Wt (i:Nat) 0).toArray[((es.size:Nat):Int).toNat]? with|some (Wt place tok)=>_|some val=>_|none=>_) _ _ s from ?_)
 rw[e1];refine(show u_ (YL (.ref it) 0 _ >>= _) _ _ {s with heap:=s.heap} from nD hI (by simp[siO]) λh1 g1 k1 x1=>?_)
 refine nD g1 (by simp) λh2 g2 k2 x2=>?_;refine(show u_ (newExc (.type "StopIteration") [] >>= _) _ _ _ from SB ?_);simp only[newExc,newTuple]
 refine SB (Vo (SB (m:=W3 _ _)<|Xd (a:=Vn) (by first|rfl|(simp only[W3];rfl))<|Vo ?_<|by size_fits)<|by size_fits)
 simp only[raiseNew];refine SB<|wpAny_handled ?_;rw[show A.in1.handled=b_ from hh]
 refine SB<|SL<|wpAny_throw ?_;refine SB<|Wn (T:="StopIteration") (b:=true) ⟨_,Zc 0,rfl⟩ isSubtype_stop ?_;show SL<|q _<|((x1.trans x2).push _).push _
end
def Aa:typeLookup (WV "set") (Vg "__len__")=pure (a_<|Value.builtin "set.__len__"):=by rw[Yo,W6];rfl
def xP:entryFor table "set_iterator.__iter__" = a_ Builtin.«dict_keyiterator.__iter__»:=entryFor_alias (id:="set_iterator.__iter__") (id':="dict_keyiterator.__iter__") (by first|rfl|decide +kernel) (by first|rfl|decide +kernel) (by decide +kernel) (by rfl)
def Ab(a:s_):argsOk "set_iterator.__iter__" ⟨[a],[]⟩:=by let e:=signature?_of (id:="set_iterator.__iter__") (n:=['_','_','r','e','t','i','_','_']) (o:=['r','o','t','a','r','e','t','i','_','t','e','s']) (by rfl) Bg;unfold argsOk;rw[e];rfl
section
variable{o:Obj}{es:Array (Int×s_)}{t:X9}
def GW{Q:j_ Bool}(hT:s.TypeIs (.ref a) "set")(q:Q false s):k_ (WO<|.ref a) Q E s:=by unfold WO;refine SB<|Xn hT Aa ?_;dsimp only;rw[show splitId "set.__len__" = a_ ("set","__len__") by decide +kernel];refine SB<|Wn hT sub_set_self ?_;refine wpAny_ite_split (λh=>absurd h nofun) λ_=>?_;refine wpAny_ite_split (λ_=>SB<|Xv hT<|SL q) λh=>?_;show absurd nofun h
def Bj(hI:s.heap.get? it=a_ (siO a first i n ep))(q:Q (.ref it) s):k_ (pyIter<|.ref it) Q E s:=by
 let hT:=Bi hI;refine XZ hT qA (VD qA hT xP (show u_ (Builtin.«dict_keyiterator.__iter__» _) _ _ _ from ?_) (Ab _))
 unfold Builtin.«dict_keyiterator.__iter__»;refine SB<|SL ?_;show SL ⟨_,rfl,"set_iterator",_,hT,bE.lookup,q⟩
def CJ(hh:A.handled=b_)(gj:a≠it)(hd:o.data=.set es ep t)(ht:TOk (cN w) t)(hf:Z1 0=true)(ie:cN w=true\/(!t.plain&&decide (es.size>1))=false):
  Walks prog w A it [it,a] [it] es.size (λi v=>(q0m 0)[i]?.map (·.2)=a_ v) (λi h=>h.get? it=a_ (siO a (.int (Zz i) 0) i es.size ep)/\h.get? a=a_ o):=by
 let hsz:(q0m 0).size=es.size:=by have:=(kH (w:=w) (a:=a) (ep:=ep) (es:=es)).length_eq;simpa using this
 refine⟨λb hb=>by simp at hb;simp[hb],λi h h' hs k=>⟨k it (by simp) _ hs.1,k a (by simp) _ hs.2⟩,λi s Q E hi hs q=>?_,λs Q E hs q=>?_,λi s Q E hs q=>?_⟩
 ·let hl:i<(q0m 0).size:=⋯;refine Fe hs.1 hs.2 hd ht hf ie hi hl λh' g k=>q _ h' s.toks (by rw[Vq hl];rfl) ⟨g,by rw[k a gj];show hs.2⟩ λb o' hb e=>by rw[k b<|l_ hb];show e
 ·show GU hh hs.1 hs.2 hd ht hf ie λh' k=>q h' s.toks λb o' hb e=>k b o' (l_ hb) e
 ·show Bj hs.1 q
def CK{tp:Nat}{ys:B_ Nat}(hh:A.handled=b_)(gj:a≠it)(S7:tp≠it)(hd:o.data=.set es ep t)(hf:Z1 0=true)(hy:ys.Perm (Vm es.size)):
  Walks prog w A it [it,tp,a] [it] es.size (λi v=>∃p e,ys[i]?=a_ p/\es[p]?=a_ e/\v=e.2) (λi h=>h.get? it=a_ (siO a (.ref tp) i es.size ep)/\h.get? tp=a_ (xO ys)/\h.get? a=a_ o):=by
 let hl:ys.length=es.size:=by have:=hy.length_eq;simpa using this
 refine⟨λb hb=>by simp at hb;simp[hb],λi h h' hs k=>⟨k it (by simp) _ hs.1,k tp (by simp) _ hs.2.1,k a (by simp) _ hs.2.2⟩,λi s Q E hi hs q=>?_,λs Q E hs q=>?_,λi s Q E hs q=>?_⟩
 ·let h1:i<ys.length:=⋯;let e1:ys[i]?=a_ ys[i]:=VM h1;let h2:ys[i]<es.size:=by have:=hy.mem_iff.mp<|V9 h1;simpa using this
  let e2:es[ys[i]]?=a_ es[ys[i]]:=Vq h2;show Ff hs.1 hs.2.1 hs.2.2 hd hf e1 e2 λh' g k=>q _ h' s.toks ⟨_,_,e1,e2,rfl⟩ ⟨g,by rw[k tp S7];show hs.2.1,by rw[k a gj];show hs.2.2⟩ λb o' hb e=>by rw[k b<|l_ hb];show e
 ·show GV hh hs.1 hs.2.1 hs.2.2 hd hf hl λh' k=>q h' s.toks λb o' hb e=>k b o' (l_ hb) e
 ·show Bj hs.1 q
def CL(hh:A.handled=b_)(ho:Zb 0=a_ o)(hx:o.ExactSet)(hd:o.data=.set es ep t)(ht:TOk (cN w) t)(hf:Z1 0=true)(hz:es.size<=Ve)(S:t_)(vy:S≠a)(res:s_)(c₀:Nat)(hS:s.heap.get? S=a_ {cls:=.type "list",data:=.seq #[] c₀})(hR:∀h' d tk (acc:YY 0) c',(∀b o,b≠S->N_ 0=a_ o->Zf 0=a_ o)->h'.get? S=a_ {cls:=.type "list",data:=.seq acc c'}->acc.toList.Perm (es.toList.map (·.2))->R (.ok<|.ret res) {s with heap:=h',drawn:=d,toks:=tk}):
  m_ prog w A.in1 (V1 (.ref S) (.ref a) res) (λfin s'=>match fin with|.done f=>R (.ok f) s'|.again c'=>c'.quiet=true/\codeAny (Z8 0) A c' R s') (λe s'=>R (.error e) s') s:=by
 have hT:s.TypeIs (.ref a) "set" := ⟨o,ho,hx.1⟩
 have SD:=Vd ho
 have pb:=Vd hS
 unfold V1
 refine SB<|Xv hT ?_
 have hc:(Xb (.ref S) (.ref a) || WV "set" == WV "list" || WV "set" == WV "tuple")=false:=by
  have:Xb (.ref S) (.ref a)=false:=by simp[Xb,vy]
  rw[this]
  decide
 rw[hc,if_neg Vj]
 have tail:∀{s1:td}{I:t_}{fp:B_ t_}{P:Nat->s_->Prop}{St:Nat->w_->Prop},Walks prog w A.in1 I fp [I] es.size P St->S∉fp->St 0 s1.heap->I≠S->s1.heap.get? S=a_ {cls:=.type "list",data:=.seq #[] c₀}->s1.TypeIs (.ref a) "set" -> s1.gens=s.gens->s1.os=s.os->
   (∀b o,N_ 0=a_ o->s1.heap.get? b=a_ o)->(e_ s)<=I->(∀acc,ItemsOf P acc es.size->acc.toList.Perm (es.toList.map (·.2)))->
   ∀{f:Bool->Sem PySem.Fin},(∀b,f b=(if(b || false)=true then(do rule "list.extend.makes-room";Yh (.ref S);again (.builtin "list.extend.loop" ⟨[.ref S,.ref I,res],[]⟩)) else again (.builtin "list.extend.loop" ⟨[.ref S,.ref I,res],[]⟩))\/
    f b=(do rule "list.extend.makes-room";Yh (.ref S);again (.builtin "list.extend.loop" ⟨[.ref S,.ref I,res],[]⟩)))->
   m_ prog w A.in1 (holding [Vu I] (WO<|.ref a) >>= f) (λfin s'=>match fin with|.done f=>R (.ok f) s'|.again c'=>c'.quiet=true/\codeAny (Z8 0) A c' R s') (λe s'=>R (.error e) s') s1:=by
  intro s1 I fp P St W m6 cg hIS hS1 hT1 hg ju kp hI hit f hf'
  have key:∀h c₁ tk,St 0 h->(∀b o,b≠S->s1.heap.get? b=a_ o->h.get? b=a_ o)->h.get? S=a_ {cls:=.type "list",data:=.seq #[] c₁}->codeAny (Z8 0) A (.builtin "list.extend.loop" ⟨[.ref S,.ref I,res],[]⟩) R {s1 with heap:=h,toks:=tk}:=by
   intro h c₁ tk ja hk u9
   refine codeAny_extend_loopS (Walks.toS W) hz S m6 res es.size 0 _ #[] c₁ (Nat.sub_zero _) (Vw _) ja u9 (ItemsOf.nil P) λs' acc c' hm jw aw=>?_
   have e:=Moved.eq_with hm
   rw[e]
   have:=hR s'.heap s1.drawn s'.toks acc c' (λb o hb e=>hm.heap b o (λz=>?_)<|hk b o hb<|kp b o e) jw<|hit acc aw
   ·rw[<-hg,<-ju]at this
    exact this
   ·rcases U9.mp z with z|z
    ·exact hb z
    ·have h1:=Vd e
     exact absurd (Vc.mp z▸h1)<|Nat.not_lt.mpr hI
  refine SB<|VO<|GW hT1 ?_
  have tu:m_ prog w A.in1 (do rule "list.extend.makes-room";Yh (.ref S);again (.builtin "list.extend.loop" ⟨[.ref S,.ref I,res],[]⟩)) (λfin s'=>match fin with|.done f=>R (.ok f) s'|.again c'=>c'.quiet=true/\codeAny (Z8 0) A c' R s') (λe s'=>R (.error e) s') s1:=by
   refine SB<|XT<|SB ?_
   unfold Yh
   refine SB<|wpAny_updateSeq hS1 rfl ?_
   have u0:=VU (VB λx=>x.push Vn) hS1 rfl
   refine wpAny_updateSeq u0 rfl ?_
   have T3:=VU (VB λx=>x.pop) u0 rfl
   refine SL ⟨X8 F.plain_extend_loop _,key _ _ _ (W.frame 0 s1.heap _ cg λb hb o e=>?_) (λb o hb e=>?_) T3⟩
   ·have SR:b≠S:=λh=>m6 (h▸hb)
    exact(Wg _ _<|Wx SR).trans ((Wg _ _<|Wx SR).trans e)
   ·exact(Wg _ _<|Wx hb).trans ((Wg _ _<|Wx hb).trans e)
  rcases hf' false with h|h
  ·rw[h,q0k 0]
   exact SL ⟨X8 F.plain_extend_loop _,key s1.heap _ s1.toks cg (λb o _ e=>e) hS1⟩
  ·rw[h]
   exact tu
 refine SB<|GT ho hx hd hf hz (λie=>?_) λys d hp=>?_
 ·refine tail (s1:={s with heap:=s.heap.push (siO a (.int 0 0) 0 es.size ep)}) (CJ (A:=A.in1) hh (Vh SD) hd ht hf ie) ?_ ⟨?_,Zp ho⟩ (WR pb) (Zp hS) ⟨o,Zp ho,hx.1⟩ rfl rfl (λb o e=>Zp e) (U6 _) (λacc ha=>?_) (λb=>?_)
  ·intro z
   rcases U9.mp z with z|z
   ·exact Vh pb z
   ·exact vy (Vc.mp z)
  ·have e0:Zz 0=0:=by unfold slotAt;split <;> rfl
   rw[e0]
   exact Zc 0
  ·have hsz:(q0m 0).size=es.size:=by have:=(kH (w:=w) (a:=a) (ep:=ep) (es:=es)).length_eq;simpa using this
   have:acc.toList=(q0m 0).toList.map (·.2):=by
    apply Wr
    intro i
    rw[Vk,V4,V4]
    by_cases hi:i<acc.size
    ·have e:=ha.2 i acc[i] (Vq hi)
     rw[Vq hi]
     exact e.symm
    ·have h1:=ha.1
     rw[VP ⋯,VP ⋯]
     rfl
   rw[this]
   exact kH.map _
  ·cases b <;> first|exact Or.inl rfl|exact Or.inr rfl
 ·have xb:(s.heap.push<|xO ys).objs.size=(e_ s)+1:=Xi ..
  have gS:(s.heap.push<|xO ys).get? S=a_ {cls:=.type "list",data:=.seq #[] c₀}:=Zp hS
  have ga:(s.heap.push<|xO ys).get? a=a_ o:=Zp ho
  have gt:(s.heap.push<|xO ys).get? (e_ s)=a_ (xO ys):=Zc 0
  refine tail (s1:={s with heap:=(s.heap.push<|xO ys).push<|siO a (.ref<|e_ s) 0 es.size ep,drawn:=d}) (CK (A:=A.in1) (it:=(e_ s)+1) (tp:=(e_ s)) hh (Vh<|XW SD) (Vh<|Nat.lt_succ_self _) hd hf hp) ?_ ⟨?_,Zp gt,Zp ga⟩ (WR<|XW pb) (Zp gS) ⟨o,Zp ga,hx.1⟩ rfl rfl (λb o e=>Zp<|Zp e) (YD _) (λacc ha=>?_) (λb=>?_)
  ·intro z
   rcases U9.mp z with z|z
   ·exact Vh (XW pb) z
   rcases U9.mp z with z|z
   ·exact Vh pb z
   ·exact vy (Vc.mp z)
  ·have:=U7 (s.heap.push<|xO ys) (o:=siO a (.ref<|e_ s) 0 es.size ep) rfl
   rw[xb]at this
   exact this
  ·have hl:ys.length=es.size:=by have:=hp.length_eq;simpa using this
   have:acc.toList=ys.map λp=>(es.toList.map (·.2)).getD p .none:=by
    apply Wr
    intro i
    rw[Vk,V4]
    by_cases hi:i<acc.size
    ·let⟨p,e,h1,h2,h3⟩:=ha.2 i acc[i] (Vq hi)
     rw[Vq hi,h1,h3]
     simp[h2]
    ·have h1:=ha.1
     rw[VP ⋯,XC ⋯]
     rfl
   rw[this]
   refine(hp.map _).trans ?_
   have e2:(Vm es.size).map (λp=>(es.toList.map (·.2)).getD p .none)=es.toList.map (·.2):=by
    apply YB
    ·simp
    ·intro i h1 h2
     simp at h1 h2
     simp[h2]
   rw[e2]
  ·cases b <;> first|exact Or.inl rfl|exact Or.inr rfl
end
open PySem.SeqAt PySem.W
abbrev cP(b:Bool)(n i:Nat):Nat:=if b then n-1-i else i
abbrev Bk(b:Bool)(n:Nat)(p:B_ Nat):B_ Nat:=Y9<|p.map<|cP b n
def lO{α:Type}(b:Bool){l:B_ α}{d:α}(hi:i<l.length):(Y9 l).getD i d=l.getD (cP b l.length i) d:=by
 cases b with
 |false=>rfl
 |true=>
  change l.reverse.getD i d=l.getD (l.length-1-i) d
  rw[Wv,Wv,List.getElem?_reverse hi]
def iG(h:i<n):cP b n i<n:=by unfold cP;split <;> omega
def CM{p:B_ Nat}(h:p.Perm (Vm n)):(Bk b n p).Perm (Vm n):=by
 cases b with
 |false=>
  let e:Bk false n p=p:=by
   change p.map (λi=>cP false n i)=p
   have:(λi=>cP false n i)=id:=by funext i;rfl
   rw[this,List.map_id]
  rw[e];show h
 |true=>
  let e:(Vm n).map (cP true n)=(Vm n).reverse:=by
   apply YB
   ·simp
   ·intro i h1 h2;simp[cP]
  change((p.map<|cP true n).reverse).Perm _
  refine(List.reverse_perm _).trans ((h.map _).trans ?_);rw[e];show List.reverse_perm _
def CN{p:B_ Nat}{lt:Nat->Nat->Bool}(h:p.Pairwise (λi j=>lt (cP b n j) (cP b n i)=false)):(Bk b n p).Pairwise (λi j=>(if b then lt i j else lt j i)=false):=by
 let h1:(p.map<|cP b n).Pairwise (λi j=>lt j i=false):=V2.mpr h;cases b with
 |false=>exact h1
 |true=>
  change((p.map<|cP true n).reverse).Pairwise _
  rw[List.pairwise_reverse];show h1
def Fg{vs:ZQ 0}{p:B_ Nat}(h:∀i∈p,i<vs.length):Y9 (p.map λi=>(Y9 vs).getD i Vn)=(Bk b vs.length p).map λi=>Zn 0:=by
 let e:(p.map λi=>(Y9 vs).getD i Vn)=(p.map<|cP b vs.length).map λi=>Zn 0:=by rw[VJ];show WC λi hi=>lO b<|h i hi
 rw[e];unfold Bk katRev;split
 ·rw[List.map_reverse]
 ·rfl
def CO{α:Type}(b:Bool)(l:B_ α):Y9 (Y9 l)=l:=by unfold katRev;split <;> simp
def range_getD(vs:ZQ 0):((Vm vs.length).map λi=>Zn 0)=vs:=by
 apply Wr;intro i;by_cases hi:i<vs.length
 ·simp[hi]
 ·simp[hi]
variable{e1:Nat}{kS:t_}{out:ZQ 0}
section
variable{vs ks:ZQ 0}
def Lb{st:SortSt}{e:Nat}{P:PySem.Fin->td->Prop}(jv:(arrOf st).map (·.2)=out.toArray)(hz:out.length<64)(hkz:ks.length<64)(hf:failedOf st=b_)(m7:kS≠a)(gk:s.heap.get? kS=a_ (seqObj "list" ks.toArray e))(ga:Zb 0=a_ (seqObj "list" #[] e1))(h:∀(h':w_)(c:Nat),(∀x o,x≠a->x≠kS->s.heap.get? x=a_ o->h'.get? x=a_ o)->h'.get? a=a_ (seqObj "list" (Y9 out).toArray c)->(∃o,h'.get? kS=a_ o)->P (.done<|.ret .none) {s with heap:=h'}):
  k_ (ksk_tail a b e1 (.ref kS) st) P E s:=by
 let w1:=Vz s.heap kS<|VB λ_=>(#[]:YY 0);obtain⟨ck,hck⟩:∃ck,(s.heap.update kS<|VB λ_=>(#[]:YY 0)).get? kS=a_ (seqObj "list" #[] ck):=⟨_,Yn gk λ_=>#[]⟩;let yy:=(w1.2 a m7.symm).trans ga;let w2:=Vz (s.heap.update kS<|VB λ_=>(#[]:YY 0)) a<|VB λ_=>(Y9 out).toArray;obtain⟨c2,f7⟩:∃c2,((s.heap.update kS<|VB λ_=>(#[]:YY 0)).update a<|VB λ_=>(Y9 out).toArray).get? a=a_ (seqObj "list" (Y9 out).toArray c2):=⟨_,Yn yy λ_=>(Y9 out).toArray⟩;let hsz:(Y9 out).toArray.size=out.length:=by rw[Va,kat_len]
 unfold ksk_tail
 try dsimp only
 rw[jv,kat_outs];refine SB (Xz gk rfl ?_ (by rw[Va,VQ];omega)<|Vw _);refine SB<|wpAny_letGo<|SB<|seqEpoch_at yy rfl ?_;refine SB (Xz yy rfl ?_ (Vw _)<|VS (Nat.le_of_eq hsz) (by rw[VQ];omega));rw[hf];simp only[bne_self_eq_false,VV,if_false];show SL<|h _ c2 (λx o h1 h2 q=>(w2.2 x h1).trans<|(w1.2 x h2).trans q) f7 ⟨_,(w2.2 kS m7).trans hck⟩
def R0{e:Nat}{P:PySem.Fin->td->Prop}(lt:Nat->Nat->Bool)(hl:ks.length=vs.length)(dh:vs.length<64)(m7:kS≠a)(tr:∀i j k,i<vs.length->j<vs.length->k<vs.length->lt j i=false->lt k j=false->lt k i=false)(as:∀i j,i<vs.length->j<vs.length->lt i j=true->lt j i=false)(gk:s.heap.get? kS=a_ (seqObj "list" ks.toArray e))(ga:Zb 0=a_ (seqObj "list" #[] e1))(hk:2<=vs.length->∀(Q:j_ SortKind) E',Q κ s->k_ (keyKind' ks.toArray) Q E' s)(ag:∀i j,i<vs.length->j<vs.length->∀Q:j_ Bool,Q (lt i j) s->k_ (keyLt' κ (ks.getD i Vn) (ks.getD j Vn)) Q (λ_ _=>False) s)(h:∀(p:B_ Nat)(h':w_)(c:Nat),p.Perm (Vm vs.length)->p.Pairwise (λi j=>(if b then lt i j else lt j i)=false)->(∀x o,x≠a->x≠kS->s.heap.get? x=a_ o->h'.get? x=a_ o)->
   h'.get? a=a_ (seqObj "list" (p.map λi=>Zn 0).toArray c)->(∃o,h'.get? kS=a_ o)->P (.done (.ret .none)) {s with heap:=h'}):
  k_ (ksk_end a b vs.toArray e1 (.ref kS) ks.toArray) P E s:=by
 have skip:∀t:Sem PySem.Fin,k_ t P E s->k_ (if b=true then(do let _ <-rule "list.sort.reverse";t) else t) P E s:=λt ht=>by
  split
  ·exact SB (XT ht)
  ·exact ht
 have u2:(Y9 ks).length=(Y9 vs).length:=by rw[kat_len,kat_len,hl]
 unfold ksk_end
 try dsimp only
 refine skip _ ?_
 rw[kat_pairs b hl]
 by_cases h2:vs.toArray.size<2
 ·rw[if_pos h2,if_pos h2]
  rw[Va]at h2
  refine SB<|SL ?_
  rw[StateT.run_pure]
  refine SB<|SL ?_
  try dsimp only
  refine Lb (st:=SortSt.mk' general' ((Y9 ks).toArray.zip (Y9 vs).toArray) #[] 7 b_) (out:=Y9 vs) (ks:=ks) ?_ (by rw[kat_len];exact dh) ⋯ rfl m7 gk ga λh' c k1 k2 k3=>?_
  ·show((Y9 ks).toArray.zip (Y9 vs).toArray).map (·.2)=(Y9 vs).toArray
   apply Array.toList_inj.mp
   rw[Array.toList_map,ksk_zip]
   show(List.zip _ _).map Prod.snd=_
   rw[List.map_snd_zip (by rw[u2];exact U6 _)]
  ·rw[CO]at k2
   refine h (Vm vs.length) h' c (XF _) ?_ k1 (by rw[range_getD];exact k2) k3
   rw[Wa]
   intro i j hi hj cu
   simp only[XX]at hi hj
   omega
 ·rw[if_neg h2,if_neg h2]
  rw[Va]at h2
  refine SB<|hk ⋯ _ _ ?_
  have v9:(kas_sort (Y9 vs).length).kasWp (kas_ask prog w A κ<|Y9 ks) (λp di=>p=evT (λi j=>lt (ZU i)<|ZU j) (kas_sort vs.length)/\di=s) s:=by
   rw[kat_len]
   refine uU (n:=vs.length) (lt:=λi j=>lt (ZU i)<|ZU j) (λi j C hi hj hC=>?_) (uT ⋯) ⟨rfl,rfl⟩
   show k_ (keyLt' κ ((Y9 ks).getD i Vn)<|(Y9 ks).getD j Vn) C (λ_ _=>False) s
   rw[lO b ⋯,lO b ⋯,hl]
   exact ag _ _ (iG hi) (iG hj) C hC
  refine SB (WE (kat_run (ks:=Y9 ks) (vs:=Y9 vs) (E:=E) (Q:=λbu s'=>s'=s/\arrOf bu=(evT (λi j=>lt (ZU i) (ZU j)) (kas_sort vs.length)).map (kas_item ((Y9 ks).toArray.zip (Y9 vs).toArray))/\failedOf bu=b_)
   u2 (by rw[kat_len];omega) (by rw[kat_len];exact dh) (λp bu s' _ a2 a3 a4=>⟨a4.2,by rw[a2,a4.1],a3⟩) v9) ?_ λ_ _ x=>x)
  rintro⟨⟨⟩,bu⟩ s' ⟨rfl,har,hf⟩
  try dsimp only
  let⟨c1,c2⟩:=Be (n:=vs.length) (lt:=λi j=>lt (ZU i)<|ZU j) (λi j k hi hj hk=>tr _ _ _ (iG hi) (iG hj)<|iG hk) (λi j hi hj=>as _ _ (iG hi)<|iG hj) ⋯
  have cp:∀i∈(evT (λi j=>lt (ZU i)<|ZU j)<|kas_sort vs.length).toList,i<vs.length:=λi hi=>by simpa using c1.mem_iff.mp hi
  refine Lb (ks:=ks) (kat_snds u2 har) (by rw[U5,c1.length_eq,XX];exact dh) ⋯ hf m7 gk ga λh' c k1 k2 k3=>?_
  rw[Fg cp]at k2
  exact h _ h' c (CM c1) (CN c2) k1 k2 k3
def CP{f:s_}{P:PySem.Fin->td->Prop}(ho:Zb 0=a_ (seqObj "list" vs.toArray n))(dh:vs.length<64)(J:t_->Nat->ZQ 0->Nat->td->Prop)(h0:∀(kS e1:Nat)(h':w_),(∀x o,x≠a->s.heap.get? x=a_ o->h'.get? x=a_ o)->(e_ s)<=kS->h'.get? a=a_ (seqObj "list" #[] e1)->h'.get? kS=a_ (seqObj "list" #[] 0)->J kS e1 [] 0 {s with heap:=h'})(dq:∀kS e1 ks e s',J kS e1 ks e s'->kS≠a/\s'.heap.get? a=a_ (seqObj "list" #[] e1)/\s'.heap.get? kS=a_ (seqObj "list" ks.toArray e))(turn:∀kS e1 ks e s' x,vs[ks.length]?=a_ x->J kS e1 ks e s'->k_ (call f [x]) (λv di=>di.heap.get? kS=a_ (seqObj "list" ks.toArray e)/\∀(h':w_) e',WD kS di.heap h'->h'.get? kS=a_ (seqObj "list" (ks++[v]).toArray e')->J kS e1 (ks++[v]) e' { di with heap:=h'}) (λ_ _=>False) s')(fin:∀kS e1 ks e s',ks.length=vs.length->J kS e1 ks e s'->∃lt:Nat->Nat->Bool,(∀i j k,i<vs.length->j<vs.length->k<vs.length->lt j i=false->lt k j=false->lt k i=false)/\(∀i j,i<vs.length->j<vs.length->lt i j=true->lt j i=false)/\
   (2<=vs.length->∀(Q:j_ SortKind) E',Q κ s'->k_ (keyKind' ks.toArray) Q E' s')/\
   (∀i j,i<vs.length->j<vs.length->∀Q:j_ Bool,Q (lt i j) s'->k_ (keyLt' κ (ks.getD i Vn)<|ks.getD j Vn) Q (λ_ _=>False) s')/\
   ∀(p:B_ Nat)(h':w_)(c:Nat),p.Perm (Vm vs.length)->p.Pairwise (λi j=>(if b then lt i j else lt j i)=false)->(∀x o,x≠a->x≠kS->s'.heap.get? x=a_ o->h'.get? x=a_ o)->
   h'.get? a=a_ (seqObj "list" (p.map λi=>Zn 0).toArray c)->(∃o,h'.get? kS=a_ o)->P (.done (.ret .none)) { s' with heap:=h'}):
  k_ (ksk_tree a f b) P E s:=by
 let ha:a<(e_ s):=Vd ho;let w1:=Vz s.heap a<|VB λ_=>(#[]:YY 0);obtain⟨e1,d0⟩:∃e1,(X_<|VB λ_=>(#[]:YY 0)).get? a=a_ (seqObj "list" #[] e1):=⟨_,Yn ho λ_=>#[]⟩;unfold ksk_tree;refine SB (listItems_at ho rfl<|SB<|Xz ho rfl ?_ (by rw[Va,VQ];omega)<|Vw _);refine SB (seqEpoch_at d0 rfl<|SB<|wpAny_newTuple ?_ (by change vs.length<=_;rw[VQ];omega));refine SB<|wpAny_newList (VO ?_)<|Vw _;let S8:((X_<|VB λ_=>(#[]:YY 0)).push<|seqObj "tuple" vs.toArray 0).objs.size=(e_ s)+1:=by rw[size_push',Yy]
 let J0:=h0 ((X_<|VB λ_=>(#[]:YY 0)).push<|seqObj "tuple" vs.toArray 0).objs.size e1 (((X_<|VB λ_=>(#[]:YY 0)).push<|seqObj "tuple" vs.toArray 0).push<|seqObj "list" #[] 0)
  (λx o hx q=>Zp<|Zp<|(w1.2 x hx).trans q) (by rw[S8];show YD _) (Zp<|Zp d0) (Zc 0)
 change k_ (ksk_rest a f b vs.toArray e1<|.ref ((X_<|VB λ_=>(#[]:YY 0)).push<|seqObj "tuple" vs.toArray 0).objs.size) P E {s with heap:=((X_<|VB λ_=>(#[]:YY 0)).push<|seqObj "tuple" vs.toArray 0).push (seqObj "list" #[] 0)}
 generalize ((X_<|VB λ_=>(#[]:YY 0)).push<|seqObj "tuple" vs.toArray 0).objs.size=kS at J0
 revert J0
 generalize ({s with heap:=((X_<|VB λ_=>(#[]:YY 0)).push<|seqObj "tuple" vs.toArray 0).push (seqObj "list" #[] 0)}:td)=s0;intro J0;unfold ksk_rest;refine SB<|XT ?_
 first
  |rw[List.forIn_toArray]
  |(rw[<-Array.forIn_toList];simp only[List.toList_toArray])
 refine SB<|ksk_fold (λi s'=>∃ks e,ks.length=i/\J kS e1 ks e s') vs 0 s0 ⟨[],0,rfl,J0⟩ ?step ?done
 case step=>
  rintro j x s' hx ⟨ks,e,hl,hJ⟩;let hj:j<vs.length:=(SC.mp hx).1;let dv:ks.length=j:=⋯;refine SB (W0<|WE (turn kS e1 ks e s' x (by rw[dv];show hx) hJ) (λv di q=>?_) λ_ _ z=>z.elim);let⟨gk,vq⟩:=q
  try dsimp only
  let w2:=Vz di.heap kS (VB (·.push v));obtain⟨c2,f7⟩:∃c2,(di.heap.update kS (VB (·.push v))).get? kS=a_ (seqObj "list" (ks.toArray.push v) c2):=⟨_,Yn gk (·.push v)⟩;refine SB (Xz gk rfl ?_ (by rw[Va,VQ];omega)<|VS (Nat.le_of_eq<|Array.size_push ..) (by rw[Va,VQ];omega));refine SL ⟨rfl,ks++[v],c2,by simp;omega,vq _ c2 w2 ?_⟩;rw[f7];simp
 case done=>
  rintro s' ⟨ks,e,hl,hJ⟩;let dv:ks.length=vs.length:=⋯;let⟨m7,ga,gk⟩:=dq kS e1 ks e s' hJ;let⟨lt,tr,as,hk,ag,h⟩:=fin kS e1 ks e s' dv hJ
  try dsimp only
  refine SB<|listItems_at gk rfl ?_;show R0 (κ:=κ) lt dv dh m7 tr as gk ga hk ag h
end
open PySem.SeqAt
inductive PV where
 |non|bl (b:Bool)|int (i:Int)|str (x:Str)|tup (xs:B_ PV)|ref (n:Nat)|ty (n:String)|fl (xs:B_ PV)
mutual
def PV.beq:PV->PV->Bool
 |.non,.non=>true
 |.bl a,.bl b=>a == b
 |.int a,.int b=>a == b
 |.str a,.str b=>a == b
 |.tup a,.tup b=>PV.beqs a b
 |.ref a,.ref b=>a == b
 |.ty a,.ty b=>a == b
 |.fl a,.fl b=>PV.beqs a b
 |_,_=>false
def PV.beqs:Y6 0->Y6 0->Bool
 |[],[]=>true
 |x::xs,y::ys=>PV.beq x y&&PV.beqs xs ys
 |_,_=>false
end
mutual
theorem PV.beq_self:∀x:PV,PV.beq x x=true
 |.non=>rfl
 |.bl a=>by simp[PV.beq]
 |.int a=>by simp[PV.beq]
 |.str a=>by simp[PV.beq]
 |.tup a=>by simp only[PV.beq];show PV.beqs_self a
 |.ref a=>by simp[PV.beq]
 |.ty a=>by simp[PV.beq]
 |.fl a=>by simp only[PV.beq];show PV.beqs_self a
theorem PV.beqs_self:∀x:Y6 0,PV.beqs x x=true
 |[]=>rfl
 |x::xs=>by simp only[PV.beqs,PV.beq_self x,PV.beqs_self xs,Bool.and_self]
end
mutual
theorem PV.beq_eq:∀{x y:PV},PV.beq x y=true->x=y
 |.non,y,h=>by cases y <;> first|rfl|(simp[PV.beq]at h)
 |.bl a,y,h=>by cases y <;> first|(simp[PV.beq]at h;rw[h])|(simp[PV.beq]at h)
 |.int a,y,h=>by cases y <;> first|(simp[PV.beq]at h;rw[h])|(simp[PV.beq]at h)
 |.str a,y,h=>by cases y <;> first|(simp[PV.beq]at h;rw[h])|(simp[PV.beq]at h)
 |.tup a,y,h=>by
  cases y with
  |tup b=>simp only[PV.beq]at h;rw[PV.beqs_eq h]
  |_=>simp[PV.beq]at h
 |.ref a,y,h=>by cases y <;> first|(simp[PV.beq]at h;rw[h])|(simp[PV.beq]at h)
 |.ty a,y,h=>by cases y <;> first|(simp[PV.beq]at h;rw[h])|(simp[PV.beq]at h)
 |.fl a,y,h=>by
  cases y with
  |fl b=>simp only[PV.beq]at h;rw[PV.beqs_eq h]
  |_=>simp[PV.beq]at h
theorem PV.beqs_eq:∀{x y:Y6 0},PV.beqs x y=true->x=y
 |[],y,h=>by cases y <;> first|rfl|(simp[PV.beqs]at h)
 |x::xs,y,h=>by
  cases y with
  |nil=>simp[PV.beqs]at h
  |cons y ys=>simp only[PV.beqs,VE]at h;rw[PV.beq_eq h.1,PV.beqs_eq h.2]
end
instance:DecidableEq PV:=λx y=>match h:PV.beq x y with
 |true=>isTrue (PV.beq_eq h)
 |false=>isFalse λe=>by rw[e,PV.beq_self]at h;cases h
abbrev PV.ky:Nat->PV->Bool
 |_,.int _=>true
 |_,.str _=>true
 |n+1,.tup xs=>xs.all (PV.ky n)
 |_,_=>false
section
variable(w:x_)
mutual
def hsh:PV->Int
 |.int i=>Lq w (.inl i)
 |.str x=>Lq w (.inr x)
 |.tup xs=>reduceHash (Wb<|tK xs)
 |_=>0
def tK:Y6 0->Z9 0
 |[]=>[]
 |x::xs=>hsh x::tK xs
end
end
mutual
def drw:PV->Nat
 |.tup xs=>Bl xs+1
 |_=>1
def Bl:Y6 0->Nat
 |[]=>0
 |x::xs=>drw x+Bl xs
end
mutual
def HR(h:w_):PV->s_->Prop
 |.int i,v=>∃t,v=.int i t
 |.str x,v=>∃t,v=.str x t
 |.tup ps,v=>∃a its,v=.ref a/\IsTup h a its.toArray/\HRs h ps its
 |_,_=>False
def HRs(h:w_):Y6 0->ZQ 0->Prop
 |[],[]=>True
 |p::ps,v::vs=>HR h p v/\HRs h ps vs
 |[],_::_=>False
 |_::_,[]=>False
end
def HRs.length{h:w_}:∀{ps:Y6 0}{vs:ZQ 0},HRs h ps vs->ps.length=vs.length
 |[],[],_=>rfl
 |_::_,_::_,r=>congrArg (·+1) (HRs.length r.2)
 |[],_::_,r=>r.elim
 |_::_,[],r=>r.elim
def HRs.at{h:w_}:∀{ps:Y6 0}{vs:ZQ 0}{j:Nat}{p:PV},HRs h ps vs->ps[j]?=a_ p->∃v,vs[j]?=a_ v/\HR h p v
 |[],[],_,_,_,e=>by simp at e
 |q::_,v::_,0,p,r,e=>by
  have:q=p:=by simpa using e
  subst this;show⟨v,rfl,r.1⟩
 |_::ps,_::vs,j+1,p,r,e=>by
  let⟨v,h1,h2⟩:=HRs.at (ps:=ps) (vs:=vs) (j:=j) (p:=p) r.2<|l_ e;show⟨v,l_ h1,h2⟩
 |[],_::_,_,_,r,_=>r.elim
 |_::_,[],_,_,r,_=>r.elim
def Fh{h:w_}{x y:YY 0}(p:IsTup h a x)(q:IsTup h a y):x=y:=by let⟨o,ho,_,n,hd⟩:=p;let⟨o',cy,_,n',du⟩:=q;obtain rfl:o=o':=Vv<|ho.symm.trans cy;rw[hd]at du;injection du
mutual
theorem HR.one{h:w_}:∀{p q:PV}{v:s_},HR h p v->HR h q v->p=q
 |.int i,q,v,r,r'=>by
  let⟨t,rfl⟩:=r;cases q with
  |int j=>let⟨t',e⟩:=r';injection e with e;rw[e]
  |str j=>let⟨t',e⟩:=r';cases e
  |tup j=>let⟨_,_,e,_⟩:=r';cases e
  |_=>exact r'.elim
 |.str i,q,v,r,r'=>by
  let⟨t,rfl⟩:=r;cases q with
  |int j=>let⟨t',e⟩:=r';cases e
  |str j=>let⟨t',e⟩:=r';injection e with e;rw[e]
  |tup j=>let⟨_,_,e,_⟩:=r';cases e
  |_=>exact r'.elim
 |.tup ps,q,v,r,r'=>by
  let⟨a,its,rfl,p,rs⟩:=r;cases q with
  |int j=>let⟨t',e⟩:=r';cases e
  |str j=>let⟨t',e⟩:=r';cases e
  |tup qs=>
   let⟨b,its',e,p',d8⟩:=r';cases e
   have:its=its':=by simpa using congrArg Array.toList (Fh p p')
   subst this;rw[HRs.one rs d8]
  |_=>exact r'.elim
 |.non,_,_,r,_=>r.elim
 |.bl _,_,_,r,_=>r.elim
 |.ref _,_,_,r,_=>r.elim
 |.ty _,_,_,r,_=>r.elim
 |.fl _,_,_,r,_=>r.elim
theorem HRs.one{h:w_}:∀{ps qs:Y6 0}{vs:ZQ 0},HRs h ps vs->HRs h qs vs->ps=qs
 |[],[],[],_,_=>rfl
 |p::ps,q::qs,v::vs,r,r'=>by rw[HR.one r.1 r'.1,HRs.one r.2 r'.2]
 |[],_::_,[],_,r=>r.elim
 |[],_,_::_,r,_=>r.elim
 |_::_,_,[],r,_=>r.elim
 |_::_,[],_::_,_,r=>r.elim
end
def CQ{h:w_}{d:t_}{o:Obj}{es ep}{x:YY 0}(p:IsTup h a x)(ho:h.get? d=a_ o)(hd:o.data=.dict es ep)(hs:WD d h h'):IsTup h' a x:=by
 let⟨q,hq,hc,n,k0⟩:=p;let ne:a≠d:=by rintro rfl;obtain rfl:q=o:=Vv<|hq.symm.trans ho;rw[hd]at k0;cases k0
 show⟨q,(hs.2 a ne).trans hq,hc,n,k0⟩
mutual
theorem HR.keep{h h':w_}(k:∀a x,IsTup h a x->IsTup h' a x):∀{p:PV}{v:s_},HR h p v->HR h' p v
 |.int i,v,r=>r
 |.str i,v,r=>r
 |.tup ps,v,⟨a,its,e,p,rs⟩=>⟨a,its,e,Z6 p,HRs.keep k rs⟩
 |.non,_,r=>r.elim
 |.bl _,_,r=>r.elim
 |.ref _,_,r=>r.elim
 |.ty _,_,r=>r.elim
 |.fl _,_,r=>r.elim
theorem HRs.keep{h h':w_}(k:∀a x,IsTup h a x->IsTup h' a x):∀{ps:Y6 0}{vs:ZQ 0},HRs h ps vs->HRs h' ps vs
 |[],[],_=>trivial
 |_::_,_::_,r=>⟨HR.keep k r.1,HRs.keep k r.2⟩
 |[],_::_,r=>r.elim
 |_::_,[],r=>r.elim
end
def GX:∀(n:Nat){A:v_}{E:f_ 0}{s:td}{p:PV}{v:s_}{Q:j_ Int},p.ky n=true->A.units+n<cLine->HR s.heap p v->Q (hsh w p) { s with toks:=s.toks+drw p}->
  k_ (pyHash v) Q E s:=by
 intro n
 induction n with
 |zero=>
  intro A E s p v Q hk hu r h;cases p with
  |int i=>let⟨t,rfl⟩:=r;show wpAny_pyHash_int h
  |str i=>let⟨t,rfl⟩:=r;show wpAny_pyHash_str h
  |_=>cases hk
 |succ n ih=>
  intro A E s p v Q hk hu r h;cases p with
  |int i=>let⟨t,rfl⟩:=r;show wpAny_pyHash_int h
  |str i=>let⟨t,rfl⟩:=r;show wpAny_pyHash_str h
  |tup ps=>
   let⟨a,its,rfl,⟨o,ho,hc,m,hd⟩,rs⟩:=r;let d9:∀q∈ps,q.ky n=true:=Vy.mp hk;let hT:s.TypeIs (.ref a) "tuple" := ⟨o,ho,hc⟩;unfold pyHash;unfold pyHashByItsType;refine SB (wpAny_cRoomFor_or (.inr<|show A.units<cLine by omega) (SB<|Xn hT F.slot_tuple_hash.lookup ?_))
   change u_ (if((a_ (Value.builtin "tuple.__hash__"):C_ s_) == a_ Vn)=true then _ else _) Q E s
   rw[if_neg (show ¬ _ from by rw[beq_builtin_none];decide)]
   refine SB (Xn hT F.slot_tuple_hash.lookup<|show u_ (callSpecialIfBoundUnlessNone? (.ref a) "__hash__" _ >>= _) Q E s from ?_)
   refine SB (wpAny_callSpecialIfBoundUnlessNone?_slot hT F.slot_tuple_hash<|VD F.slot_tuple_hash hT F.entry_tuple_hash (show u_ (Yu (.ref a) >>= _) _ _ s from ?_) (F.args_tuple_hash_1 _))
   refine SB<|wpAny_tupleItemsOf ho hd<|SB ?_;rw[<-Array.forIn_toList];refine wpAny_forIn_list _ (λrest (b:Array Int) s'=>∃left,HRs s.heap left rest/\(∀q∈left,q.ky n=true)/\b.toList++tK w left=tK w ps/\s'.heap=s.heap/\s'={ s with toks:=s'.toks}/\s'.toks+Bl left=s.toks+Bl ps) _ ?turn ?stop _ _ ⟨ps,rs,d9,rfl,rfl,rfl,rfl⟩
   case turn=>
    rintro x rest b s' ⟨left,rl,kl,eb,eh,es,et⟩;cases left with
    |nil=>exact rl.elim
    |cons q left=>
     let r1:HR s'.heap q x:=by rw[eh];show rl.1
     refine SB (ih (kl q UV) (show A.units+1+n<cLine by omega) r1 (SL ?_));refine⟨left,rl.2,λz hz=>kl z<|U8 _ hz,?_,eh,?_,?_⟩
     ·rw[<-eb];simp[tK]
     ·rw[es]
     ·rw[<-et]
      change s'.toks+drw q+Bl left=s'.toks+(drw q+Bl left)
      omega
   case stop=>
    rintro b s' ⟨left,rl,kl,eb,eh,es,et⟩;cases left with
    |cons q left=>exact rl.elim
    |nil=>
     let TC:b.toList=tK w ps:=by rw[<-eb];simp[tK]
     let T9:s'.toks=s.toks+Bl ps:=et
     change u_ (retInt<|Wb b.toList) _ _ _
     rw[TC,es];refine wpAny_ret_mkInt ?_
     change u_ (if(decide (-(2:Int) ^ 63<=Wb (tK w ps))&&decide (Wb (tK w ps)<2 ^ 63))=true then _ else _) Q E _
     let h':Q (reduceHash<|Wb<|tK w ps) { s with toks:=s.toks+(Bl ps+1)}:=h;unfold reduceHash at h';rw[T9];by_cases hr:(decide (-(2:Int) ^ 63<=Wb (tK w ps))&&decide (Wb (tK w ps)<2 ^ 63))=true
     ·rw[if_pos hr]at h'⊢;show SL (by simpa[Nat.add_assoc] using h')
     ·rw[if_neg hr]at h'⊢;show SB (XT<|SL<|by simpa[Nat.add_assoc] using h')
  |_=>cases hk
def Mx:∀(n:Nat){A:v_}{s:td}{p q:PV}{v u:s_},p.ky n=true->q.ky n=true->A.units+n<cLine->HR s.heap p v->HR s.heap q u->RcAt A s v u (decide (p=q)):=by
 intro n
 induction n with
 |zero=>
  intro A s p q v u hp hq hu r r';cases p with
  |int i=>
   let⟨t,rfl⟩:=r;cases q with
   |int j=>let⟨t',rfl⟩:=r';have:=RcAt.int_int (A:=A) (s:=s) i t j t';rwa[show decide (PV.int i=PV.int j)=(i == j) by simp[Yp]]
   |str j=>let⟨t',rfl⟩:=r';show RcAt.int_str i t j t'
   |_=>cases hq
  |str i=>
   let⟨t,rfl⟩:=r;cases q with
   |int j=>let⟨t',rfl⟩:=r';show RcAt.str_int i t j t'
   |str j=>let⟨t',rfl⟩:=r';have:=RcAt.str_str (A:=A) (s:=s) i t j t';rwa[show decide (PV.str i=PV.str j)=(i == j) by simp[Yp]]
   |_=>cases hq
  |_=>cases hp
 |succ n ih=>
  intro A s p q v u hp hq hu r r';cases p with
  |int i=>
   let⟨t,rfl⟩:=r;cases q with
   |int j=>let⟨t',rfl⟩:=r';have:=RcAt.int_int (A:=A) (s:=s) i t j t';rwa[show decide (PV.int i=PV.int j)=(i == j) by simp[Yp]]
   |str j=>let⟨t',rfl⟩:=r';show RcAt.int_str i t j t'
   |tup js=>let⟨b,its,rfl,p',_⟩:=r';show RcAt.int_tuple i t p' ⋯
   |_=>cases hq
  |str i=>
   let⟨t,rfl⟩:=r;cases q with
   |int j=>let⟨t',rfl⟩:=r';show RcAt.str_int i t j t'
   |str j=>let⟨t',rfl⟩:=r';have:=RcAt.str_str (A:=A) (s:=s) i t j t';rwa[show decide (PV.str i=PV.str j)=(i == j) by simp[Yp]]
   |tup js=>let⟨b,its,rfl,p',_⟩:=r';show RcAt.str_tuple i t p' ⋯
   |_=>cases hq
  |tup ps=>
   let⟨a,its,rfl,ta,rs⟩:=r;cases q with
   |int j=>let⟨t',rfl⟩:=r';show RcAt.tuple_int j t' ta ⋯
   |str j=>let⟨t',rfl⟩:=r';show RcAt.tuple_str j t' ta ⋯
   |tup qs=>
    let⟨b,its',rfl,tb,d8⟩:=r';let kp:∀z∈ps,z.ky n=true:=Vy.mp hp;let kq:∀z∈qs,z.ky n=true:=Vy.mp hq;let l1:=rs.length;let l2:=d8.length;let key:=RcAt.tuples (A:=A) (e:=λj=>match ps[j]?,qs[j]? with|some x,a_ y=>decide (x=y)|_,_=>false) ta tb ⋯ (λj h1 h2=>by
     let ji:j<ps.length:=by simp at h1;omega
     let fj:j<qs.length:=by simp at h2;omega
     let g1:ps[j]?=a_ ps[j]:=by simp[ji]
     let g2:qs[j]?=a_ qs[j]:=by simp[fj]
     let⟨xu,qg,g8⟩:=rs.at g1;let⟨yu,uj,e8⟩:=d8.at g2;let e1:its.toArray[j]=xu:=by simpa using(SC.mp qg).2
     let e2:its'.toArray[j]=yu:=by simpa using(SC.mp uj).2
     rw[e1,e2];simp only[g1,g2];refine eZ (ih (kp _<|V9 ji) (kq _<|V9 fj) (show A.units+1+n<cLine by omega) g8 e8) (λev=>?_) (λf t e=>?_)
     ·subst ev;rw[HR.one g8 e8];show decide_eq_true rfl
     ·subst e;generalize ps[j]=z at g8;cases z with
      |int i=>let⟨_,e⟩:=g8;cases e
      |str i=>let⟨_,e⟩:=g8;cases e
      |tup i=>let⟨_,_,e,_⟩:=g8;cases e
      |_=>exact g8.elim)
    let sz:((Vm<|min its.toArray.size its'.toArray.size).all (λj=>match ps[j]?,qs[j]? with|some x,a_ y=>decide (x=y)|_,_=>false)&&its.toArray.size == its'.toArray.size)=decide (PV.tup ps=PV.tup qs):=by
     let a1:its.toArray.size=ps.length:=by simp;omega
     let a2:its'.toArray.size=qs.length:=by simp;omega
     rw[a1,a2,W4];simp only[VE,Vy,Xh,beq_iff_eq,decide_eq_true_eq,PV.tup.injEq];constructor
     ·rintro⟨hall,hlen⟩;apply YB hlen;intro i hi ak;have:=hall i ⋯;simpa[hi,ak] using this
     ·rintro rfl;refine⟨λx hx=>?_,rfl⟩;have:x<ps.length:=⋯;simp[this]
    rw[<-sz];show key
   |_=>cases hq
  |_=>cases hp
variable{p:PV}
def HR.noflt{h:w_}{v:s_}(r:HR h p v):∀f t,v≠.float f t:=λf t e=>by
 subst e;cases p with
 |int i=>let⟨_,e⟩:=r;cases e
 |str i=>let⟨_,e⟩:=r;cases e
 |tup i=>let⟨_,_,e,_⟩:=r;cases e
 |_=>exact r.elim
def CS{q:PV}{v:s_}(hp:p.ky n=true)(hq:q.ky n=true)(hu:A.units+n<cLine)(r:HR s.heap p v)(r':HR s.heap q u):EqAt A s v u (decide (p=q)):=eZ (Mx n hp hq hu r r') (λev=>by subst ev;rw[HR.one r r'];show decide_eq_true rfl) r.noflt
def Fi:∀(n m:Nat){A:v_}{E:f_ 0}{s:td}{p:PV}{v:s_}{Q:j_ Bool},p.ky n=true->n<=m->HR s.heap p v->Q true s->k_ (eqIsQuiet m v) Q E s:=by
 intro n
 induction n with
 |zero=>
  intro m A E s p v Q hk hm r h;cases p with
  |int i=>let⟨t,rfl⟩:=r;rw[eqIsQuiet_byValue _ rfl];show SL h
  |str i=>let⟨t,rfl⟩:=r;rw[eqIsQuiet_byValue _ rfl];show SL h
  |_=>cases hk
 |succ n ih=>
  intro m A E s p v Q hk hm r h;cases p with
  |int i=>let⟨t,rfl⟩:=r;rw[eqIsQuiet_byValue _ rfl];show SL h
  |str i=>let⟨t,rfl⟩:=r;rw[eqIsQuiet_byValue _ rfl];show SL h
  |tup ps=>
   let⟨a,its,rfl,⟨o,ho,hc,m',hd⟩,rs⟩:=r;let d9:∀q∈ps,q.ky n=true:=Vy.mp hk;let hT:s.TypeIs (.ref a) "tuple" := ⟨o,ho,hc⟩;obtain⟨m,rfl⟩:∃j,m=j+1:=⟨m-1,⋯⟩;unfold eqIsQuiet;refine SB (Xn hT F.slot_tuple_eq.lookup<|show u_ (isInstance (.ref a) (.type "tuple") >>= _) _ _ s from ?_)
   refine SB<|Wn hT isSubtype_tuple_tuple ?_;simp only[Bool.not_true,VV,if_false];refine SB (wpAny_seqItems ho hd<|SB<|show u_ (forIn its.toArray _ _) _ _ s from ?_);rw[<-Array.forIn_toList]
   refine wpAny_forIn_list _ (λrest r s'=>r.1=b_/\s'=s/\∃left,HRs s.heap left rest/\∀q∈left,q.ky n=true) _ ?_ ?_ _ _ ⟨rfl,rfl,ps,rs,d9⟩
   ·rintro v rest r s' ⟨hr,rfl,left,rl,kl⟩;cases left with
    |nil=>exact rl.elim
    |cons q left=>refine SB<|ih m (kl q UV) ⋯ rl.1 ?_;simp only[Bool.not_true,VV,if_false];show SL ⟨rfl,rfl,left,rl.2,λz hz=>kl z (U8 _ hz)⟩
   ·rintro⟨r1,r2⟩ s' ⟨hr,rfl,_⟩;simp only at hr;subst hr;show SL h
  |_=>cases hk
abbrev DW(prog:y_)(w:x_):HeapKind prog w PV where
 is:=λh p a=>p.ky 6=true/\HR h p (.ref a)
 hash:=hsh w
 draws:=drw
 room:=λA=>A.units+6<cLine
 inj:=λx y=>HR.one x.2 y.2
 keeps:=λx ho hd hs=>⟨x.1,HR.keep (λa it p=>CQ p ho hd hs) x.2⟩
 pyHash:=λhu x h=>GX 6 x.1 hu x.2 h
 eqBool:=λhu x y h=>CS x.1 y.1 hu x.2 y.2 _ _ _ _ h
 quiet:=λx h=>Fi 6 8 x.1 ⋯ x.2 h
abbrev dDO(w:x_)(a:t_)(ks:B_ (PV×t_×V)):HO:=.ext λh=>ks.length<=Ve/\(a == Wi)=false/\∃xs:B_ (PV×t_×s_),
 Paired (λ(p:PV×t_×V)(q:PV×t_×s_)=>p.1=q.1/\p.2.1=q.2.1/\RelV p.2.2 q.2.2) ks xs/\
 ∃o es ep,h.get? a=a_ o/\o.ExactDict/\o.data=.dict es ep/\es.toList=xs.map (λx=>(⟨hsh w x.1,.ref x.2.1,x.2.2⟩:Xw))/\(xs.map (·.1)).Nodup
abbrev GY(kd:Nat)(v d:t_):HO:=.ext λh=>match kd with
 |0=>h.IsItemsView v d
 |1=>h.IsValuesView v d
 |_=>∃o,h.get? v=a_ o/\o.cls=.type "dict_keys" /\ o.data=.fields #[.ref d]
inductive MO where
 |lst (xs:B_ PV)
 |dK (kvs:B_ (Key×PV))
 |ins (C:Str) (fs:B_ (Str×PV))
 |dD (kvs:B_ (PV×PV))
 |vw (kd d:Nat)
 |fz (o:MO)
@[reducible]def PH:=B_ MO
@[reducible]def Ev:=B_<|C_ PV
structure PX where
 cls:Str
 fs:B_ (Str×PV)
inductive Rs(α:Type) where
 |ok (a:α) (h:PH)
 |exc (x:PX) (h:PH)
 |bad
inductive Fl where
 |nx (δ:Ev) (h:PH)
 |rt (p:PV) (h:PH)
 |bk (δ:Ev) (h:PH)
 |ct (δ:Ev) (h:PH)
 |exc (x:PX) (h:PH)
 |bad
@[reducible]def Me:=Ev->PH->Rs PV
@[reducible]def Ms:=Ev->PH->Fl
@[reducible]def Fn:=Y6 0->PH->Rs PV
abbrev Rs.bind{α β:Type}(r:Rs α)(f:α->PH->Rs β):Rs β:=match r with
 |.ok a h=>f a h
 |.exc x h=>.exc x h
 |.bad=>.bad
@[simp]theorem Rs.bind_ok{α β:Type}(a:α)(h:PH)(f:α->PH->Rs β):(Rs.ok a h).bind f=f a h:=rfl
@[simp]theorem Rs.bind_exc{α β:Type}(x:PX)(h:PH)(f:α->PH->Rs β):(Rs.exc x h:Rs α).bind f=.exc x h:=rfl
@[simp]theorem Rs.bind_bad{α β:Type}(f:α->PH->Rs β):(Rs.bad:Rs α).bind f=.bad:=rfl
structure MC where
 K:UF
 cl:Str->C_ t_
 bs:B_ Str
 ex:B_ t_->Hp->PX->Prop
 w:x_
abbrev SqF(K:UF)(H:Hp)(a:t_)(xs:B_ V):Prop:=
 (∃o,H a=a_ (.frz o<|.lst xs))\/
  ∃(o:Obj)(its:YY 0)(n:Nat),K.lookup a=a_ o/\o.cls=.type "list" /\ o.dict=b_/\o.data=.seq its n/\its.size<=Ve/\aJ xs its.toList
def SqF.sq{xs:B_ V}(h:SqF K H a xs):ZW a xs:=by
 rcases h with⟨o,h⟩|h
 ·show .inl (.inr ⟨o,h⟩)
 ·show .inr h
abbrev Kp(H H':Hp):Prop:=kF H H'/\∀a o u,H a=a_ (.frz o u)->H' a=a_ (.frz o u)
def Kp.refl(H:Hp):ZA H:=⟨kF.refl H,λ_ _ _ h=>h⟩
def Kp.trans(a:ZA H1)(b:Kp H1 H2):ZA H2:=⟨a.1.trans b.1,λc o u h=>b.2 c o u<|a.2 c o u h⟩
def Kp.same(s:Cv H H'):ZA H':=⟨kF.same s,λ_ _ _ h=>s _ _ h⟩
def Kp.new{o:HO}(h:H a=b_):ZA (R_ a o):=Kp.same<|Cv.upd h
def Kp.upd{p:t_}{o:HO}(h:pT (H p)):ZA (R_ p o):=⟨kF.upd h,λa ob u q=>by
 let ne:a≠p:=by rintro rfl;rw[q]at h;show h
 rw[aH ne];show q⟩
def Kp.lst{H:Hp}{p:t_}{o:HO}{xs:B_ V}(h:H p=a_ (.lst xs)):ZA (L2.upd H p o):=Kp.upd (by rw[h];trivial)
def Kp.dK{H:Hp}{p:t_}{o:HO}{xs:B_ (Key×V)}(h:H p=a_ (.dK xs)):ZA (L2.upd H p o):=Kp.upd (by rw[h];trivial)
def Kp.sq{xs:B_ V}(t:ZA H')(h:ZF a xs):SqT K H' a xs:=t.1.sq h
def Kp.sf{xs:B_ V}(t:ZA H')(h:SqF K H a xs):SqF K H' a xs:=by
 rcases h with⟨o,h⟩|h
 ·show .inl ⟨o,t.2 _ _ _ h⟩
 ·show .inr h
section
variable(C:MC)(φ:B_ t_)(H:Hp)
mutual
def RV:PV->V->Prop
 |.non,v=>v=.non
 |.bl b,v=>v=.bl b
 |.int i,v=>v=.int i
 |.str x,v=>v=.str x
 |.ty n,v=>v=.ty n
 |.tup ps,v=>∃a vs,v=.ref a/\SqT C.K H a vs/\RVs ps vs
 |.ref n,v=>∃a,v=.ref a/\φ[n]?=a_ a
 |.fl ps,v=>∃a vs,v=.ref a/\SqF C.K H a vs/\RVs ps vs
def RVs:Y6 0->B_ V->Prop
 |[],[]=>True
 |p::ps,v::vs=>RV p v/\RVs ps vs
 |[],_::_=>False
 |_::_,[]=>False
end
abbrev RKv{κ:Type}:B_ (κ×PV)->B_ (κ×V)->Prop:=Paired λp q=>p.1=q.1/\D_ p.2 q.2
abbrev RKd:B_ (PV×PV)->B_ (PV×t_×V)->Prop:=Paired λp q=>p.1=q.1/\p.1.ky 6=true/\D_ p.1 (.ref q.2.1)/\D_ p.2 q.2.2
abbrev RO(a:t_):MO->Prop
 |.lst ps=>∃vs,H a=a_ (.lst vs)/\E_ ps vs
 |.dK kvs=>∃ks,H a=a_ (.dK ks)/\Zi kvs ks
 |.ins n fs=>∃c dx ks,C.cl n=a_ c/\H a=a_ (.ins c dx ks)/\Zi fs ks
 |.dD kvs=>∃ks,H a=a_ (dDO C.w a ks)/\q0c 0
 |.vw kd d=>∃b,φ[d]?=a_ b/\H a=a_ (GY kd a b)
 |.fz (.dK kvs)=>∃ob ks,H a=a_ (.frz ob<|.dK ks)/\Zi kvs ks
 |.fz (.dD kvs)=>∃ob ks,H a=a_ (.frz ob<|dDO C.w a ks)/\q0c 0
 |.fz _=>False
structure RH(h:PH):Prop where
 len:φ.length=h.length
 nd:φ.Nodup
 at':∀(n:Nat)(a:t_)(o:MO),φ[n]?=some a->h[n]?=some o->RO C φ H a o
abbrev RE(δ:Ev)(σ:St):Prop:=δ.length=σ.length/\∀(i:Nat)(p:PV),δ[i]?=a_ (a_ p)->∃v,σ[i]?=a_ (a_ v)/\D_ p v
end
def dN{α:Type}{l l':B_ α}(p:l<+:l'){a:α}(h:l[n]?=a_ a):l'[n]?=a_ a:=by let⟨t,rfl⟩:=p;have:=(SC.mp h).1;rw[VT this];show h
abbrev Kq(H H':Hp):Prop:=kF H H'/\∀a o xs,H a=a_ (.frz o<|.lst xs)->H' a=a_ (.frz o<|.lst xs)
def Kp.q(t:ZA H'):Kq H H':=⟨t.1,λa o xs h=>t.2 a o _ h⟩
def Kq.sq{xs:B_ V}(t:Kq H H')(h:ZF a xs):SqT K H' a xs:=t.1.sq h
def Kq.sf{xs:B_ V}(t:Kq H H')(h:SqF K H a xs):SqF K H' a xs:=by
 rcases h with⟨o,h⟩|h
 ·show .inl ⟨o,t.2 _ _ _ h⟩
 ·show .inr h
mutual
theorem RV.monoQ(p:φ<+:φ')(t:Kq H H'):∀{x:PV}{v:V},D_ x v->RV C φ' H' x v
 |.non,_,h=>h
 |.bl _,_,h=>h
 |.int _,_,h=>h
 |.str _,_,h=>h
 |.ty _,_,h=>h
 |.tup _,_,⟨a,vs,e,q,r⟩=>⟨a,vs,e,t.sq q,RVs.monoQ p t r⟩
 |.ref _,_,⟨a,e,q⟩=>⟨a,e,dN p q⟩
 |.fl _,_,⟨a,vs,e,q,r⟩=>⟨a,vs,e,t.sf q,RVs.monoQ p t r⟩
theorem RVs.monoQ(p:φ<+:φ')(t:Kq H H'):∀{xs:Y6 0}{vs:B_ V},ZV 0->RVs C φ' H' xs vs
 |[],[],_=>trivial
 |_::_,_::_,⟨h,r⟩=>⟨RV.monoQ p t h,RVs.monoQ p t r⟩
 |[],_::_,h=>h.elim
 |_::_,[],h=>h.elim
end
variable{C:MC}{φ φ':B_ t_}
def RV.mono(p:φ<+:φ')(t:ZA H'){x:PV}(h:D_ x v):RV C φ' H' x v:=RV.monoQ p t.q h
variable{xs:Y6 0}
def RVs.mono(p:φ<+:φ')(t:ZA H')(h:ZV 0):RVs C φ' H' xs vs:=RVs.monoQ p t.q h
def RVs.length:∀{xs:Y6 0}{vs:B_ V},ZV 0->xs.length=vs.length
 |[],[],_=>rfl
 |_::_,_::_,⟨_,r⟩=>by simp[RVs.length r]
 |[],_::_,h=>h.elim
 |_::_,[],h=>h.elim
def RVs.get:∀{xs:Y6 0}{vs:B_ V}{i:Nat}{v:V},ZV 0->vs[i]?=a_ v->∃x,xs[i]?=a_ x/\D_ x v
 |[],[],_,_,_,e=>by simp at e
 |x::_,w::_,0,v,⟨h,_⟩,e=>by
  have:w=v:=by simpa using e
  subst this;show⟨x,rfl,h⟩
 |_::xs,_::vs,i+1,v,⟨_,r⟩,e=>by
  let⟨x,h1,h2⟩:=RVs.get (xs:=xs) (vs:=vs) (i:=i) (v:=v) r<|l_ e;show⟨x,l_ h1,h2⟩
 |[],_::_,_,_,h,_=>h.elim
 |_::_,[],_,_,h,_=>h.elim
def RVs.at:∀{xs:Y6 0}{vs:B_ V}{i:Nat}{x:PV},ZV 0->xs[i]?=a_ x->∃v,vs[i]?=a_ v/\D_ x v
 |[],[],_,_,_,e=>by simp at e
 |x::_,w::_,0,x',⟨h,_⟩,e=>by
  have:x=x':=by simpa using e
  subst this;show⟨w,rfl,h⟩
 |_::xs,_::vs,i+1,x,⟨_,r⟩,e=>by
  let⟨v,h1,h2⟩:=RVs.at (xs:=xs) (vs:=vs) (i:=i) (x:=x) r<|l_ e;show⟨v,l_ h1,h2⟩
 |[],_::_,_,_,h,_=>h.elim
 |_::_,[],_,_,h,_=>h.elim
def RVs.append:∀{xs ys:Y6 0}{vs us:B_ V},ZV 0->E_ ys us->E_ (xs++ys) (vs++us)
 |[],_,[],_,_,h=>h
 |_::_,_,_::_,_,⟨h,r⟩,h'=>⟨h,RVs.append r h'⟩
 |[],_,_::_,_,h,_=>h.elim
 |_::_,_,[],_,h,_=>h.elim
def RVs.snoc{x:PV}(r:ZV 0)(h:D_ x v):E_ (xs++[x]) (vs++[v]):=r.append ⟨h,trivial⟩
def RVs.drop:∀{xs:Y6 0}{vs:B_ V}(n:Nat),ZV 0->E_ (xs.drop n) (vs.drop n)
 |_,_,0,h=>h
 |[],[],_+1,_=>trivial
 |_::_,_::_,n+1,⟨_,r⟩=>RVs.drop n r
 |[],_::_,_+1,h=>h.elim
 |_::_,[],_+1,h=>h.elim
def RVs.take:∀{xs:Y6 0}{vs:B_ V}(n:Nat),ZV 0->E_ (xs.take n) (vs.take n)
 |[],[],0,_=>trivial
 |_::_,_::_,0,_=>trivial
 |[],[],_+1,_=>trivial
 |_::_,_::_,n+1,⟨h,r⟩=>⟨h,RVs.take n r⟩
 |[],_::_,_,h=>h.elim
 |_::_,[],_,h=>h.elim
def RVs.set{x:PV}(h:D_ x v):∀{xs:Y6 0}{vs:B_ V}(n:Nat),ZV 0->E_ (xs.set n x) (vs.set n v)
 |[],[],_,_=>trivial
 |_::_,_::_,0,⟨_,r⟩=>⟨h,r⟩
 |_::_,_::_,n+1,⟨q,r⟩=>⟨q,RVs.set h n r⟩
 |[],_::_,_,h=>h.elim
 |_::_,[],_,h=>h.elim
def RVs.reverse:∀{xs:Y6 0}{vs:B_ V},ZV 0->E_ xs.reverse vs.reverse
 |[],[],_=>trivial
 |_::_,_::_,⟨h,r⟩=>by simp only[List.reverse_cons];show(RVs.reverse r).append ⟨h,trivial⟩
 |[],_::_,h=>h.elim
 |_::_,[],h=>h.elim
def RKv.monoQ{κ:Type}(p:φ<+:φ')(t:Kq H H'){x:B_ (κ×PV)}{v:B_ (κ×V)}(h:Zi x v):RKv C φ' H' x v:=Paired.mapP h λ_ _ q=>⟨q.1,q.2.monoQ p t⟩
def RKd.monoQ(p:φ<+:φ')(t:Kq H H'){x:B_ (PV×PV)}{v:B_ (PV×t_×V)}(h:RKd C φ H x v):RKd C φ' H' x v:=Paired.mapP h λ_ _ q=>⟨q.1,q.2.1,q.2.2.1.monoQ p t,q.2.2.2.monoQ p t⟩
def RKv.mono{κ:Type}(p:φ<+:φ')(t:ZA H'){x:B_ (κ×PV)}{v:B_ (κ×V)}(h:Zi x v):RKv C φ' H' x v:=Paired.mapP h λ_ _ q=>⟨q.1,q.2.mono p t⟩
def RKd.mono(p:φ<+:φ')(t:ZA H'){x:B_ (PV×PV)}{v:B_ (PV×t_×V)}(h:RKd C φ H x v):RKd C φ' H' x v:=Paired.mapP h λ_ _ q=>⟨q.1,q.2.1,q.2.2.1.mono p t,q.2.2.2.mono p t⟩
variable{δ:Ev}
def RE.mono(p:φ<+:φ')(t:ZA H'){σ:St}(h:Y8 0):RE C φ' H' δ σ:=⟨h.1,λi x e=>let ⟨v,q,r⟩:=h.2 i x e;⟨v,q,r.mono p t⟩⟩
def RE.set{σ:St}{x:PV}(h:Y8 0)(r:D_ x v)(i:Nat):RE C φ H (δ.set i<|a_ x) (σ.set i<|a_ v):=by
 refine⟨by rw[Wz,Wz];show h.1,λj p e=>?_⟩;by_cases hj:i=j
 ·subst hj;by_cases hl:i<δ.length
  ·rw[VZ hl]at e;cases e
   show⟨v,by rw[VZ (by rw[<-h.1];show hl)],r⟩
  ·rw[XC (by rw[Wz];omega)]at e;cases e
 ·rw[VH hj]at e;rw[VH hj];show h.2 j p e
variable{o:MO}
def RO.stayQ(p:φ<+:φ')(t:Kq H H')(e:H' a=H a)(h:RO C φ H a o):RO C φ' H' a o:=by
 cases o with
 |lst ps=>let⟨vs,q,r⟩:=h;show⟨vs,e.trans q,r.monoQ p t⟩
 |dK ps=>let⟨vs,q,r⟩:=h;show⟨vs,e.trans q,r.monoQ p t⟩
 |ins n fs=>let⟨c,dx,ks,hc,q,r⟩:=h;show⟨c,dx,ks,hc,e.trans q,r.monoQ p t⟩
 |dD kvs=>let⟨ks,q,r⟩:=h;show⟨ks,e.trans q,r.monoQ p t⟩
 |vw kd d=>let⟨b,hb,q⟩:=h;show⟨b,dN p hb,e.trans q⟩
 |fz o=>
  cases o with
  |dK kvs=>let⟨ob,ks,q,r⟩:=h;show⟨ob,ks,e.trans q,r.monoQ p t⟩
  |dD kvs=>let⟨ob,ks,q,r⟩:=h;show⟨ob,ks,e.trans q,r.monoQ p t⟩
  |_=>exact h.elim
def RO.stay(p:φ<+:φ')(t:ZA H')(e:H' a=H a)(h:RO C φ H a o):RO C φ' H' a o:=h.stayQ p t.q e
def RO.some(h:RO C φ H a o):∃u,H a=a_ u:=by
 cases o with
 |lst ps=>let⟨vs,q,r⟩:=h;show⟨_,q⟩
 |dK ps=>let⟨vs,q,r⟩:=h;show⟨_,q⟩
 |ins n fs=>let⟨c,dx,ks,hc,q,r⟩:=h;show⟨_,q⟩
 |dD kvs=>let⟨ks,q,r⟩:=h;show⟨_,q⟩
 |vw kd d=>let⟨b,hb,q⟩:=h;show⟨_,q⟩
 |fz o=>
  cases o with
  |dK kvs=>let⟨ob,ks,q,r⟩:=h;show⟨_,q⟩
  |dD kvs=>let⟨ob,ks,q,r⟩:=h;show⟨_,q⟩
  |_=>exact h.elim
variable{h:PH}
def RH.get(r:I_ h)(e:h[n]?=a_ o):∃a,φ[n]?=a_ a/\RO C φ H a o:=by
 let hn:=(SC.mp e).1;have:n<φ.length:=by rw[r.len];show hn
 show⟨φ[n],by simp[this],r.at' n _ o (by simp[this]) e⟩
def RH.tracked(r:I_ h)(e:φ[n]?=a_ a):∃u,H a=a_ u:=by
 let hn:=(SC.mp e).1;have:n<h.length:=by rw[<-r.len];show hn
 show(r.at' n a h[n] e<|by simp[this]).some
def RH.aside(r:I_ h){o:HO}(e:H a=b_):RH C φ (R_ a o) h:=⟨r.len,r.nd,λn b ob h1 h2=>by let q:=r.at' n b ob h1 h2;let⟨u,hu⟩:=q.some;show q.stay (Vb) (Kp.new e)<|aH<|cS hu e⟩
def RH.new(r:I_ h){u:HO}(e:H a=b_)(q:RO C (φ++[a]) (R_ a u) a o):RH C (φ++[a]) (R_ a u) (h++[o]):=by
 refine⟨by simp[r.len],?_,λn b ob h1 h2=>?_⟩
 ·rw[Xk];refine⟨r.nd,by simp,λx hx y hy z=>?_⟩;rw[Vc]at hy;subst hy z;let⟨n,hn⟩:=List.mem_iff_getElem?.mp hx;let⟨u',hu⟩:=r.tracked hn;rw[e]at hu;cases hu
 ·by_cases hn:n<φ.length
  ·rw[VT hn]at h1;rw[VT (by rw[<-r.len];show hn)]at h2;let q':=r.at' n b ob h1 h2;let⟨u',hu⟩:=q'.some;show q'.stay (VA _ _) (Kp.new e)<|aH<|cS hu e
  ·let uv:n=φ.length:=by have:=(SC.mp h1).1;simp at this;omega
   subst uv;rw[Wu<|U6 _,Nat.sub_self]at h1;rw[r.len,Wu<|U6 _,Nat.sub_self]at h2;cases h1
   cases h2
   show q
def RH.write(r:I_ h){u:HO}(e:φ[n]?=a_ a)(t:pT (H a))(q:RO C φ (R_ a u) a o):RH C φ (R_ a u) (ZO o):=by
 refine⟨by rw[Wz];show r.len,r.nd,λm b ob h1 h2=>?_⟩;by_cases hm:n=m
 ·subst hm;rw[e]at h1;cases h1;let hl:n<h.length:=by rw[<-r.len];show(SC.mp e).1
  rw[VZ hl]at h2;cases h2
  show q
 ·rw[VH hm]at h2;let hb:b≠a:=λz=>by subst z;show hm ((List.getElem?_inj (SC.mp e).1 r.nd).mp<|e.trans h1.symm)
  show(r.at' m b ob h1 h2).stay Vb (Kp.upd t) (aH hb)
section
variable(C:MC)(φ:B_ t_)(H:Hp)
abbrev post(r:Rs PV)(Q:VK):Prop:=match r with
 |.ok p h=>∀φ' v H',φ<+:φ'->ZA H'->Zj h->RV C φ' H' p v->Q v H'
 |.exc x h=>∀φ' H',φ<+:φ'->ZA H'->Zj h->C.ex φ' H' x
 |.bad=>False
abbrev bQ(r:ZG 0)(Q:Bool->Hp->Prop):Prop:=match r with
 |.ok b h=>∀φ' H',φ<+:φ'->ZA H'->Zj h->Q b H'
 |.exc x h=>∀φ' H',φ<+:φ'->ZA H'->Zj h->C.ex φ' H' x
 |.bad=>False
abbrev postA(r:Rs (Y6 0))(Q:B_ V->Hp->Prop):Prop:=match r with
 |.ok ps h=>∀φ' vs H',φ<+:φ'->ZA H'->Zj h->RVs C φ' H' ps vs->Q vs H'
 |.exc x h=>∀φ' H',φ<+:φ'->ZA H'->Zj h->C.ex φ' H' x
 |.bad=>False
abbrev bU(r:Fl)(D:Ends):Prop:=match r with
 |.nx δ h=>∀φ' σ H',φ<+:φ'->ZA H'->Zj h->RE C φ' H' δ σ->D.nx σ H'
 |.rt p h=>∀φ' v H',φ<+:φ'->ZA H'->Zj h->RV C φ' H' p v->D.rt v H'
 |.bk δ h=>∀φ' σ H',φ<+:φ'->ZA H'->Zj h->RE C φ' H' δ σ->D.bk σ H'
 |.ct δ h=>∀φ' σ H',φ<+:φ'->ZA H'->Zj h->RE C φ' H' δ σ->D.ct σ H'
 |.exc x h=>∀φ' H',φ<+:φ'->ZA H'->Zj h->C.ex φ' H' x
 |.bad=>False
end
variable{φ1:B_ t_}
def post.weak{r:Rs PV}{Q:VK}(p:φ<+:φ1)(t:ZA H1)(h:P2 r Q):post C φ1 H1 r Q:=by
 cases r with
 |ok a h'=>exact λφ' v H' p' t'=>h φ' v H' (p.trans p') (t.trans t')
 |exc a h'=>exact λφ' H' p' t'=>h φ' H' (p.trans p') (t.trans t')
 |bad=>exact h
def bQ.weak{r:ZG 0}{Q:Bool->Hp->Prop}(p:φ<+:φ1)(t:ZA H1)(h:bQ C φ H r Q):bQ C φ1 H1 r Q:=by
 cases r with
 |ok a h'=>exact λφ' H' p' t'=>h φ' H' (p.trans p') (t.trans t')
 |exc a h'=>exact λφ' H' p' t'=>h φ' H' (p.trans p') (t.trans t')
 |bad=>exact h
def postA.weak{r:Rs (Y6 0)}{Q:B_ V->Hp->Prop}(p:φ<+:φ1)(t:ZA H1)(h:postA C φ H r Q):postA C φ1 H1 r Q:=by
 cases r with
 |ok a h'=>exact λφ' v H' p' t'=>h φ' v H' (p.trans p') (t.trans t')
 |exc a h'=>exact λφ' H' p' t'=>h φ' H' (p.trans p') (t.trans t')
 |bad=>exact h
def bU.weak{r:Fl}{D:Ends}(p:φ<+:φ1)(t:ZA H1)(h:bU C φ H r D):bU C φ1 H1 r D:=by
 cases r with
 |nx a h'=>exact λφ' v H' p' t'=>h φ' v H' (p.trans p') (t.trans t')
 |rt a h'=>exact λφ' v H' p' t'=>h φ' v H' (p.trans p') (t.trans t')
 |bk a h'=>exact λφ' v H' p' t'=>h φ' v H' (p.trans p') (t.trans t')
 |ct a h'=>exact λφ' v H' p' t'=>h φ' v H' (p.trans p') (t.trans t')
 |exc a h'=>exact λφ' H' p' t'=>h φ' H' (p.trans p') (t.trans t')
 |bad=>exact h
def post.imp{r:Rs PV}{Q Q':VK}(h:P2 r Q)(i:∀v H',Q v H'->Q' v H'):P2 r Q':=by
 cases r with
 |ok a h'=>exact λφ' v H' p t rh rv=>i v H' (h φ' v H' p t rh rv)
 |exc a h'=>exact h
 |bad=>exact h
def post.bind{r:Rs PV}{f:PV->PH->Rs PV}{Q:VK}(h:P2 (r.bind f) Q):P2 r λv H1=>∃φ1 p h1,φ<+:φ1/\ZA H1/\Zk 0/\RV C φ1 H1 p v/\post C φ1 H1 (f p h1) Q:=by
 cases r with
 |ok a h'=>exact λφ' v H' p t rh rv=>⟨φ',a,h',p,t,rh,rv,post.weak p t h⟩
 |exc a h'=>exact h
 |bad=>exact h
def post.bindB{r:Rs PV}{f:PV->PH->ZG 0}{Q:Bool->Hp->Prop}(h:bQ C φ H (r.bind f) Q):P2 r λv H1=>∃φ1 p h1,φ<+:φ1/\ZA H1/\Zk 0/\RV C φ1 H1 p v/\bQ C φ1 H1 (f p h1) Q:=by
 cases r with
 |ok a h'=>exact λφ' v H' p t rh rv=>⟨φ',a,h',p,t,rh,rv,bQ.weak p t h⟩
 |exc a h'=>exact h
 |bad=>exact h
def bQ.bind{r:ZG 0}{f:Bool->PH->Rs PV}{Q:VK}(h:P2 (r.bind f) Q):bQ C φ H r λb H1=>∃φ1 h1,φ<+:φ1/\ZA H1/\Zk 0/\post C φ1 H1 (f b h1) Q:=by
 cases r with
 |ok a h'=>exact λφ' H' p t rh=>⟨φ',h',p,t,rh,post.weak p t h⟩
 |exc a h'=>exact h
 |bad=>exact h
def bQ.bindB{r:ZG 0}{f:Bool->PH->ZG 0}{Q:Bool->Hp->Prop}(h:bQ C φ H (r.bind f) Q):bQ C φ H r λb H1=>∃φ1 h1,φ<+:φ1/\ZA H1/\Zk 0/\bQ C φ1 H1 (f b h1) Q:=by
 cases r with
 |ok a h'=>exact λφ' H' p t rh=>⟨φ',h',p,t,rh,bQ.weak p t h⟩
 |exc a h'=>exact h
 |bad=>exact h
def postA.bind{r:Rs (Y6 0)}{f:Y6 0->PH->Rs PV}{Q:VK}(h:P2 (r.bind f) Q):postA C φ H r λvs H1=>∃φ1 ps h1,φ<+:φ1/\ZA H1/\Zk 0/\RVs C φ1 H1 ps vs/\post C φ1 H1 (f ps h1) Q:=by
 cases r with
 |ok a h'=>exact λφ' v H' p t rh rv=>⟨φ',a,h',p,t,rh,rv,post.weak p t h⟩
 |exc a h'=>exact h
 |bad=>exact h
def postA.bindA{r:Rs (Y6 0)}{f:Y6 0->PH->Rs (Y6 0)}{Q:B_ V->Hp->Prop}(h:postA C φ H (r.bind f) Q):postA C φ H r λvs H1=>∃φ1 ps h1,φ<+:φ1/\ZA H1/\Zk 0/\RVs C φ1 H1 ps vs/\postA C φ1 H1 (f ps h1) Q:=by
 cases r with
 |ok a h'=>exact λφ' v H' p t rh rv=>⟨φ',a,h',p,t,rh,rv,postA.weak p t h⟩
 |exc a h'=>exact h
 |bad=>exact h
def post.bindA{r:Rs PV}{f:PV->PH->Rs (Y6 0)}{Q:B_ V->Hp->Prop}(h:postA C φ H (r.bind f) Q):P2 r λv H1=>∃φ1 p h1,φ<+:φ1/\ZA H1/\Zk 0/\RV C φ1 H1 p v/\postA C φ1 H1 (f p h1) Q:=by
 cases r with
 |ok a h'=>exact λφ' v H' p t rh rv=>⟨φ',a,h',p,t,rh,rv,postA.weak p t h⟩
 |exc a h'=>exact h
 |bad=>exact h
def post.val{Q:VK}(q:P2 (.ok p h) Q)(rh:I_ h)(rv:D_ p v):Q v H:=q φ v H Vb (Kp.refl H) rh rv
structure Cxt(C:MC)(k:Nat)(X:Cx):Prop where
 K:X.K=C.K
 calm:X.calm=true
 room:dX k X.A
 bn:∀x∈C.bs,X.mg x=none
 w:X.w=C.w
def Cxt.hu{k:Nat}(c:Y5 X):X.A.units+1<cLine:=Oq c.room
def Cxt.hu64{k:Nat}(c:Y5 X):X.A.units+64<cLine:=c.room.units
def Cxt.comp{k:Nat}(c:Y5 X)(sc:Scope)(N:Zg 0)(a:t_)(fp:B_ t_)(s:td)(H:Hp):Y5 (S1 N a fp s H):=⟨c.K,c.calm,c.room,c.bn,c.w⟩
section
variable(C:MC)
abbrev rd(m:Me):TE:=λσ H Q=>∃φ δ h,I_ h/\Y8 0/\P2 (m δ h) Q
abbrev rdB(m:Ev->PH->ZG 0):TT:=λσ H Q=>∃φ δ h,I_ h/\Y8 0/\bQ C φ H (m δ h) Q
abbrev rdA(m:Ev->PH->Rs (Y6 0)):TA:=λσ H Q=>∃φ δ h,I_ h/\Y8 0/\postA C φ H (m δ h) Q
abbrev rdS(m:Ms):TS:=λD σ H=>∃φ δ h,I_ h/\Y8 0/\bU C φ H (m δ h) D
abbrev r2(g:PV->PV->PH->Rs PV):R2:=λx y H Q=>∃φ h p q,I_ h/\D_ p x/\D_ q y/\P2 (g p q h) Q
abbrev r1(g:PV->PH->Rs PV):V->Hp->VK->Prop:=λx H Q=>∃φ h p,I_ h/\D_ p x/\P2 (g p h) Q
abbrev rL(g:Y6 0->PH->Rs PV):B_ V->Hp->VK->Prop:=λxs H Q=>∃φ h ps,I_ h/\E_ ps xs/\P2 (g ps h) Q
end
variable{C:MC}{k:Nat}{X:Cx}
abbrev SE(C:MC)(k:Nat)(X:Cx)(e:z_)(m:Me):Prop:=Y5 X->Zy e (rd C m)
abbrev ST(C:MC)(k:Nat)(X:Cx)(e:z_)(m:Ev->PH->ZG 0):Prop:=Y5 X->PT X e (rdB C m)
abbrev SA(C:MC)(k:Nat)(X:Cx)(es:B_ z_)(m:Ev->PH->Rs (Y6 0)):Prop:=Y5 X->PA X es (rdA C m)
abbrev SSt(C:MC)(k:Nat)(X:Cx)(st:A_)(m:Ms):Prop:=Y5 X->PS X st (rdS C m)
abbrev SSs(C:MC)(k:Nat)(X:Cx)(st:B_ A_)(m:Ms):Prop:=Y5 X->PSs X st (rdS C m)
abbrev OpS(C:MC)(k:Nat)(X:Cx)(f:s_->s_->Sem s_)(g:PV->PV->PH->Rs PV):Prop:=Y5 X->Y7 f (r2 C g)
abbrev lQ(C:MC)(k:Nat)(X:Cx)(f:s_)(g:Y6 0->PH->Rs PV):Prop:=Y5 X->cO X f (rL C g)
abbrev Ac:Ev->Nat->C_ PV
 |[],_=>b_
 |x::_,0=>x
 |_::r,n+1=>Ac r n
@[simp]theorem Fj(x:C_ PV)(r:Ev):Ac (x::r) 0=x:=(rfl)
@[simp]theorem Fk(x:C_ PV)(r:Ev)(n:Nat):Ac (x::r) (n+1)=Ac r n:=(rfl)
def vB:∀{δ:Ev}{i:Nat}{p:PV},Ac δ i=a_ p->δ[i]?=a_ (a_ p)
 |[],_,_,h=>by cases h
 |x::_,0,p,h=>by let h':x=a_ p:=h;simp[h']
 |_::r,n+1,p,h=>by rw[Wq];show vB (δ:=r) (i:=n) h
abbrev mV(i:Nat):Me:=λδ h=>match Ac δ i with
 |some p=>.ok p h
 |none=>.bad
abbrev mC(p:PV):Me:=λ_ h=>.ok p h
def OH(i:Nat)(hN:X.N[i]?=a_ x:=by rfl)(hv:Vis X.env.scope x:=by first|exact Or.inl rfl|exact Or.inr (Or.inl rfl)|exact Or.inr (Or.inr rfl))(hd:(x == ("__debug__" : Str))=false:=by decide)(ik:(x == ("__classdict__" : Str))=false:=by decide):G_ (.Name x pos) (mV i):=λ_=>by
 refine(G5 hN hv hd ik).imp λσ H Q h=>?_;let⟨φ,δ,h,rh,re,p⟩:=h;unfold mV at p;cases e:Ac δ i with
 |none=>rw[e]at p;show p.elim
 |some x=>rw[e]at p;let⟨v,hv,rv⟩:=re.2 i x<|vB e;show⟨v,hv,p.val rh rv⟩
def OI{i j pos}:G_ (.Constant (.int i) j pos) (mC<|.int i):=λ_=>Lw.imp λσ H Q ⟨φ,δ,h,rh,re,p⟩=>p.val rh rfl
def R1{i j pos}:G_ (.Constant (.bool i) j pos) (mC<|.bl i):=λ_=>O1.imp λσ H Q ⟨φ,δ,h,rh,re,p⟩=>p.val rh rfl
def OJ{j pos}:G_ (.Constant .none j pos) (mC .non):=λ_=>Lx.imp λσ H Q ⟨φ,δ,h,rh,re,p⟩=>p.val rh rfl
def OK{i j pos}:G_ (.Constant (.str i) j pos) (mC<|.str i):=λ_=>Ly.imp λσ H Q ⟨φ,δ,h,rh,re,p⟩=>p.val rh rfl
def My{n:String}(hv:Xt x=a_ (.type n))(hb:x∈C.bs:=by decide)(hg:Gl X x:=by rfl)(hn:x≠"__name__" := by decide)(hd:(x == ("__debug__" : Str))=false:=by decide):G_ (.Name x pos) (mC<|.ty n):=λc=>(J3 (v:=.ty n) hg (c.bn x hb) hv rfl hn hd).imp λσ H Q ⟨φ,δ,h,rh,re,p⟩=>p.val rh rfl
abbrev aB(g:PV->PV->PH->Rs PV)(ma mb:Me):Me:=λδ h=>(ma δ h).bind λx h1=>(mb δ h1).bind λy h2=>g x y h2
variable{ma mb:Me}
def DX{g:PV->PV->PH->Rs PV}{σ:St}{Q:VK}(h:rd C (aB g ma mb) σ H Q):tOp (r2 C g) (rd C ma) (rd C mb) σ H Q:=by let⟨φ,δ,h,rh,re,p⟩:=h;refine⟨φ,δ,h,rh,re,(post.bind p).imp ?_⟩;rintro v H1 ⟨φ1,x,h1,p1,t1,aa,ab,q1⟩;refine⟨φ1,δ,h1,aa,S2 0,(post.bind q1).imp ?_⟩;rintro u H2 ⟨φ2,y,h2,p2,t2,ah,c7,q2⟩;show⟨φ2,h2,x,y,ah,ab.mono p2 t2,c7,q2⟩
variable{op:CmpOp}
section
variable{a b:z_}{g:PV->PV->PH->Rs PV}
def OL{op:Operator}(ho:Y3 (WB op) g)(ha:G_ a ma)(hb:G_ b mb):G_ (.BinOp a op b pos) (aB g ma mb):=λc=>(O9 (ho c) (ha c)<|hb c).imp λσ H Q h=>DX h
def OM(ho:Y3 (VG op) g)(ha:G_ a ma)(hb:G_ b mb)(hm:behindInMarks op b=false:=by first|exact Gd _|rfl):G_ (.Compare a [op] [b] pos) (aB g ma mb):=λc=>(Je (ho c) (ha c) (hb c) hm).imp λσ H Q h=>DX h
abbrev mUn(g:PV->PH->Rs PV)(ma:Me):Me:=λδ h=>(ma δ h).bind g
end
abbrev aM(h:PH)(n:Nat):C_ (Y6 0):=match h[n]? with
 |some (.lst xs)=>a_ xs
 |_=>b_
def bN(rh:I_ h)(e:aM h n=a_ xs):∃a vs,φ[n]?=a_ a/\SqL C.K H a vs/\ZV 0:=by
 unfold aM at e;cases q:h[n]? with
 |none=>rw[q]at e;cases e
 |some o=>
  rw[q]at e;let⟨a,ha,ro⟩:=rh.get q;cases o with
  |lst ys=>cases e;let⟨vs,q',r⟩:=ro;show⟨a,vs,ha,SqL.of q',r⟩
  |_=>cases e
abbrev bV(h:PH)(n:Nat):C_ (Y6 0):=match h[n]? with
 |some (.lst xs)=>a_ xs
 |_=>b_
def fP(e:bV h n=a_ xs):h[n]?=a_ (.lst xs):=by
 unfold bV at e;cases q:h[n]? with
 |none=>rw[q]at e;cases e
 |some o=>
  rw[q]at e;cases o with
  |lst ys=>cases e;rfl
  |_=>cases e
abbrev dI(x:PV)(h:PH):C_ (Y6 0):=match x with
 |.ref n=>aM h n
 |.fl xs=>a_ xs
 |_=>b_
def fQ{x:PV}(rh:I_ h)(rv:D_ x v)(e:dI x h=a_ xs):∃a vs,v=.ref a/\SqL C.K H a vs/\ZV 0:=by
 cases x with
 |ref n=>let⟨a,rfl,ha⟩:=rv;let⟨a2,vs,aj,sa,ra⟩:=bN rh e;rw[ha]at aj;cases aj;show⟨a,vs,rfl,sa,ra⟩
 |fl ys=>
  cases e
  let⟨a,vs,rfl,sa,ra⟩:=rv;show⟨a,vs,rfl,sa.sq,ra⟩
 |_=>cases e
abbrev Lc:Y6 0->Bool
 |[]=>true
 |_::_=>false
abbrev GZ:PV->PV->PH->Rs PV:=λx y h=>match x,y with
 |.int i,.int j=>.ok (.int<|i+j) h
 |.str i,.str j=>if i.length+j.length<=Ve then .ok (.str<|i++j) h else .bad
 |.tup xs,.tup ys=>if Lc xs=false/\xs.length+ys.length<=Ve then .ok (.tup<|xs++ys) h else .bad
 |.ref a,.ref b=>match bV h a,bV h b with
  |some xs,a_ ys=>if xs.length+ys.length<=Ve then .ok (.ref h.length) (h++[.lst<|xs++ys]) else .bad
  |_,_=>.bad
 |_,_=>.bad
def post.ite{c:Prop}[Decidable c]{r:Rs PV}{Q:VK}(h:P2 (if c then r else .bad) Q):c/\P2 r Q:=by
 by_cases hc:c
 ·rw[if_pos hc]at h;show⟨hc,h⟩
 ·rw[if_neg hc]at h;show h.elim
def post.lnew{Q:VK}(q:P2 (.ok (.ref h.length)<|h++[.lst xs]) Q)(rh:I_ h)(r:ZV 0){p:t_}(hp:H p=b_):Q (.ref p) (R_ p<|.lst vs):=q (φ++[p]) (.ref p) _ (VA _ _) (Kp.new hp) (rh.new hp ⟨vs,aK,r.mono (VA _ _)<|Kp.new hp⟩) ⟨p,rfl,by rw[<-rh.len];simp⟩
def post.tnew{Q:VK}(q:P2 (.ok (.tup xs) h) Q)(rh:I_ h)(r:ZV 0){p:t_}(hp:H p=b_):Q (.ref p) (R_ p<|.tup vs):=q φ (.ref p) _ Vb (Kp.new hp) (rh.aside hp) ⟨p,vs,rfl,SqT.of aK,r.mono Vb<|Kp.new hp⟩
def post.lset{ws:B_ V}{Q:VK}(q:P2 (.ok p<|ZO<|.lst xs) Q)(rh:I_ h)(e:φ[n]?=a_ a)(hl:H a=a_ (.lst ws))(r:ZV 0)(rv:D_ p v):Q v (R_ a<|.lst vs):=q φ v _ Vb (Kp.lst hl) (rh.write e (by rw[hl];trivial) ⟨vs,aK,r.mono Vb<|Kp.lst hl⟩)<|rv.mono Vb<|Kp.lst hl
def Ha(r:ZV 0)(h:Lc xs=false):vs≠[]:=by
 cases xs with
 |nil=>cases h
 |cons x xs=>
  cases vs with
  |nil=>exact r.elim
  |cons=>intro z;cases z
def ON:Y3 (WB .Add) GZ:=λc=>(Ju C.K c.K).imp λx y H Q h=>by
 let⟨φ,h,p,q,rh,rx,ry,po⟩:=h;unfold GZ at po;cases p with
 |int i=>
  cases q with
  |int j=>cases rx;cases ry;show P_ rfl
  |_=>exact po.elim
 |str i=>
  cases q with
  |str j=>cases rx;cases ry;show⟨po.ite.1,po.ite.2.val rh rfl⟩
  |_=>exact po.elim
 |tup xs=>
  cases q with
  |tup ys=>let⟨a,vs,rfl,sa,ra⟩:=rx;let⟨b,us,rfl,sb,rb⟩:=ry;let⟨⟨h1,h2⟩,po⟩:=po.ite;refine .inr ⟨a,b,vs,us,rfl,rfl,sa,sb,Ha ra h1,by rw[<-ra.length,<-rb.length];show h2,λz=>?_,λz p hp=>po.tnew rh (ra.append rb) hp⟩;subst z;let e:ys=[]:=Yf rb.length;subst e;show P_ ⟨a,vs,rfl,sa,by rw[Wy];show ra⟩
  |_=>exact po.elim
 |ref n=>
  cases q with
  |ref m=>
   let⟨a,rfl,ha⟩:=rx;let⟨b,rfl,hb⟩:=ry;dsimp only at po;cases e1:bV h n with
   |none=>rw[e1]at po;show po.elim
   |some xs=>
    cases e2:bV h m with
    |none=>rw[e1,e2]at po;show po.elim
    |some ys=>rw[e1,e2]at po;let⟨vs,h1,r1⟩:=YZ<|fP e1;let⟨us,h2,r2⟩:=rh.at' m b _ hb<|fP e2;let⟨hz,po⟩:=po.ite;show .inl ⟨a,b,vs,us,rfl,rfl,h1,h2,by rw[<-r1.length,<-r2.length];show hz,λp hp=>po.lnew rh (r1.append r2) hp⟩
  |_=>exact po.elim
 |_=>exact po.elim
abbrev vInt(P:Int->Int->Prop)[∀i j,Decidable<|P i j](f:Int->Int->Int):PV->PV->PH->Rs PV:=λx y h=>match x,y with
 |.int i,.int j=>if P i j then .ok (.int<|f i j) h else .bad
 |_,_=>.bad
def DY{P:Int->Int->Prop}[∀i j,Decidable<|P i j](ho:Y7 f (yN P g)):Y3 f (vInt P g):=λc=>ho.imp λx y H Q h=>by
 let⟨φ,h,p,q,rh,rx,ry,po⟩:=h;unfold vInt at po;cases p with
 |int i=>
  cases q with
  |int j=>cases rx;cases ry;show⟨po.ite.1,po.ite.2.val rh rfl⟩
  |_=>exact po.elim
 |_=>exact po.elim
noncomputable instance(i j:Int):Decidable (B3 i j):=WM _
noncomputable instance(i j:Int):Decidable (Gc i j):=WM _
noncomputable instance(i j:Int):Decidable (EI i j):=WM _
abbrev nQ:PV->PV->PH->Rs PV:=λx y h=>match x,y with
 |.int i,.int j=>.ok (.int<|i-j) h
 |_,_=>.bad
def OO:Y3 (WB .Sub) nQ:=λc=>Jv.imp λx y H Q h=>by
 let⟨φ,h,p,q,rh,rx,ry,po⟩:=h;unfold nQ at po;cases p with
 |int i=>
  cases q with
  |int j=>cases rx;cases ry;show P_ rfl
  |_=>exact po.elim
 |_=>exact po.elim
noncomputable abbrev Ad:=vInt B3 λi j=>i*j
noncomputable abbrev CT:=vInt Gc λi j=>i/j
@[reducible]def cM:=vInt (λ_ j=>0<j) λi j=>i%j
noncomputable abbrev Bm:=vInt EI λi j=>i ^ j.toNat
def OP:Y3 (WB .Mult) Ad:=DY Jw
def OQ:Y3 (WB .FloorDiv) CT:=DY Jx
def OR:Y3 (WB .Mod) cM:=DY Jy
def OS:Y3 (WB .Pow) Bm:=DY Jz
variable{C:MC}{k:Nat}{X:Cx}
abbrev CU(f:Int->Int->Bool)(g:B_ Nat->B_ Nat->Bool):PV->PV->PH->Rs PV:=λx y h=>match x,y with
 |.int i,.int j=>.ok (.bl<|f i j) h
 |.str i,.str j=>.ok (.bl<|g i.cps.toList j.cps.toList) h
 |_,_=>.bad
def DZ{p:Int->Int->Bool}{g:B_ Nat->B_ Nat->Bool}(ho:Y7 f (yO p g)):Y3 f (CU p g):=λc=>ho.imp λx y H Q h=>by
 let⟨φ,h,p,q,rh,rx,ry,po⟩:=h;unfold CU at po;cases p with
 |int i=>
  cases q with
  |int j=>cases rx;cases ry;show P_ rfl
  |_=>exact po.elim
 |str i=>
  cases q with
  |str j=>cases rx;cases ry;show P_ rfl
  |_=>exact po.elim
 |_=>exact po.elim
@[reducible]def vLt:=CU (λi j=>decide (i<j)) λi j=>decide (i<j)
@[reducible]def vGt:=CU (λi j=>decide (j<i)) λi j=>decide (j<i)
@[reducible]def vLe:=CU (λi j=>decide (i<=j)) λi j=>!decide (j<i)
@[reducible]def vGe:=CU (λi j=>decide (j<=i)) λi j=>!decide (i<j)
def R3:Y3 (VG .Lt) vLt:=DZ Md
def R4:Y3 (VG .Gt) vGt:=DZ Mf
def R5:Y3 (VG .LtE) vLe:=DZ Mh
def R7:Y3 (VG .GtE) vGe:=DZ Mj
mutual
def PV.d:PV->C_ D
 |.non=>a_ .non
 |.bl b=>a_ (.bl b)
 |.int i=>d_ i
 |.str x=>a_ (.str x)
 |.tup xs=>match PV.ds xs with
  |some ds=>a_ (.tup ds)
  |none=>b_
 |.ref _=>b_
 |.ty _=>b_
 |.fl _=>b_
def PV.ds:Y6 0->C_ (B_ D)
 |[]=>a_ []
 |x::xs=>match PV.d x,PV.ds xs with
  |some d,a_ ds=>a_ (d::ds)
  |_,_=>b_
end
mutual
theorem RV.rep:∀{x:PV}{d:D}{v:V},D_ x v->x.d=a_ d->Rep C.K H d v
 |.non,_,_,h,e=>by cases e;show h
 |.bl _,_,_,h,e=>by cases e;show h
 |.int _,_,_,h,e=>by cases e;show h
 |.str _,_,_,h,e=>by cases e;show h
 |.tup xs,d,v,⟨a,vs,e1,q,r⟩,e=>by
  unfold PV.d at e;cases e2:PV.ds xs with
  |none=>rw[e2]at e;cases e
  |some ds=>
   rw[e2]at e;cases e
   show⟨a,vs,e1,q,RVs.reps r e2⟩
 |.ref _,_,_,_,e=>by cases e
 |.ty _,_,_,_,e=>by cases e
 |.fl _,_,_,_,e=>by cases e
theorem RVs.reps:∀{xs:Y6 0}{ds:B_ D}{vs:B_ V},ZV 0->PV.ds xs=a_ ds->dH C.K H ds vs
 |[],_,[],_,e=>by cases e;trivial
 |x::xs,_,v::vs,⟨h,r⟩,e=>by
  unfold PV.ds at e;cases e1:PV.d x with
  |none=>rw[e1]at e;cases e
  |some d=>
   cases e2:PV.ds xs with
   |none=>rw[e1,e2]at e;cases e
   |some ds=>
    rw[e1,e2]at e;cases e
    show⟨RV.rep h e1,RVs.reps r e2⟩
 |[],_,_::_,h,_=>h.elim
 |_::_,_,[],h,_=>h.elim
end
abbrev iH(x y:PV)(h:PH):C_ Bool:=match x.d,y.d with
 |some d,a_ e=>if d.depth<=40 then a_ (eqD d e) else b_
 | _,_=>match dI x h,dI y h with
   |some xs,a_ ys=>match PV.ds xs,PV.ds ys with
    |some ds,a_ es=>if Y0 0<=40 then a_ (gO ds es) else b_
    |_,_=>b_
   |_,_=>b_
abbrev ofB(o:C_ Bool)(h:PH):Rs PV:=match o with
 |some b=>.ok (.bl b) h
 |none=>.bad
abbrev vEq:PV->PV->PH->Rs PV:=λx y h=>ofB (iH x y h) h
set_option tactic.hygienic true in
def oH{q:PV}{x:V}(rh:I_ h)(rx:D_ p x)(ry:D_ q y)(e:iH p q h=a_ b):
  (∃d e,Rep C.K H d x/\Rep C.K H e y/\d.depth<=40/\b=eqD d e)\/(∃ds es,F2 C.K H ds x/\F2 C.K H es y/\Y0 0<=40/\b=gO ds es):=by
 unfold iH at e;split at e
 ·rename_i d e' h1 h2;split at e
  ·rename_i hd;cases e
   show .inl ⟨d,e',rx.rep h1,ry.rep h2,hd,rfl⟩
  ·cases e
 ·split at e
  ·rename_i xs ys h1 h2;split at e
   ·rename_i ds es h3 h4;split at e
    ·rename_i hd;cases e
     let⟨a',vs,rfl,sa,ra⟩:=fQ rh rx h1;let⟨SY,us,rfl,sb,rb⟩:=fQ rh ry h2;show .inr ⟨ds,es,⟨a',vs,rfl,sa,ra.reps h3⟩,⟨SY,us,rfl,sb,rb.reps h4⟩,hd,rfl⟩
    ·cases e
   ·cases e
  ·cases e
def post.ofB{o:C_ Bool}{Q:VK}(q:P2 (ofB o h) Q):∃b,o=a_ b/\P2 (.ok (.bl b) h) Q:=by
 cases o with
 |none=>exact q.elim
 |some b=>exact⟨b,rfl,q⟩
def Mz:Y3 (VG .Eq) vEq:=λc=>((Mp c.hu64 C.K c.K).or<|Mq c.hu64 C.K c.K).imp λx y H Q h=>by
 let⟨φ,h,p,q,rh,rx,ry,po⟩:=h;let⟨b,e,po⟩:=po.ofB;rcases oH rh rx ry e with⟨d,e',h1,h2,h3,rfl⟩|⟨d,e',h1,h2,h3,rfl⟩
 ·show .inl ⟨d,e',h1,h2,h3,P_ rfl⟩
 ·show .inr ⟨d,e',h1,h2,h3,P_ rfl⟩
abbrev oI:PV->C_ Key
 |.int i=>a_ (.inl i)
 |.str x=>a_ (.inr x)
 |_=>b_
abbrev aF{κ:Type}[DecidableEq κ]:B_ (κ×PV)->κ->C_ PV
 |[],_=>b_
 |(a,p)::r,b=>if a=b then a_ p else aF r b
abbrev Ae(h:PH)(n:Nat)(x:PV):C_ (C_ PV):=match h[n]? with
 |some (.dK kvs)=>match oI x with
  |some key=>a_ (Y2 key)
  |none=>b_
 |_=>b_
abbrev Bn(x:PV)(ys:Y6 0):C_ Bool:=match x.d,PV.ds ys with
 |some d,a_ ds=>if Y0 0<=40 then a_ (ds.any λe=>eqD e d) else b_
 |_,_=>b_
abbrev Hb(x y:PV)(h:PH):C_ Bool:=match y with
 |.tup ys=>Bn x ys
 |.ref n=>match aM h n with
  |some ys=>Bn x ys
  |none=>(Ae h n x).map Option.isSome
 |.fl ys=>Bn x ys
 |_=>b_
abbrev vIn:PV->PV->PH->Rs PV:=λx y h=>ofB (Hb x y h) h
abbrev rC:PV->PV->PH->Rs PV:=λx y h=>ofB ((Hb x y h).map not) h
def Af{x:PV}{key:Key}(r:D_ x v)(e:oI x=a_ key):v=kV key:=by cases x <;> first|(cases e;show r)|cases e
def rD{κ:Type}[DecidableEq κ]{kvs:B_ (κ×PV)}{ks:B_ (κ×V)}(r:Zi kvs ks)(a:κ):match Y2 a,jK ks a with
  |some p,a_ v=>D_ p v
  |none,b_=>True
  |_,_=>False:=by
 unfold RKv at r
 induction r with
 |nil=>trivial
 | @cons p q ps qs h t ih=>
  let⟨h1,h2⟩:=h;let⟨pk,pv⟩:=p;by_cases e:pk=a
  ·let e':q.1=a:=h1.symm.trans e;rw[pN e'];unfold aF;rw[Z_ 0];show h2
  ·let e':¬ q.1=a:=λz=>e<|h1.trans z;rw[pO e'];unfold aF;rw[Zs 0];show ih
set_option tactic.hygienic true in
def oJ{x:PV}{o:C_ PV}(rh:I_ h)(ha:φ[n]?=a_ a)(rv:D_ x v)(e:Ae h n x=a_ o):
  ∃o',pP H a v o'/\o.isSome=o'.isSome/\∀p,o=a_ p->∃w,o'=a_ w/\D_ p w:=by
 unfold Ae at e;split at e
 ·rename_i kvs hk;split at e
  ·rename_i key ba;cases e
   let⟨ks,hH,rk⟩:=YZ hk;let q:=rD rk key;rw[Af rv ba];refine⟨jK ks key,pP.k hH,?_,λp hp=>?_⟩
   ·cases e1:Y2 key <;> cases e2:jK ks key <;> rw[e1,e2]at q <;> first|rfl|exact q.elim
   ·rw[hp]at q;cases e2:jK ks key with
    |none=>rw[e2]at q;show q.elim
    |some w=>rw[e2]at q;show⟨w,rfl,q⟩
  ·cases e
 ·cases e
set_option tactic.hygienic true in
def vD{q:PV}{x:V}(rh:I_ h)(rx:D_ p x)(ry:D_ q y)(e:Hb p q h=a_ b):
  (∃d a ds vs,y=.ref a/\(SqL C.K H a vs\/SqT C.K H a vs)/\Rep C.K H d x/\dH C.K H ds vs/\Y0 0<=40/\b=ds.any λe=>eqD e d)\/∃a o,y=.ref a/\pP H a x o/\b=o.isSome:=by
 let go:∀{a:t_}{vs:B_ V}{ys:Y6 0},(SqL C.K H a vs\/SqT C.K H a vs)->E_ ys vs->Bn p ys=a_ b->∃d a' ds vs,V.ref a=.ref a'/\(SqL C.K H a' vs\/SqT C.K H a' vs)/\Rep C.K H d x/\dH C.K H ds vs/\Y0 0<=40/\b=ds.any λe=>eqD e d:=by
  intro a vs ys hs hr he;unfold Bn at he;split at he
  ·rename_i d ds h1 h2;split at he
   ·rename_i hd;cases he
    show⟨d,a,ds,vs,rfl,hs,rx.rep h1,hr.reps h2,hd,rfl⟩
   ·cases he
  ·cases he
 unfold Hb at e;split at e
 ·let⟨a,vs,rfl,sa,ra⟩:=ry;show .inl<|go (.inr sa) ra e
 ·rename_i n;let⟨a,rfl,ha⟩:=ry;split at e
  ·rename_i ys hl;let⟨a2,vs,aj,sa,ra⟩:=bN rh hl;rw[ha]at aj;cases aj;show .inl<|go (.inl sa) ra e
  ·cases e':Ae h n p with
   |none=>rw[e']at e;cases e
   |some o=>
    rw[e']at e;cases e
    let⟨o',g,i,_⟩:=oJ rh ha rx e';show .inr ⟨a,o',rfl,g,i⟩
 ·let⟨a,vs,rfl,sa,ra⟩:=ry;show .inl<|go (.inl sa.sq) ra e
 ·cases e
def R8:Y3 (VG .In) vIn:=λc=>((Mr c.hu64 C.K c.K).or<|Ml c.hu C.K c.K).imp λx y H Q h=>by
 let⟨φ,h,p,q,rh,rx,ry,po⟩:=h;let⟨b,e,po⟩:=po.ofB;rcases vD rh rx ry e with⟨d,a,ds,vs,rfl,h1,h2,h3,h4,rfl⟩|⟨a,o,rfl,g,rfl⟩
 ·show .inl ⟨d,a,ds,vs,rfl,h1,h2,h3,h4,P_ rfl⟩
 ·show .inr (.inr ⟨a,o,rfl,g,P_ rfl⟩)
def JI:Y3 (VG .NotIn) rC:=λc=>((F3 c.hu64 C.K c.K).or<|EZ c.hu C.K c.K).imp λx y H Q h=>by
 let⟨φ,h,p,q,rh,rx,ry,po⟩:=h;let⟨b,e,po⟩:=po.ofB;cases e':Hb p q h with
 |none=>rw[e']at e;cases e
 |some b'=>
  rw[e']at e;cases e
  rcases vD rh rx ry e' with⟨d,a,ds,vs,rfl,h1,h2,h3,h4,rfl⟩|⟨a,o,rfl,g,rfl⟩
  ·show .inl ⟨d,a,ds,vs,rfl,h1,h2,h3,h4,P_ rfl⟩
  ·show .inr (.inr ⟨a,o,rfl,g,P_ rfl⟩)
abbrev rE:PV->Bool
 |.non=>true
 |_=>false
abbrev vIs:PV->PV->PH->Rs PV:=λx y h=>match y with
 |.non=>.ok (.bl<|rE x) h
 |.bl b=>match x with
  |.bl a=>.ok (.bl<|a == b) h
  |_=>.bad
 |_=>.bad
abbrev lV:PV->PV->PH->Rs PV:=λx y h=>match y with
 |.non=>.ok (.bl<|!rE x) h
 |.bl b=>match x with
  |.bl a=>.ok (.bl<|!(a == b)) h
  |_=>.bad
 |_=>.bad
def RV.isNon(r:D_ p v):decide (v=.non)=rE p:=by
 cases p with
 |non=>cases r;rfl
 |tup xs=>let⟨a,vs,rfl,_⟩:=r;rfl
 |ref n=>let⟨a,rfl,_⟩:=r;rfl
 |fl xs=>let⟨a,vs,rfl,_⟩:=r;rfl
 |_=>cases r;rfl
def JJ:Y3 (VG .IsNot) lV:=λc=>(Jd.or (λjn s σ H x y v u Q I rx ry(h:∃a b,x=.bl a/\y=.bl b/\Q (.bl<|!(a == b)) H)=>by let⟨a,b,rfl,rfl,q⟩:=h;cases rx;cases ry;show PyProof.Rows.isnot_bool ⟨.bl _,H,I,rfl,q⟩)).imp λx y H Q h=>by
 let⟨φ,h,p,q,rh,rx,ry,po⟩:=h;unfold lV at po;cases q with
 |non=>
  cases ry
  refine .inl ⟨rfl,?_⟩;rw[rx.isNon];show P_ rfl
 |bl b=>
  cases p with
  |bl a=>cases rx;cases ry;show .inr ⟨a,b,rfl,rfl,P_ rfl⟩
  |_=>exact po.elim
 |_=>exact po.elim
abbrev tru(x:PV)(h:PH):ZG 0:=match x with
 |.non=>.ok false h
 |.bl b=>.ok b h
 |.int i=>.ok (i != 0) h
 |.str y=>if y.length<=Ve then .ok ((y.length:Int) != 0) h else .bad
 |.tup xs=>.ok (!xs.isEmpty) h
 |.ref n=>match aM h n with
  |some xs=>.ok (!xs.isEmpty) h
  |none=>match h[n]? with
   |some (.dK kvs)=>.ok (!kvs.isEmpty) h
   |_=>.bad
 |.fl xs=>.ok (!xs.isEmpty) h
 |.ty _=>.bad
def RVs.isEmpty(r:ZV 0):(!vs.isEmpty)=!xs.isEmpty:=by cases xs <;> cases vs <;> first|rfl|exact r.elim
def bQ.ite{c:Prop}[Decidable c]{r:ZG 0}{Q:Bool->Hp->Prop}(h:bQ C φ H (if c then r else .bad) Q):c/\bQ C φ H r Q:=by
 by_cases hc:c
 ·rw[if_pos hc]at h;show⟨hc,h⟩
 ·rw[if_neg hc]at h;show h.elim
def bQ.val{Q:Bool->Hp->Prop}(q:bQ C φ H (.ok b h) Q)(rh:I_ h):Q b H:=q φ H Vb (Kp.refl H) rh
set_option tactic.hygienic true in
def Fm{Q:Bool->Hp->Prop}(rh:I_ h)(rv:D_ p v)(po:bQ C φ H (tru p h) Q):∃b,Ce C.K v H b/\Q b H:=by
 unfold tru at po;cases p with
 |non=>cases rv;show⟨_,rfl,po.val rh⟩
 |bl b=>cases rv;show⟨_,rfl,po.val rh⟩
 |int i=>cases rv;show⟨_,rfl,po.val rh⟩
 |str y=>cases rv;show⟨_,⟨po.ite.1,rfl⟩,po.ite.2.val rh⟩
 |tup xs=>let⟨a,vs,rfl,sa,ra⟩:=rv;show⟨_,.inr<|.inl ⟨vs,sa,rfl⟩,by rw[ra.isEmpty];show po.val rh⟩
 |ref n=>
  let⟨a,rfl,ha⟩:=rv;dsimp only at po;cases e:aM h n with
  |some xs=>rw[e]at po;let⟨a2,vs,aj,sa,ra⟩:=bN rh e;rw[ha]at aj;cases aj;show⟨_,.inl ⟨vs,sa,rfl⟩,by rw[ra.isEmpty];show po.val rh⟩
  |none=>
   rw[e]at po;dsimp only at po;split at po
   ·rename_i kvs hk;let⟨ks,hH,rk⟩:=YZ hk;refine⟨_,.inr<|.inr ⟨ks,hH,rfl⟩,?_⟩;have:(!ks.isEmpty)=!kvs.isEmpty:=by cases rk <;> rfl
    rw[this];show po.val rh
   ·show po.elim
 |fl xs=>let⟨a,vs,rfl,sa,ra⟩:=rv;show⟨_,.inl ⟨vs,sa.sq,rfl⟩,by rw[ra.isEmpty];show po.val rh⟩
 |ty n=>exact po.elim
variable{C:MC}{k:Nat}{X:Cx}
abbrev aT(m:Me):Ev->PH->ZG 0:=λδ h=>(m δ h).bind tru
variable{m:Me}
def CV{σ:St}{Q:Bool->Hp->Prop}(h:rdB C (aT m) σ H Q):rd C m σ H λv H1=>∃b,Ce C.K v H1 b/\Q b H1:=by let⟨φ,δ,h,rh,re,p⟩:=h;refine⟨φ,δ,h,rh,re,(post.bindB p).imp ?_⟩;rintro v H1 ⟨φ1,x,h1,p1,t1,aa,ab,q1⟩;show Fm aa ab q1
variable{mc:Me}{c':z_}{m4:CmpOp}
section
variable{a b:z_}{g g':PV->PV->PH->Rs PV}{ta tb:Ev->PH->ZG 0}
def OT(h:G_ e m)(he:∀whole,isTrue e X.env whole=(do let v <-whole;standAt e.pos;holding [v] (truthy v)):=by intro _;rfl):ST C k X e (aT m):=λc=>
 (Gh (h c) he).imp λσ H Q q=>by rw[c.K];exact CV q
def OU(ho:Y3 (VG op) g)(ha:G_ a ma)(hb:G_ b mb)(hm:behindInMarks op b=false:=by first|exact Gd _|rfl):ST C k X (.Compare a [op] [b] pos) (aT<|aB g ma mb):=λc=>by
 intro jn s σ H Q I h;let h:=DX<|CV h;refine wpAny_isTrue_Compare1 (thn (ha c jn s σ H _ I h) λv s1 ⟨x,H1,I1,r1,q1⟩=>thn (hb c jn s1 σ H1 _ I1 q1) λu s2 ⟨y,H2,I2,r2,q2⟩=>thn (ho c jn s2 σ H2 x y v u _ I2 r1 r2 q2) λw s3 ⟨z,H3,I3,r3,q3⟩=>?_) hm;rw[<-c.K]at q3;show Gg jn s3 σ H3 z w Q I3 r3 q3
abbrev Hc(z:PV)(h:PH):Rs PV:=match z with
 |.bl b=>.ok (.bl b) h
 |_=>.bad
abbrev Fo(g g':PV->PV->PH->Rs PV)(ma mb mc:Me):Me:=λδ h=>(ma δ h).bind λx h1=>(mb δ h1).bind λy h2=>(g x y h2).bind λz h3=>match z with
 |.bl true=>(mc δ h3).bind λw h4=>(g' y w h4).bind Hc
 |.bl false=>.ok (.bl false) h3
 |_=>.bad
def MA{σ:St}{Q:VK}(h:rd C (Fo g g' ma mb mc) σ H Q):Ge (r2 C g) (r2 C g') (rd C ma) (rd C mb) (rd C mc) σ H λv H1=>∃b,v=.bl b/\Q v H1:=by
 let⟨φ,δ,h,rh,re,p⟩:=h;refine⟨φ,δ,h,rh,re,(post.bind p).imp ?_⟩;rintro v H1 ⟨φ1,x,h1,p1,t1,aa,ab,q1⟩;refine⟨φ1,δ,h1,aa,S2 0,(post.bind q1).imp ?_⟩;rintro u H2 ⟨φ2,y,h2,p2,t2,ah,c7,q2⟩;refine⟨φ2,h2,x,y,ah,ab.mono p2 t2,c7,(post.bind q2).imp ?_⟩;rintro w H3 ⟨φ3,z,h3,p3,t3,ay,rv3,q3⟩;cases z with
 |bl b=>
  cases rv3
  refine⟨b,rfl,?_⟩;cases b with
  |false=>exact A2 ⟨false,rfl,q3.val ay rfl⟩
  |true=>
   refine A3 ⟨φ3,δ,h3,ay,re.mono ((p1.trans p2).trans p3)<|(t1.trans t2).trans t3,(post.bind q3).imp ?_⟩;rintro w4 H4 ⟨φ4,z4,h4,p4,t4,rh4,rv4,q4⟩;refine⟨φ4,h4,y,z4,rh4,c7.mono (p3.trans p4)<|t3.trans t4,rv4,(post.bind q4).imp ?_⟩;rintro w5 H5 ⟨φ5,z5,h5,p5,t5,rh5,rv5,q5⟩;cases z5 with
   |bl b=>cases rv5;show⟨b,rfl,q5.val rh5 rfl⟩
   |_=>exact q5.elim
 |_=>exact q3.elim
def OV(ho:Y3 (VG op) g)(cy:Y3 (VG m4) g')(ha:G_ a ma)(hb:G_ b mb)(hc:G_ c' mc)(hm:lastMarks [op,m4] [b,c']=false:=by with_unfolding_all rfl):
  ST C k X (.Compare a [op,m4] [b,c'] pos) (aT<|Fo g g' ma mb mc):=λc=>by
 intro jn s σ H Q I h;let h':=MA<|CV h;refine WE (Gf (ho c) (cy c) (ha c) (hb c) (hc c) hm jn s σ H (λb H1=>∃b',Ce C.K (.bl b) H1 b'/\Q b' H1) I ?_) (λb s1 ⟨H1,I1,b',(e:b'=b),q⟩=>⟨H1,I1,by rw[<-e];show q⟩) λ_ _ z=>z;let⟨φ,δ,hh,rh,re,p⟩:=h';refine⟨φ,δ,hh,rh,re,p.imp ?_⟩;rintro v H1 ⟨φ1,δ1,h1,aa,ou,p1⟩;refine⟨φ1,δ1,h1,aa,ou,p1.imp ?_⟩;rintro u H2 ⟨φ2,h2,x,y,ah,rx,ry,p2⟩;refine⟨φ2,h2,x,y,ah,rx,ry,p2.imp ?_⟩;rintro w H3 ⟨b,e,p3⟩;refine⟨b,e,?_⟩;cases b with
 |false=>
  have:∃b,V.bl false=V.bl b/\∃b_1,Ce C.K (V.bl false) H3 b_1/\Q b_1 H3:=by simpa using p3
  let⟨b,e1,q⟩:=this;show A2 ⟨false,rfl,q⟩
 |true=>
  let p3:rd C mc σ H3 λw' H4=>r2 C g' u w' H4 λv H1=>∃b,v=V.bl b/\∃b_1,Ce C.K v H1 b_1/\Q b_1 H1:=by simpa using p3
  let⟨φ3,δ3,h3,ay,j3,p3⟩:=p3;refine A3 ⟨φ3,δ3,h3,ay,j3,p3.imp ?_⟩;rintro w4 H4 ⟨φ4,h4,x4,y4,rh4,rx4,ry4,p4⟩;refine⟨φ4,h4,x4,y4,rh4,rx4,ry4,p4.imp ?_⟩;rintro w5 H5 ⟨b,rfl,q⟩;show⟨b,rfl,q⟩
abbrev vE(t:Ev->PH->ZG 0):Ev->PH->ZG 0:=λδ h=>(t δ h).bind λb h1=>.ok (!b) h1
abbrev sO(ta tb:Ev->PH->ZG 0):Ev->PH->ZG 0:=λδ h=>(ta δ h).bind λb h1=>match b with
 |true=>tb δ h1
 |false=>.ok false h1
abbrev Fp(ta tb:Ev->PH->ZG 0):Ev->PH->ZG 0:=λδ h=>(ta δ h).bind λb h1=>match b with
 |true=>.ok true h1
 |false=>tb δ h1
def bQ.imp{r:ZG 0}{Q Q':Bool->Hp->Prop}(h:bQ C φ H r Q)(i:∀v H',Q v H'->Q' v H'):bQ C φ H r Q':=by
 cases r with
 |ok a h'=>exact λφ' H' p t rh=>i a H' (h φ' H' p t rh)
 |exc a h'=>exact h
 |bad=>exact h
def OW(h:ST C k X e ta):ST C k X (.UnaryOp .Not e pos) (vE ta):=λc=>(LB<|h c).imp λσ H Q q=>by let⟨φ,δ,h,rh,re,p⟩:=q;refine⟨φ,δ,h,rh,re,(bQ.bindB p).imp ?_⟩;rintro b H1 ⟨φ1,h1,p1,t1,aa,q1⟩;show q1.val aa
abbrev SW(C:MC)(k:Nat)(X:Cx)(e:z_)(m:Ev->PH->ZG 0):Prop:=Y5 X->PW X e (rdB C m)
def SW.t(h:SW C k X e ta):ST C k X e ta:=λc=>(h c).pt
def PW.imp{t t':TT}(h:PW X e t)(i:∀σ H Q,t' σ H Q->t σ H Q):PW X e t':=λw jn s σ H Q I q=>h w jn s σ H Q I<|i σ H Q q
def MB(ha:ST C k X a ta):SW C k X (.BoolOp .And [a] pos) ta:=λc=>J4<|ha c
def OX(ha:ST C k X a ta):SW C k X (.BoolOp .Or [a] pos) ta:=λc=>Lz<|ha c
def w_and{rest:B_ z_}(ha:ST C k X a ta)(hb:SW C k X (.BoolOp .And (b::rest) pos) tb):SW C k X (.BoolOp .And (a::b::rest) pos) (sO ta tb):=λc=>PW.imp (LA (ha c)<|hb c) λσ H Q q=>by
 let⟨φ,δ,h,rh,re,p⟩:=q;refine⟨φ,δ,h,rh,re,(bQ.bindB p).imp ?_⟩;rintro b H1 ⟨φ1,h1,p1,t1,aa,q1⟩;cases b with
 |true=>exact A3 ⟨φ1,δ,h1,aa,S2 0,q1⟩
 |false=>exact A2<|q1.val aa
def w_or{rest:B_ z_}(ha:ST C k X a ta)(hb:SW C k X (.BoolOp .Or (b::rest) pos) tb):SW C k X (.BoolOp .Or (a::b::rest) pos) (Fp ta tb):=λc=>PW.imp (O2 (ha c)<|hb c) λσ H Q q=>by
 let⟨φ,δ,h,rh,re,p⟩:=q;refine⟨φ,δ,h,rh,re,(bQ.bindB p).imp ?_⟩;rintro b H1 ⟨φ1,h1,p1,t1,aa,q1⟩;cases b with
 |true=>exact A3<|q1.val aa
 |false=>exact A2 ⟨φ1,δ,h1,aa,S2 0,q1⟩
abbrev yY(ma mb:Me):Me:=λδ h=>(ma δ h).bind λx h1=>match x with
 |.bl true=>mb δ h1
 |.bl false=>.ok (.bl false) h1
 |_=>.bad
def OY{op}(h:G_ a ma):G_ (.BoolOp op [a] pos) ma:=λc=>LC<|h c
def OZ{rest:B_ z_}(ha:G_ a ma)(hb:G_ (.BoolOp .And (b::rest) pos) mb):G_ (.BoolOp .And (a::b::rest) pos) (yY ma mb):=λc=>(JA (ha c)<|hb c).imp λσ H Q q=>by
 let⟨φ,δ,h,rh,re,p⟩:=q;refine⟨φ,δ,h,rh,re,(post.bind p).imp ?_⟩;rintro v H1 ⟨φ1,x,h1,p1,t1,aa,rv,q1⟩;cases x with
 |bl b=>
  cases rv
  cases b with
  |true=>exact A3 ⟨φ1,δ,h1,aa,S2 0,q1⟩
  |false=>exact A2<|q1.val aa rfl
 |_=>exact q1.elim
abbrev mIf(t:Ev->PH->ZG 0)(ma mb:Me):Me:=λδ h=>(t δ h).bind λb h1=>match b with
 |true=>ma δ h1
 |false=>mb δ h1
def JK(ht:ST C k X c' ta)(ha:G_ a ma)(hb:G_ b mb):G_ (.IfExp c' a b pos) (mIf ta ma mb):=λc=>(G7 (ht c) (ha c)<|hb c).imp λσ H Q q=>by
 let⟨φ,δ,h,rh,re,p⟩:=q;refine⟨φ,δ,h,rh,re,(bQ.bind p).imp ?_⟩;rintro b H1 ⟨φ1,h1,p1,t1,aa,q1⟩;cases b with
 |true=>exact A3 ⟨φ1,δ,h1,aa,S2 0,q1⟩
 |false=>exact A2 ⟨φ1,δ,h1,aa,S2 0,q1⟩
end
def RVs.atI{i:Int}{x:PV}(r:ZV 0)(e:L2.atI xs i=a_ x):∃v,L2.atI vs i=a_ v/\D_ x v:=by
 unfold L2.atI at e⊢;rw[<-r.length];cases q:ixN xs.length i with
 |none=>rw[q]at e;cases e
 |some j=>rw[q]at e;show r.at e
abbrev ofO(o:C_ PV)(h:PH):Rs PV:=match o with
 |some p=>.ok p h
 |none=>.bad
abbrev vIx:PV->PV->PH->Rs PV:=λx y h=>match x with
 |.str z=>(match y with
  |.int i=>if z.length<=Ve then ofO ((atI z.cps.toList i).map λc=>.str ⟨#[c]⟩) h else .bad
  |_=>.bad)
 |.tup xs=>(match y with
  |.int i=>ofO (atI xs i) h
  |_=>.bad)
 |.fl xs=>(match y with
  |.int i=>ofO (atI xs i) h
  |_=>.bad)
 |.ref n=>(match aM h n with
  |some xs=>(match y with
   |.int i=>ofO (atI xs i) h
   |_=>.bad)
  |none=>(match Ae h n y with
   |some o=>ofO o h
   |none=>.bad))
 |_=>.bad
def post.ofO{o:C_ PV}{Q:VK}(q:P2 (ofO o h) Q):∃p,o=a_ p/\P2 (.ok p h) Q:=by
 cases o with
 |none=>exact q.elim
 |some b=>exact⟨b,rfl,q⟩
def P0{x:V}{Q:VK}(h:r2 C vIx x y H Q):Oy C.K x y H Q:=by
 let⟨φ,h,p,q,rh,rx,ry,po⟩:=h;unfold vIx at po;cases p with
 |str z=>
  cases rx
  cases q with
  |int i=>
   cases ry
   let⟨hz,po⟩:=po.ite;let⟨p,e,po⟩:=po.ofO;cases e':atI z.cps.toList i with
   |none=>rw[e']at e;cases e
   |some c=>rw[e']at e;cases e;show⟨hz,c,e',P_ rfl⟩
  |_=>exact po.elim
 |tup xs=>
  let⟨a,vs,rfl,sa,ra⟩:=rx;cases q with
  |int i=>
   cases ry
   let⟨p,e,po⟩:=po.ofO;let⟨v,hv,rv⟩:=ra.atI e;show .inl ⟨vs,i,v,rfl,.inr sa,hv,P_ rv⟩
  |_=>exact po.elim
 |fl xs=>
  let⟨a,vs,rfl,sa,ra⟩:=rx;cases q with
  |int i=>
   cases ry
   let⟨p,e,po⟩:=po.ofO;let⟨v,hv,rv⟩:=ra.atI e;show .inl ⟨vs,i,v,rfl,.inl sa.sq,hv,P_ rv⟩
  |_=>exact po.elim
 |ref n=>
  let⟨a,rfl,ha⟩:=rx;dsimp only at po;cases e:aM h n with
  |some xs=>
   rw[e]at po;let⟨a2,vs,aj,sa,ra⟩:=bN rh e;rw[ha]at aj;cases aj;cases q with
   |int i=>
    cases ry
    let⟨p,e,po⟩:=po.ofO;let⟨v,hv,rv⟩:=ra.atI e;show .inl ⟨vs,i,v,rfl,.inl sa,hv,P_ rv⟩
   |_=>exact po.elim
  |none=>
   rw[e]at po;dsimp only at po;cases e':Ae h n q with
   |none=>rw[e']at po;show po.elim
   |some o=>rw[e']at po;let⟨p,eo,po⟩:=po.ofO;let⟨o',g,_,hp⟩:=oJ rh ha ry e';let⟨w,rfl,cx⟩:=hp p eo;show .inr ⟨w,g,P_ cx⟩
 |_=>exact po.elim
variable{hi lo:Z7 0}{vl vu:s_}
def nR{t sl:t_}(ht:q0j t items)(hs:s.heap.IsSliceOf sl vl vu .none)(pl:IsPart vl lo)(pu:IsPart vu hi)(hw:HT.sIx items.size 0 lo=0/\HT.sIx items.size items.size hi=items.size)(h:Q (.ref t) s):k_ (getItem (.ref t)<|.ref sl) Q E s:=by
 let⟨os,ju,qi,oq⟩:=id hs;let ya:s.TypeIs (.ref sl) "slice" := ⟨os,ju,qi⟩;unfold getItem
 try with_reducible refine VO ?_
 first|refine SB (SL ?_)|skip
 refine SB (wpAny_sequenceKey ht.typeIs nofun ?_);refine SB (VC (name:=Vg "__getitem__") ht.typeIs V0
  (VD V0 ht.typeIs entry_tuple_getitem ?_ (args_tuple_getitem _ _)))
 change u_ (Yu (.ref t) >>= _) _ _ s
 refine SB<|tupleItemsOf_ ht ?_;refine SB<|Xv ya ?_;rw[if_pos nofun];refine SB<|HT.sliceApplied_gen hs pl pu ?_;let yz:((((HT.sIx items.size 0 lo:Nat):Int) == 0&&(1:Int) == 1&&(HT.sIx items.size items.size hi-HT.sIx items.size 0 lo) == items.size)=true):=by rw[hw.1,hw.2];simp
 change u_ (if(((HT.sIx items.size 0 lo:Nat):Int) == 0&&(1:Int) == 1&&(HT.sIx items.size items.size hi-HT.sIx items.size 0 lo) == items.size)=true then _ else _) _ _ s
 rw[if_pos yz];refine SB ?_;unfold Builtin.Tuple.tupleIsExact;refine SB<|Xv ht.typeIs<|SL ?_;rw[if_pos nofun];refine SB<|XT ?_;show SL ⟨_,rfl,SL h⟩
variable{C:MC}{k:Nat}{X:Cx}
abbrev eE{α:Type}(xs:B_ α)(lo hi:Z7 0):B_ α:=(xs.drop<|YV 0 lo).take<|YV xs.length hi-YV 0 lo
def RVs.cut(r:ZV 0)(lo hi:Z7 0):E_ (eE xs lo hi) (B7 vs lo hi):=by unfold eE B7;rw[<-r.length];show(r.drop _).take _
abbrev vSl:PV->Z7 0->Z7 0->PH->Rs PV:=λx lo hi h=>match x with
 |.str z=>if z.length<=Ve then .ok (.str<|WI z lo hi) h else .bad
 |.tup xs=>.ok (.tup<|eE xs lo hi) h
 |.ref n=>match aM h n with
  |some xs=>.ok (.ref h.length) (h++[.lst<|eE xs lo hi])
  |none=>.bad
 |.fl xs=>.ok (.ref h.length) (h++[.lst<|eE xs lo hi])
 |_=>.bad
abbrev P3(K:UF):V->Z7 0->Z7 0->Hp->VK->Prop:=λx lo hi H Q=>∃a xs,x=.ref a/\ZF a xs/\(YV 0 lo=0/\YV xs.length hi=xs.length)/\Q (.ref a) H
def Hd:SlR X (P3 X.K):=by
 intro jn s σ H x v vl vu lo hi sl Q I rx hs pl pu h;let⟨a,xs,rfl,hx,hw,q⟩:=h;cases rx
 let⟨its,r,ht,hz⟩:=I.tuple hx;let hlen:its.toArray.size=xs.length:=by rw[Va];show r.length.symm
 refine⟨"tuple",_,V0.lookup,ht.typeIs,?_⟩;show nR ht hs pl pu (by rw[hlen];show hw) ⟨.ref a,H,I,rfl,q⟩
variable{r r':V->Z7 0->Z7 0->Hp->VK->Prop}
def SlR.imp(h:SlR X r)(i:∀x lo hi H Q,r' x lo hi H Q->r x lo hi H Q):SlR X r':=λjn s σ H x v vl vu lo hi sl Q I rx hs pl pu q=>Zh x v vl vu lo hi sl Q I rx hs pl pu<|i x lo hi H Q q
abbrev r3(C:MC)(g:PV->Z7 0->Z7 0->PH->Rs PV):V->Z7 0->Z7 0->Hp->VK->Prop:=λx lo hi H Q=>∃φ h p,I_ h/\D_ p x/\P2 (g p lo hi h) Q
def MD(hK:X.K=C.K):SlR X (r3 C vSl):=by
 let e:SlR X (λx lo hi H Q=>Ov x lo hi H Q\/Oh C.K x lo hi H Q\/Ol C.K x lo hi H Q\/P3 C.K x lo hi H Q):=by rw[<-hK];show Mc.or<|LZ.or<|Jo.or Hd
 refine e.imp λx lo hi H Q h=>?_;let⟨φ,h,p,rh,rv,po⟩:=h;unfold vSl at po;cases p with
 |str z=>cases rv;show .inl ⟨z,rfl,po.ite.1,po.ite.2.val rh rfl⟩
 |tup xs=>
  let⟨a,vs,rfl,sa,ra⟩:=rv;by_cases hw:HT.sIx vs.length 0 lo=0/\HT.sIx vs.length vs.length hi=vs.length
  ·refine .inr (.inr<|.inr ⟨a,vs,rfl,sa,hw,P_ ⟨a,vs,rfl,sa,?_⟩⟩);let e:eE xs lo hi=xs:=by unfold eE;rw[ra.length,hw.1,hw.2,List.drop_zero,Nat.sub_zero,<-ra.length,Xs]
   rw[e];show ra
  ·show .inr (.inl ⟨a,vs,rfl,sa,hw,λp hp=>po.tnew rh (ra.cut lo hi) hp⟩)
 |ref n=>
  let⟨a,rfl,ha⟩:=rv;dsimp only at po;cases e:aM h n with
  |none=>rw[e]at po;show po.elim
  |some xs=>rw[e]at po;let⟨a2,vs,aj,sa,ra⟩:=bN rh e;rw[ha]at aj;cases aj;show .inr<|.inr<|.inl ⟨a,vs,rfl,sa,λp hp=>po.lnew rh (ra.cut lo hi) hp⟩
 |fl xs=>let⟨a,vs,rfl,sa,ra⟩:=rv;show .inr<|.inr<|.inl ⟨a,vs,rfl,sa.sq,λp hp=>po.lnew rh (ra.cut lo hi) hp⟩
 |_=>exact po.elim
@[reducible]def Mo:=Ev->PH->Rs (Z7 0)
abbrev sP(C:MC)(φ:B_ t_)(H:Hp)(r:Rs (Z7 0))(Q:Z7 0->Hp->Prop):Prop:=match r with
 |.ok b h=>∀φ' H',φ<+:φ'->ZA H'->Zj h->Q b H'
 |.exc x h=>∀φ' H',φ<+:φ'->ZA H'->Zj h->C.ex φ' H' x
 |.bad=>False
abbrev rdO(C:MC)(m:Mo):TO:=λσ H Q=>∃φ δ h,I_ h/\Y8 0/\sP C φ H (m δ h) Q
abbrev SO(C:MC)(k:Nat)(X:Cx)(e:C_ z_)(m:Mo):Prop:=Y5 X->PO X e (rdO C m)
abbrev jO:Mo:=λ_ h=>.ok b_ h
abbrev mP(m:Me):Mo:=λδ h=>(m δ h).bind λx h1=>match x with
 |.int i=>.ok (a_ i) h1
 |_=>.bad
def ME:SO C k X b_ jO:=λc jn s σ H Q I h=>by let⟨φ,δ,h,rh,re,p⟩:=h;show Jl jn s σ H Q I<|p φ H Vb (Kp.refl H) rh
def MF(h:G_ e m):SO C k X (a_ e) (mP m):=λc jn s σ H Q I q=>by
 refine GD (h c) jn s σ H Q I ?_;let⟨φ,δ,h,rh,re,p⟩:=q;refine⟨φ,δ,h,rh,re,?_⟩;unfold mP at p;cases e':m δ h with
 |ok x h1=>
  rw[e']at p;intro φ' v H' p' t' bp az;cases x with
  |int i=>cases az;show p φ' H' p' t' bp
  |_=>exact p.elim
 |exc x h1=>rw[e']at p;show p
 |bad=>rw[e']at p;show p
abbrev mSl(me:Me)(ml mh:Mo):Me:=λδ h=>(me δ h).bind λx h1=>(ml δ h1).bind λl h2=>(mh δ h2).bind λu h3=>vSl x l u h3
def sP.bind{r:Rs (Z7 0)}{f:Z7 0->PH->Rs PV}{Q:VK}(h:P2 (r.bind f) Q):sP C φ H r λb H1=>∃φ1 h1,φ<+:φ1/\ZA H1/\Zk 0/\post C φ1 H1 (f b h1) Q:=by
 cases r with
 |ok a h'=>exact λφ' H' p t rh=>⟨φ',h',p,t,rh,post.weak p t h⟩
 |exc a h'=>exact h
 |bad=>exact h
variable{Q':Z7 0->Hp->Prop}
def sP.imp{r:Rs (Z7 0)}{Q:Z7 0->Hp->Prop}(h:sP C φ H r Q)(i:∀v H',Q v H'->Q' v H'):sP C φ H r Q':=by
 cases r with
 |ok a h'=>exact λφ' H' p t rh=>i a H' (h φ' H' p t rh)
 |exc a h'=>exact h
 |bad=>exact h
variable{me:Me}{mh ml:Mo}{p2:Pos}
def R9{lo hi:C_ z_}(he:G_ e me)(hl:SO C k X lo ml)(hh:SO C k X hi mh):G_ (.Subscript e (.Slice lo hi b_ p2) pos) (mSl me ml mh):=λc=>(Gr (MD c.K) (he c) (hl c)<|hh c).imp λσ H Q h=>by let⟨φ,δ,h,rh,re,p⟩:=h;refine⟨φ,δ,h,rh,re,(post.bind p).imp ?_⟩;rintro v H1 ⟨φ1,x,h1,p1,t1,aa,ab,q1⟩;refine⟨φ1,δ,h1,aa,S2 0,(sP.bind q1).imp ?_⟩;rintro l H2 ⟨φ2,h2,p2,t2,ah,q2⟩;refine⟨φ2,δ,h2,ah,re.mono (p1.trans p2)<|t1.trans t2,(sP.bind q2).imp ?_⟩;rintro u H3 ⟨φ3,h3,p3,t3,ay,q3⟩;show⟨φ3,h3,x,ay,ab.mono (p2.trans p3)<|t2.trans t3,q3⟩
@[reducible]def Ma:=Ev->PH->Rs (Y6 0)
abbrev aC:Ma:=λ_ h=>.ok [] h
abbrev aA(m:Me)(ms:Ma):Ma:=λδ h=>(m δ h).bind λx h1=>(ms δ h1).bind λxs h2=>.ok (x::xs) h2
def PA.imp{t t':TA}(h:PA X es t)(i:∀σ H Q,t' σ H Q->t σ H Q):PA X es t':=λpos jn s σ H Q I q=>h pos jn s σ H Q I<|i σ H Q q
def P4:SA C k X [] aC:=λc=>qT.imp λσ H Q h=>by let⟨φ,δ,h,rh,re,p⟩:=h;show p φ [] H Vb (Kp.refl H) rh trivial
def postA.imp{r:Rs (Y6 0)}{Q Q':B_ V->Hp->Prop}(h:postA C φ H r Q)(i:∀v H',Q v H'->Q' v H'):postA C φ H r Q':=by
 cases r with
 |ok a h'=>exact λφ' v H' p t rh rv=>i v H' (h φ' v H' p t rh rv)
 |exc a h'=>exact h
 |bad=>exact h
variable{ms:Ma}
def MG(he:G_ e m)(hs:SA C k X es ms)(hh:Vl (e::es) X.env=(false,U_ 0)::W_ 0:=by rfl):SA C k X (e::es) (aA m ms):=λc=>(nA (he c) (hs c) hh).imp λσ H Q h=>by let⟨φ,δ,h,rh,re,p⟩:=h;refine⟨φ,δ,h,rh,re,(post.bindA p).imp ?_⟩;rintro v H1 ⟨φ1,x,h1,p1,t1,aa,ab,q1⟩;refine⟨φ1,δ,h1,aa,S2 0,(postA.bindA q1).imp ?_⟩;rintro vs H2 ⟨φ2,xs,h2,p2,t2,ah,c7,q2⟩;show q2 φ2 (v::vs) H2 Vb (Kp.refl H2) ah ⟨ab.mono p2 t2,c7⟩
abbrev aO(ms:Ma):Me:=λδ h=>(ms δ h).bind λxs h1=>if xs.length<=Ve then .ok (.tup xs) h1 else .bad
abbrev gW(ms:Ma):Me:=λδ h=>(ms δ h).bind λxs h1=>if xs.length<=Ve then .ok (.ref h1.length) (h1++[.lst xs]) else .bad
def P5{x1}(hs:SA C k X es ms):G_ (.Tuple es x1 pos) (aO ms):=λc=>(LW<|hs c).imp λσ H Q h=>by let⟨φ,δ,h,rh,re,p⟩:=h;refine⟨φ,δ,h,rh,re,(postA.bind p).imp ?_⟩;rintro vs H1 ⟨φ1,xs,h1,p1,t1,aa,ab,q1⟩;show⟨by rw[<-ab.length];show q1.ite.1,λp hp=>q1.ite.2.tnew aa ab hp⟩
def P6(hs:SA C k X es ms):G_ (.List es pos) (gW ms):=λc=>(LX<|hs c).imp λσ H Q h=>by let⟨φ,δ,h,rh,re,p⟩:=h;refine⟨φ,δ,h,rh,re,(postA.bind p).imp ?_⟩;rintro vs H1 ⟨φ1,xs,h1,p1,t1,aa,ab,q1⟩;show⟨by rw[<-ab.length];show q1.ite.1,λp hp=>q1.ite.2.lnew aa ab hp⟩
abbrev jC:Me:=λ_ h=>.ok (.ref h.length)<|h++[.dK []]
def JL:G_ (.Dict [] [] pos) jC:=λc=>Gy.imp λσ H Q h=>by let⟨φ,δ,h,rh,re,p⟩:=h;intro a ha;show p (φ++[a]) (.ref a) _ (VA _ _) (Kp.new ha) (rh.new ha ⟨[],aK,.nil⟩) ⟨a,rfl,by rw[<-rh.len];simp⟩
abbrev mCB(g:Y6 0->PH->Rs PV)(ms:Ma):Me:=λδ h=>(ms δ h).bind g
def Ld{g:Y6 0->PH->Rs PV}{σ:St}{Q:VK}(h:rd C (mCB g ms) σ H Q):tCB (rL C g) (rdA C ms) σ H Q:=by let⟨φ,δ,h,rh,re,p⟩:=h;refine⟨φ,δ,h,rh,re,(postA.bind p).imp ?_⟩;rintro vs H1 ⟨φ1,xs,h1,p1,t1,aa,ab,q1⟩;show⟨φ1,h1,xs,aa,ab,q1⟩
def nE{p:Pos}{id:String}{g:Y6 0->PH->Rs PV}(hc:lQ C k X (.builtin id) g)(hv:Xt x=a_ (.builtin id))(ha:SA C k X (e::es) ms)(hb:x∈C.bs:=by decide)(hg:Gl X x:=by rfl)(hn:x≠"__name__" := by decide)(cf:(x == ("__debug__" : Str))=false:=by decide)(he:Vl (e::es) X.env=(false,U_ 0)::W_ 0:=by rfl)(a7:(Y1<|W_ 0).any (·.1)=false:=by rfl):G_ (.Call (.Name x p) (e::es) [] pos) (mCB g ms):=λc=>(B6 (hc c) hg (c.bn x hb) hv (ha c) hn cf he a7).imp λσ H Q h=>Ld h
variable{T:String}
def vF{p:Pos}{g:Y6 0->PH->Rs PV}(hc:lQ C k X (.type T) g)(hv:Xt x=a_ (.type T))(ha:SA C k X (e::es) ms)(hb:x∈C.bs:=by decide)(hg:Gl X x:=by rfl)(hn:x≠"__name__" := by decide)(cf:(x == ("__debug__" : Str))=false:=by decide)(he:Vl (e::es) X.env=(false,U_ 0)::W_ 0:=by rfl)(a7:(Y1<|W_ 0).any (·.1)=false:=by rfl):G_ (.Call (.Name x p) (e::es) [] pos) (mCB g ms):=λc=>(yF (hc c) hg (c.bn x hb) hv (ha c) hn cf he a7).imp λσ H Q h=>Ld h
abbrev spM(C:MC)(n:Nat)(f:Fn):Sp:=λvs H Q _=>∃φ h ps,I_ h/\E_ ps vs/\ps.length=n/\P2 (f ps h) Q
abbrev bO(n:Nat)(f:Fn)(ms:Ma):Me:=λδ h=>(ms δ h).bind λps h1=>if ps.length=n then f ps h1 else .bad
def s_call{p:Pos}{f:Fn}(D:Def C.K X.mg x st a fd ps)(G:M_ a fd ps (spM C n f))(ha:SA C k X (e::es) ms)(hj:j<=k:=by decide)(hg:Gl X x:=by rfl)(cf:(x == ("__debug__" : Str))=false:=by decide)(he:Vl (e::es) X.env=(false,U_ 0)::W_ 0:=by rfl)(a7:(Y1<|W_ 0).any (·.1)=false:=by rfl):
  G_ (.Call (.Name x p) (e::es) [] pos) (bO n f ms):=λc=>by
 let e1:=c.K;let D':Def X.K X.mg x st a fd ps:=by rw[e1];show D
 let G':L_ CX0 j a fd ps (spM C n f):=by rw[e1];show G
 refine(OE D' G' (c.room.mono hj) (ha c) hg cf he a7).imp λσ H Q h=>?_;let⟨φ,δ,h,rh,re,p⟩:=h;refine⟨φ,δ,h,rh,re,(postA.bind p).imp ?_⟩;rintro vs H1 ⟨φ1,xs,h1,p1,t1,aa,ab,q1⟩;refine⟨φ1,h1,xs,aa,by rw[Wy];show ab,q1.ite.1,q1.ite.2⟩
abbrev lW:Y6 0->PH->Rs PV:=λxs h=>match xs with
 |[.str y]=>if y.length<=Ve then .ok (.int y.length) h else .bad
 |[.tup ys]=>.ok (.int ys.length) h
 |[.fl ys]=>.ok (.int ys.length) h
 |[.ref n]=>match aM h n with
  |some ys=>.ok (.int ys.length) h
  |none=>match h[n]? with
   |some (.dK kvs)=>.ok (.int kvs.length) h
   |_=>.bad
 |_=>.bad
def RVs.one{x:PV}(r:E_ [x] vs):∃v,vs=[v]/\D_ x v:=by
 match vs,r with
 |[v],⟨h,_⟩=>exact⟨v,rfl,h⟩
 |[],h=>exact h.elim
 |_::_::_,⟨_,h⟩=>exact h.elim
def RVs.two{x y:PV}(r:E_ [x,y] vs):∃v w,vs=[v,w]/\D_ x v/\D_ y w:=by
 match vs,r with
 |[v,w],⟨h,h',_⟩=>exact⟨v,w,rfl,h,h'⟩
 |[],h=>exact h.elim
 |[_],⟨_,h⟩=>exact h.elim
 |_::_::_::_,⟨_,_,h⟩=>exact h.elim
set_option tactic.hygienic true in
def P7:lQ C k X (.builtin "len") lW:=λc=>(F0 C.K c.K).imp λvs H Q h=>by
 let⟨φ,h,ps,rh,rv,po⟩:=h;unfold lW at po;split at po
 ·let⟨v,rfl,rx⟩:=rv.one;cases rx
  show⟨po.ite.1,po.ite.2.val rh rfl⟩
 ·let⟨v,rfl,rx⟩:=rv.one;let⟨a,vs,rfl,sa,ra⟩:=rx;show .inl ⟨vs,.inr sa,by rw[<-ra.length];show P_ rfl⟩
 ·let⟨v,rfl,rx⟩:=rv.one;let⟨a,vs,rfl,sa,ra⟩:=rx;show .inl ⟨vs,.inl sa.sq,by rw[<-ra.length];show P_ rfl⟩
 ·rename_i n;let⟨v,rfl,rx⟩:=rv.one;let⟨a,rfl,ha⟩:=rx;split at po
  ·rename_i ys e;let⟨a2,vs,aj,sa,ra⟩:=bN rh e;rw[ha]at aj;cases aj;show .inl ⟨vs,.inl sa,by rw[<-ra.length];show P_ rfl⟩
  ·split at po
   ·rename_i kvs hk;let⟨ks,hH,rk⟩:=YZ hk;refine .inr ⟨ks,hH,?_⟩;have:ks.length=kvs.length:=(VX rk).symm;rw[this];show P_ rfl
   ·show po.elim
 ·show po.elim
abbrev oK:Y6 0->PH->Rs PV:=λxs h=>match xs with
 |[.tup ys]=>.ok (.tup ys) h
 |[.fl ys]=>.ok (.tup ys) h
 |[.ref n]=>match aM h n with
  |some ys=>.ok (.tup ys) h
  |none=>.bad
 |_=>.bad
set_option tactic.hygienic true in
def JM:lQ C k X (.type "tuple") oK:=λc=>(Ba C.K c.K).imp λvs H Q h=>by
 let⟨φ,h,ps,rh,rv,po⟩:=h;unfold oK at po;split at po
 ·let⟨v,rfl,rx⟩:=rv.one;let⟨a,vs,rfl,sa,ra⟩:=rx;show⟨a,vs,rfl,.inr ⟨sa,P_ ⟨a,vs,rfl,sa,ra⟩⟩⟩
 ·let⟨v,rfl,rx⟩:=rv.one;let⟨a,vs,rfl,sa,ra⟩:=rx;show⟨a,vs,rfl,.inl ⟨sa.sq,λp hp=>po.tnew rh ra hp⟩⟩
 ·rename_i n;let⟨v,rfl,rx⟩:=rv.one;let⟨a,rfl,ha⟩:=rx;split at po
  ·rename_i ys e;let⟨a2,vs,aj,sa,ra⟩:=bN rh e;rw[ha]at aj;cases aj;show⟨a,vs,rfl,.inl ⟨sa,λp hp=>po.tnew rh ra hp⟩⟩
  ·show po.elim
 ·show po.elim
abbrev jP:Y6 0->PH->Rs PV:=λxs h=>match xs with
 |[.tup ys]=>.ok (.ref h.length) (h++[.lst ys])
 |[.fl ys]=>.ok (.ref h.length) (h++[.lst ys])
 |[.ref n]=>match aM h n with
  |some ys=>.ok (.ref h.length) (h++[.lst ys])
  |none=>.bad
 |_=>.bad
set_option tactic.hygienic true in
def MH:lQ C k X (.type "list") jP:=λc=>(Cz C.K c.K).imp λvs H Q h=>by
 let⟨φ,h,ps,rh,rv,po⟩:=h;unfold jP at po;split at po
 ·let⟨v,rfl,rx⟩:=rv.one;let⟨a,vs,rfl,sa,ra⟩:=rx;show⟨a,vs,rfl,.inr sa,λp hp=>po.lnew rh ra hp⟩
 ·let⟨v,rfl,rx⟩:=rv.one;let⟨a,vs,rfl,sa,ra⟩:=rx;show⟨a,vs,rfl,.inl sa.sq,λp hp=>po.lnew rh ra hp⟩
 ·rename_i n;let⟨v,rfl,rx⟩:=rv.one;let⟨a,rfl,ha⟩:=rx;split at po
  ·rename_i ys e;let⟨a2,vs,aj,sa,ra⟩:=bN rh e;rw[ha]at aj;cases aj;show⟨a,vs,rfl,.inl sa,λp hp=>po.lnew rh ra hp⟩
  ·show po.elim
 ·show po.elim
abbrev Bo:Y6 0->PH->Rs PV:=λxs h=>match xs with
 |[.int i,.int j]=>.ok (.int<|if j>i then j else i) h
 |_=>.bad
def P8:lQ C k X (.builtin "max") Bo:=λc=>(F1 c.calm).imp λvs H Q h=>by
 let⟨φ,h,ps,rh,rv,po⟩:=h;unfold Bo at po;split at po
 ·let⟨v,w,rfl,rx,ry⟩:=rv.two;cases rx;cases ry;show P_ rfl
 ·show po.elim
variable{C:MC}{k:Nat}{X:Cx}
abbrev Rs.fl{α:Type}(r:Rs α)(f:α->PH->Fl):Fl:=match r with
 |.ok a h=>f a h
 |.exc x h=>.exc x h
 |.bad=>.bad
@[simp]theorem Rs.fl_ok{α:Type}(a:α)(h:PH)(f:α->PH->Fl):(Rs.ok a h).fl f=f a h:=(rfl)
def post.fl{r:Rs PV}{f:PV->PH->Fl}{D:Ends}(h:bU C φ H (r.fl f) D):P2 r λv H1=>∃φ1 p h1,φ<+:φ1/\ZA H1/\Zk 0/\RV C φ1 H1 p v/\bU C φ1 H1 (f p h1) D:=by
 cases r with
 |ok a h'=>exact λφ' v H' p t rh rv=>⟨φ',a,h',p,t,rh,rv,bU.weak p t h⟩
 |exc a h'=>exact h
 |bad=>exact h
def bQ.fl{r:ZG 0}{f:Bool->PH->Fl}{D:Ends}(h:bU C φ H (r.fl f) D):bQ C φ H r λb H1=>∃φ1 h1,φ<+:φ1/\ZA H1/\Zk 0/\bU C φ1 H1 (f b h1) D:=by
 cases r with
 |ok a h'=>exact λφ' H' p t rh=>⟨φ',h',p,t,rh,bU.weak p t h⟩
 |exc a h'=>exact h
 |bad=>exact h
def bU.nx{D:Ends}{σ:St}(q:bU C φ H (.nx δ h) D)(rh:I_ h)(re:Y8 0):D.nx σ H:=q φ σ H Vb (Kp.refl H) rh re
def bU.rt{D:Ends}(q:bU C φ H (.rt p h) D)(rh:I_ h)(rv:D_ p v):D.rt v H:=q φ v H Vb (Kp.refl H) rh rv
@[reducible]def Mg:=PV->Ev->C_ Ev
@[reducible]def Mgs:=Y6 0->Ev->C_ Ev
abbrev rdG(C:MC)(t:Mg):TG:=λv σ H Q=>∃φ δ h p δ',I_ h/\Y8 0/\D_ p v/\t p δ=a_ δ'/\∀σ',RE C φ H δ' σ'->Q σ' H
abbrev R'(C:MC)(t:Mgs):TGs:=λvs σ H Q=>∃φ δ h ps δ',I_ h/\Y8 0/\E_ ps vs/\t ps δ=a_ δ'/\∀σ',RE C φ H δ' σ'->Q σ' H
abbrev SG(C:MC)(k:Nat)(X:Cx)(e:z_)(t:Mg):Prop:=Y5 X->PG X e (rdG C t)
abbrev SGs(C:MC)(k:Nat)(X:Cx)(es:B_ z_)(t:Mgs):Prop:=Y5 X->PGs X es (R' C t)
abbrev gN(i:Nat):Mg:=λp δ=>a_<|δ.set i<|a_ p
abbrev gNl:Mgs:=λps δ=>match ps with
 |[]=>a_ δ
 |_::_=>b_
abbrev gCn(t:Mg)(u:Mgs):Mgs:=λps δ=>match ps with
 |p::r=>(t p δ).bind (u r)
 |[]=>b_
abbrev gTp(n:Nat)(u:Mgs):Mg:=λp δ=>match p with
 |.tup ps=>if ps.length=n then u ps δ else b_
 |_=>b_
def PG.imp{t t':TG}(h:PG X e t)(i:∀v σ H Q,t' v σ H Q->t v σ H Q):PG X e t':=λjn s σ H v u Q I r q=>Zh v u Q I r<|i v σ H Q q
def PGs.imp{t t':TGs}(h:PGs X es t)(i:∀v σ H Q,t' v σ H Q->t v σ H Q):PGs X es t':=λjn s σ H v u Q I r q=>Zh v u Q I r<|i v σ H Q q
def MI(hN:X.N.Nodup)(hi:X.N[i]?=a_ x:=by rfl)(hx:Loc X.env.scope x:=by first|exact Or.inl rfl|exact Or.inr rfl)(hf:X.fn x=true\/V_ 0=a_ .local:=by first|exact .inl rfl|exact .inr rfl):SG C k X (.Name x pos) (gN i):=λc=>
 (J8 hN hi hx hf).imp λv σ H Q h=>by
  let⟨φ,δ,h,p,δ',rh,re,rv,e,q⟩:=h;cases e
  show q _<|re.set rv i
def P9:SGs C k X [] gNl:=λc=>J9.imp λv σ H Q h=>by
 let⟨φ,δ,h,ps,δ',rh,re,rv,e,q⟩:=h;cases ps with
 |nil=>
  cases e
  cases v with
  |nil=>exact⟨rfl,q σ re⟩
  |cons=>exact rv.elim
 |cons=>cases e
def MJ{t:Mg}{u:Mgs}(h1:SG C k X e t)(h2:SGs C k X es u)(hs:(Xr (e::es) X.env).map (·.2)=assign e X.env::(Xr es X.env).map (·.2):=by rfl):SGs C k X (e::es) (gCn t u):=λc=>
 (Ga (h1 c) (h2 c) hs).imp λvs σ H Q h=>by
  let⟨φ,δ,h,ps,δ',rh,re,rv,e,q⟩:=h;cases ps with
  |nil=>cases e
  |cons p r=>
   cases vs with
   |nil=>exact rv.elim
   |cons v vs=>
    let⟨δ1,e1,e2⟩:=Option.bind_eq_some_iff.mp (show(t p δ).bind (u r)=a_ δ' from e)
    show⟨v,vs,rfl,φ,δ,h,p,δ1,rh,re,rv.1,e1,λσ' vx=>⟨φ,δ1,h,r,δ',rh,vx,rv.2,e2,q⟩⟩
def P'{u:Mgs}(h:SGs C k X es u)(hn:(Xr es X.env).length=n:=by rfl)(cg:(Xr es X.env).findIdx? (·.1)=b_:=by rfl):SG C k X (.Tuple es j pos) (gTp n u):=λc=>
 (gT C.K c.K c.calm (h c) hn cg).imp λv σ H Q h=>by
  let⟨φ,δ,h,p,δ',rh,re,rv,e,q⟩:=h;cases p with
  |tup ps=>
   let⟨a,vs,rfl,sa,ra⟩:=rv;by_cases hl:ps.length=n
   ·let e':u ps δ=a_ δ':=by have:(if ps.length=n then u ps δ else b_)=a_ δ':=e;rw[if_pos hl]at this;show this
    show⟨a,vs,rfl,sa,by rw[<-ra.length];show hl,φ,δ,h,ps,δ',rh,re,ra,e',q⟩
   ·have:(if ps.length=n then u ps δ else b_)=a_ δ':=e;rw[if_neg hl]at this;cases this
  |_=>cases e
def PS.imp{t t':TS}(h:PS X st t)(i:∀D σ H,t' D σ H->t D σ H):PS X st t':=λjn s σ H D I q=>Zh D I<|i D σ H q
def PSs.imp{st:B_ A_}{t t':TS}(h:PSs X st t)(i:∀D σ H,t' D σ H->t D σ H):PSs X st t':=λjn s σ H D I q=>Zh D I<|i D σ H q
abbrev aG(a b:Ms):Ms:=λδ h=>match a δ h with
 |.nx δ1 h1=>b δ1 h1
 |r=>r
abbrev cG:Ms:=λδ h=>.nx δ h
abbrev JN:Ms:=λδ h=>.ct δ h
abbrev aP(i:Nat)(m:Me):Ms:=λδ h=>(m δ h).fl λp h1=>.nx (δ.set i<|a_ p) h1
abbrev rF(m:Me)(t:Mg):Ms:=λδ h=>(m δ h).fl λp h1=>match t p δ with
 |some δ'=>.nx δ' h1
 |none=>.bad
abbrev lI(m:Me):Ms:=λδ h=>(m δ h).fl λ_ h1=>.nx δ h1
abbrev aV(m:Me):Ms:=λδ h=>(m δ h).fl λp h1=>.rt p h1
abbrev cA(t:Ev->PH->ZG 0)(a b:Ms):Ms:=λδ h=>(t δ h).fl λc h1=>match c with
 |true=>a δ h1
 |false=>b δ h1
def MK:SSs C k X [] cG:=λc=>J5.imp λD σ H h=>by let⟨φ,δ,h,rh,re,p⟩:=h;show p.nx rh re
def ML{r:Fl}{b:Ms}{D:Ends}(h:bU C φ H (match r with|.nx δ1 h1=>b δ1 h1|r=>r) D):bU C φ H r { D with nx:=rdS C b D}:=by
 cases r with
 |nx δ h'=>exact λφ' σ H' p t rh re=>⟨φ',δ,h',rh,re,bU.weak p t h⟩
 |rt p h'=>exact h
 |bk δ h'=>exact h
 |ct δ h'=>exact h
 |exc x h'=>exact h
 |bad=>exact h
def JO{rest:B_ A_}{a:Ms}{b:Ms}(h1:ZL st a)(h2:SSs C k X rest b):SSs C k X (st::rest) (aG a b):=λc=>(G8 (h1 c)<|h2 c).imp λD σ H h=>by let⟨φ,δ,h,rh,re,p⟩:=h;show⟨φ,δ,h,rh,re,ML p⟩
def MM{a:Ms}(h1:ZL st a):SSs C k X [st] a:=λc=>J6<|h1 c
def Pa:ZL (.Continue pos) JN:=λc=>AZ.imp λD σ H h=>by let⟨φ,δ,h,rh,re,p⟩:=h;show p φ σ H Vb (Kp.refl H) rh re
def Pb(hN:X.N.Nodup)(he:G_ e m)(hi:X.N[i]?=a_ x:=by rfl)(hx:Loc X.env.scope x:=by first|exact Or.inl rfl|exact Or.inr rfl)(hs:YI e (a_<|.Name x pos') pos.line X.env=pure false:=by rfl)(hf:X.fn x=true\/V_ 0=a_ .local:=by first|exact .inl rfl|exact .inr rfl):ZL (.Assign [.Name x pos'] e pos) (aP i m):=λc=>(LI hN hi hx (he c) hs hf).imp λD σ H h=>by let⟨φ,δ,h,rh,re,p⟩:=h;refine⟨φ,δ,h,rh,re,(post.fl p).imp ?_⟩;rintro v H1 ⟨φ1,x,h1,p1,t1,aa,ab,q1⟩;show q1.nx aa<|(S2 0).set ab i
def Pc{t:Mg}(he:G_ e m)(hg:SG C k X tg t)(hs:swapsWithSole [tg] e pos.line X.env=pure false:=by rfl)(hw:swappedStores [tg] e X.env=pure b_:=by rfl)(h1:(Xr [tg] X.env).map (·.2)=[assign tg X.env]:=by rfl):ZL (.Assign [tg] e pos) (rF m t):=λc=>(LH (he c) (hg c) hs hw h1).imp λD σ H h=>by
 let⟨φ,δ,h,rh,re,p⟩:=h;refine⟨φ,δ,h,rh,re,(post.fl p).imp ?_⟩;rintro v H1 ⟨φ1,x,h1,p1,t1,aa,ab,q1⟩;cases et:t x δ with
 |none=>rw[et]at q1;show q1.elim
 |some δ'=>rw[et]at q1;show⟨φ1,δ,h1,x,δ',aa,S2 0,ab,et,λσ' vx=>q1.nx aa vx⟩
def Pd(he:G_ e m)(hs:YI e b_ pos.line X.env=pure false:=by rfl):ZL (.Expr e pos) (lI m):=λc=>(J7 (he c) hs).imp λD σ H h=>by let⟨φ,δ,h,rh,re,p⟩:=h;refine⟨φ,δ,h,rh,re,(post.fl p).imp ?_⟩;rintro v H1 ⟨φ1,x,h1,p1,t1,aa,ab,q1⟩;show q1.nx aa<|S2 0
def Pe(he:G_ e m):ZL (.Return (a_ e) pos) (aV m):=λc=>(LD<|he c).imp λD σ H h=>by let⟨φ,δ,h,rh,re,p⟩:=h;refine⟨φ,δ,h,rh,re,(post.fl p).imp ?_⟩;rintro v H1 ⟨φ1,x,h1,p1,t1,aa,ab,q1⟩;show q1.rt aa ab
variable{as:B_ A_}{ui:z_}
def Ra{a:Ms}{b:Ms}{bs:B_ A_}{t:Ev->PH->ZG 0}(hc:ST C k X ui t)(ha:SSs C k X as a)(hb:SSs C k X bs b):ZL (.If ui as bs pos) (cA t a b):=λc=>(O6 (hc c) (ha c)<|hb c).imp λD σ H h=>by
 let⟨φ,δ,h,rh,re,p⟩:=h;refine⟨φ,δ,h,rh,re,(bQ.fl p).imp ?_⟩;rintro d H1 ⟨φ1,h1,p1,t1,aa,q1⟩;cases d with
 |true=>exact A3 ⟨φ1,δ,h1,aa,S2 0,q1⟩
 |false=>exact A2 ⟨φ1,δ,h1,aa,S2 0,q1⟩
structure Wk where
 xs:B_ PV
 g:PH->Bool
abbrev Fq(C:MC)(J:It)(w:Wk)(φ0:B_ t_)(H0:Hp):Prop:=∀φ H h,φ0<+:φ->Kp H0 H->I_ h->w.g h=true->∀i:Nat,
 (i<w.xs.length->J.go i H/\∀x H',J.yld i H x H'->(∃p,w.xs[i]?=a_ p/\RV C φ H' p x)/\ZA H'/\RH C φ H' h)/\(w.xs.length<=i->J.stop i H)
@[reducible]def Mi:=Ev->PH->Rs Wk
abbrev eG(C:MC)(φ:B_ t_)(H:Hp)(r:Rs Wk)(R:It->Hp->Prop):Prop:=match r with
 |.ok w h=>∀φ' H' J,φ<+:φ'->ZA H'->Zj h->Fq C J w φ' H'->R J H'
 |.exc x h=>∀φ' H',φ<+:φ'->ZA H'->Zj h->C.ex φ' H' x
 |.bad=>False
abbrev rdI(C:MC)(m:Mi):TI:=λσ H R=>∃φ δ h,I_ h/\Y8 0/\eG C φ H (m δ h) R
abbrev SI(C:MC)(k:Nat)(X:Cx)(tg iter:z_)(m:Mi):Prop:=Y5 X->PI X tg iter (rdI C m)
abbrev tL(n:Nat)(xs:Y6 0)(h':PH):Bool:=match aM h' n with
 |some ys=>PV.beqs ys xs
 |none=>false
abbrev ofSeq(x:PV)(h:PH):Rs Wk:=match x with
 |.tup xs=>.ok ⟨xs,λ_=>true⟩ h
 |.ref n=>match aM h n with
  |some xs=>.ok ⟨xs,tL n xs⟩ h
  |none=>.bad
 |.fl xs=>.ok ⟨xs,λ_=>true⟩ h
 |_=>.bad
abbrev bF(m:Me):Mi:=λδ h=>(m δ h).bind ofSeq
def Pf(h:G_ iter m):SI C k X tg iter (bF m):=λc=>by
 intro jn s σ H R I q;let⟨φ,δ,hh,rh,re,p⟩:=q;let key:rd C m σ H λv H1=>∃φ1 x h1,φ<+:φ1/\ZA H1/\Zk 0/\RV C φ1 H1 x v/\eG C φ1 H1 (ofSeq x h1) R:=by
  refine⟨φ,δ,hh,rh,re,?_⟩;unfold bF at p;cases e:m δ hh with
  |ok x h1=>
   rw[e]at p;intro φ' v H' p' t' bp az;refine⟨φ',x,h1,p',t',bp,az,?_⟩
   change eG C φ' H' (ofSeq x h1) R
   let p0:eG C φ H (ofSeq x h1) R:=p;cases e2:ofSeq x h1 with
   |ok w h2=>rw[e2]at p0;show λφ2 H2 J p2 t2=>p0 φ2 H2 J (p'.trans p2) (t'.trans t2)
   |exc z h2=>rw[e2]at p0;show λφ2 H2 p2 t2=>p0 φ2 H2 (p'.trans p2) (t'.trans t2)
   |bad=>rw[e2]at p0;show p0
  |exc x h1=>rw[e]at p;show p
  |bad=>rw[e]at p;show p
 refine thn (h c jn s σ H _ I key) λv s1 z9=>?_;let⟨x,H1,I1,r1,φ1,x',h1,p1,t1,aa,ab,q1⟩:=z9;unfold ofSeq at q1;cases x' with
 |tup xs=>
  let⟨a,vs,rfl,sa,ra⟩:=ab;cases r1
  rw[<-c.K]at sa;let⟨its,rv,p,hz⟩:=I1.tuple sa;refine wpAny_pyIter_tuple (show s1.heap.IsTuple a its.toArray from p) ?_
  refine⟨(e_ s1),[(e_ s1)],_,_,H1,rfl,I1.kept (t':=s1.toks) λb o e=>Zp e,Cc a _,⟨_,Zc 0,rfl,rfl⟩,λb hb=>?_,?_⟩
  ·let e:b=(e_ s1):=by simpa using hb
   subst e;show I1.fpOk (U6 _)<|I1.hok.fresh<|U6 _
  ·refine q1 φ1 H1 (Itt X.K a) Vb (Kp.refl H1) aa λφ2 H2 h2 p2 t2 ah _ i=>⟨λhi=>?_,λhi=>⟨vs,t2.sq sa,by rw[<-ra.length];show hi⟩⟩;let ak:i<vs.length:=by rw[<-ra.length];show hi
   refine⟨⟨vs,vs[i],t2.sq sa,by simp[ak]⟩,λx H' y=>?_⟩;let⟨e,y⟩:=y;subst e;let⟨x2,e2,r2⟩:=ra.get<|y vs<|t2.sq sa;show⟨⟨x2,e2,r2.mono p2 t2⟩,Kp.refl _,ah⟩
 |ref n=>
  let⟨a,rfl,ha⟩:=ab;cases r1
  dsimp only at q1;cases e:aM h1 n with
  |none=>rw[e]at q1;show q1.elim
  |some xs=>
   rw[e]at q1;let⟨a2,vs,aj,sa,ra⟩:=bN aa e;rw[ha]at aj;cases aj;let gv:SqL X.K H1 a vs:=by rw[c.K];show sa
   let⟨its,rv,p,hz⟩:=I1.list gv;refine wpAny_pyIter_list p.isList ?_;refine⟨(e_ s1),[(e_ s1)],_,_,H1,rfl,I1.kept (t':=s1.toks) λb o e=>Zp e,yA a _,⟨_,Zc 0,rfl,rfl⟩,λb hb=>?_,?_⟩
   ·let e:b=(e_ s1):=by simpa using hb
    subst e;show I1.fpOk (U6 _)<|I1.hok.fresh<|U6 _
   ·refine q1 φ1 H1 (Itl X.K a) Vb (Kp.refl H1) aa λφ2 H2 h2 p2 t2 ah hg i=>?_;let hg:(match aM h2 n with|some ys=>PV.beqs ys xs|none=>false)=true:=hg
    cases e2:aM h2 n with
    |none=>rw[e2]at hg;cases hg
    |some ys=>
     rw[e2]at hg;let uc:=PV.beqs_eq hg;subst uc;let⟨a3,us,sm,su,ru⟩:=bN ah e2;rw[dN p2 ha]at sm;cases sm;rw[<-c.K]at su;refine⟨λhi=>?_,λhi=>⟨us,su,by rw[<-ru.length];show hi⟩⟩;let ak:i<us.length:=by rw[<-ru.length];show hi
     refine⟨⟨us,us[i],su,by simp[ak]⟩,λx H' y=>?_⟩;let⟨e,y⟩:=y;subst e;let⟨x2,e2,r2⟩:=ru.get<|y us su;show⟨⟨x2,e2,r2⟩,Kp.refl _,ah⟩
 |fl xs=>
  let⟨a,vs,rfl,sa,ra⟩:=ab;cases r1
  rw[<-c.K]at sa;let⟨its,rv,p,hz⟩:=I1.list sa.sq;refine wpAny_pyIter_list p.isList ?_;refine⟨(e_ s1),[(e_ s1)],_,_,H1,rfl,I1.kept (t':=s1.toks) λb o e=>Zp e,yA a _,⟨_,Zc 0,rfl,rfl⟩,λb hb=>?_,?_⟩
  ·let e:b=(e_ s1):=by simpa using hb
   subst e;show I1.fpOk (U6 _)<|I1.hok.fresh<|U6 _
  ·refine q1 φ1 H1 (Itl X.K a) Vb (Kp.refl H1) aa λφ2 H2 h2 p2 t2 ah _ i=>⟨λhi=>?_,λhi=>⟨vs,(t2.sf sa).sq,by rw[<-ra.length];show hi⟩⟩;let ak:i<vs.length:=by rw[<-ra.length];show hi
   refine⟨⟨vs,vs[i],(t2.sf sa).sq,by simp[ak]⟩,λx H' y=>?_⟩;let⟨e,y⟩:=y;subst e;let⟨x2,e2,r2⟩:=ra.get<|y vs (t2.sf sa).sq;show⟨⟨x2,e2,r2.mono p2 t2⟩,Kp.refl _,ah⟩
 |_=>exact q1.elim
abbrev upTo(lo:Int):Nat->Y6 0
 |0=>[]
 |n+1=>.int lo::upTo (lo+1) n
def cU:∀(n:Nat)(lo:Int),(upTo lo n).length=n
 |0,_=>rfl
 |n+1,lo=>by simp[upTo,cU n]
def qB:∀(n:Nat)(lo:Int)(i:Nat),i<n->(upTo lo n)[i]?=d_ (lo+i)
 |0,_,_,h=>by omega
 |n+1,lo,0,_=>by simp[upTo]
 |n+1,lo,i+1,h=>by
  simp only[upTo,Wq];rw[qB n (lo+1) i ⋯];congr 2;omega
open Classical in
abbrev E2:Y6 0->PH->Rs Wk:=λxs h=>match xs with
 |[.int j]=>if -(2 ^ 62)<=j/\j<2 ^ 62 then .ok ⟨upTo 0 j.toNat,λ_=>true⟩ h else .bad
 |_=>.bad
open Classical in
abbrev He:Y6 0->PH->Rs Wk:=λxs h=>match xs with
 |[.int i,.int j]=>if -(2 ^ 62)<=i/\i<2 ^ 62/\-(2 ^ 62)<=j/\j<2 ^ 62 then .ok ⟨upTo i (j-i).toNat,λ_=>true⟩ h else .bad
 |_=>.bad
abbrev lX(ms:Ma):Mi:=λδ h=>(ms δ h).bind E2
abbrev vG(ms:Ma):Mi:=λδ h=>(ms δ h).bind He
def Hf(lo:Int)(n:Nat)(φ:B_ t_)(H:Hp):Fq C (Itr lo n) ⟨upTo lo n,λ_=>true⟩ φ H:=λφ2 H2 h2 p2 t2 ah _ i=>by
 refine⟨λhi=>?_,λhi=>?_⟩
 ·let ak:i<n:=by rw[<-cU n lo];show hi
  refine⟨ak,λx H' y=>?_⟩;let⟨e,y⟩:=y;subst e y;show⟨⟨.int<|lo+i,qB n lo i ak,rfl⟩,Kp.refl _,ah⟩
 ·have:(upTo lo n).length<=i:=hi;rw[cU]at this;show this
def postA.bindI{r:Rs (Y6 0)}{f:Y6 0->PH->Rs Wk}{R:It->Hp->Prop}(h:eG C φ H (r.bind f) R):postA C φ H r λvs H1=>∃φ1 ps h1,φ<+:φ1/\ZA H1/\Zk 0/\RVs C φ1 H1 ps vs/\eG C φ1 H1 (f ps h1) R:=by
 cases r with
 |ok a h'=>
  intro φ' v H' p' t' rh rv;refine⟨φ',a,h',p',t',rh,rv,?_⟩;let p0:eG C φ H (f a h') R:=h;cases e2:f a h' with
  |ok w h2=>rw[e2]at p0;show λφ2 H2 J p2 t2=>p0 φ2 H2 J (p'.trans p2) (t'.trans t2)
  |exc z h2=>rw[e2]at p0;show λφ2 H2 p2 t2=>p0 φ2 H2 (p'.trans p2) (t'.trans t2)
  |bad=>rw[e2]at p0;show p0
 |exc a h'=>exact h
 |bad=>exact h
def PI.imp{t t':TI}(h:PI X tg iter t)(i:∀σ H R,t' σ H R->t σ H R):PI X tg iter t':=λjn s σ H R I q=>Zh R I<|i σ H R q
set_option tactic.hygienic true in
def MN{x:z_}{p:Pos}(ha:SA C k X [x] ms)(hb:("range" : Str)∈C.bs:=by decide)(hg:Gl X "range" := by rfl)(hs:Vl [x] X.env=[(false,eval x X.env)]:=by rfl):SI C k X tg (.Call (.Name "range" p) [x] [] pos) (lX ms):=λc=>
 (pr1 hg (c.bn _ hb) (ha c) hs).imp λσ H R h=>by
  let⟨φ,δ,h,rh,re,p⟩:=h;refine⟨φ,δ,h,rh,re,(postA.bindI p).imp ?_⟩;rintro vs H1 ⟨φ1,xs,h1,p1,t1,aa,ab,q1⟩;unfold E2 at q1;split at q1
  ·let⟨v,rfl,rx⟩:=ab.one;cases rx
   rename_i j;by_cases hj:-(2 ^ 62)<=j/\j<2 ^ 62
   ·rw[if_pos hj]at q1;show⟨hj,q1 φ1 H1 _ Vb (Kp.refl _) aa<|Hf 0 j.toNat φ1 H1⟩
   ·rw[if_neg hj]at q1;show q1.elim
  ·show q1.elim
set_option tactic.hygienic true in
def MP{x y:z_}{p:Pos}(ha:SA C k X [x,y] ms)(hb:("range" : Str)∈C.bs:=by decide)(hg:Gl X "range" := by rfl)(hs:Vl [x,y] X.env=[(false,eval x X.env),(false,eval y X.env)]:=by rfl)(gf:Vl [y] X.env=[(false,eval y X.env)]:=by rfl):
  SI C k X tg (.Call (.Name "range" p) [x,y] [] pos) (vG ms):=λc=>
 (pr2 hg (c.bn _ hb) (ha c) hs gf).imp λσ H R h=>by
  let⟨φ,δ,h,rh,re,p⟩:=h;refine⟨φ,δ,h,rh,re,(postA.bindI p).imp ?_⟩;rintro vs H1 ⟨φ1,xs,h1,p1,t1,aa,ab,q1⟩;unfold He at q1;split at q1
  ·let⟨v,w,rfl,rx,ry⟩:=ab.two;cases rx;cases ry;rename_i i j;by_cases hj:-(2 ^ 62)<=i/\i<2 ^ 62/\-(2 ^ 62)<=j/\j<2 ^ 62
   ·rw[if_pos hj]at q1;show⟨hj,q1 φ1 H1 _ Vb (Kp.refl _) aa<|Hf i (j-i).toNat φ1 H1⟩
   ·rw[if_neg hj]at q1;show q1.elim
  ·show q1.elim
abbrev iI(g:PH->Bool)(tg:Mg)(body:Ms):Y6 0->Ev->PH->Fl
 |[],δ,h=>if g h=true then .nx δ h else .bad
 |x::xs,δ,h=>if g h=true then(match tg x δ with
  |none=>.bad
  |some δ1=>match body δ1 h with
   |.nx δ2 h2=>iI g tg body xs δ2 h2
   |.ct δ2 h2=>iI g tg body xs δ2 h2
   |.bk δ2 h2=>.nx δ2 h2
   |r=>r) else .bad
abbrev eX(mi:Mi)(tg:Mg)(body:Ms):Ms:=λδ h=>(mi δ h).fl λw h1=>iI w.g tg body w.xs δ h1
def eG.fl{r:Rs Wk}{f:Wk->PH->Fl}{D:Ends}(h:bU C φ H (r.fl f) D):eG C φ H r λJ H1=>∃φ1 w h1,φ<+:φ1/\ZA H1/\Zk 0/\Fq C J w φ1 H1/\bU C φ1 H1 (f w h1) D:=by
 cases r with
 |ok a h'=>exact λφ' H' J p t rh wk=>⟨φ',a,h',p,t,rh,wk,bU.weak p t h⟩
 |exc a h'=>exact h
 |bad=>exact h
def eG.imp{r:Rs Wk}{Q Q':It->Hp->Prop}(h:eG C φ H r Q)(i:∀v H',Q v H'->Q' v H'):eG C φ H r Q':=by
 cases r with
 |ok a h'=>exact λφ' H' J p t rh wk=>i J H' (h φ' H' J p t rh wk)
 |exc a h'=>exact h
 |bad=>exact h
def drop_cons{α:Type}{xs:B_ α}{p:α}(h:xs[i]?=a_ p):xs.drop i=p::xs.drop (i+1):=by let⟨h1,h2⟩:=SC.mp h;rw[List.drop_eq_getElem_cons h1,h2]
variable{H0:Hp}{J:It}{φ0:B_ t_}
def JP{w:Wk}{tg:Mg}{body:Ms}{D:Ends}{σ:St}(wk:Fq C J w φ0 H0)(rh:RH C φ0 H0 h)(re:RE C φ0 H0 δ σ)(p:bU C φ0 H0 (iI w.g tg body w.xs δ h) D):
  ∃W:Nat->Nat->St->Hp->Prop,(∃m,W 0 m σ H0)/\∀i m σ H,W i m σ H->
   (J.stop i H/\D.nx σ H)\/(J.go i H/\∃N:St->Hp->Prop,(∀σ' H',N σ' H'->∃m',m'<m/\W (i+1) m' σ' H')/\∀x H',J.yld i H x H'->rdG C tg x σ H' λσ2 H2=>rdS C body { D with nx:=N,ct:=N,bk:=D.nx} σ2 H2):=by
 refine⟨λi m σ H=>m=w.xs.length-i/\i<=w.xs.length/\∃φ δ h,φ0<+:φ/\Kp H0 H/\I_ h/\Y8 0/\bU C φ H (iI w.g tg body (w.xs.drop i) δ h) D,
  ⟨w.xs.length,by simp,Vw _,φ0,δ,h,Vb,Kp.refl _,rh,re,by rw[List.drop_zero];show p⟩,?_⟩
 rintro i m σ H ⟨rfl,hi,φ,δ,h,pp,tt,rh,re,p⟩;by_cases ag:i<w.xs.length
 ·let hd:w.xs.drop i=w.xs[i]::w.xs.drop (i+1):=drop_cons (by simp[ag]);rw[hd]at p;unfold iI at p;by_cases hg:w.g h=true
  ·rw[if_pos hg]at p;let⟨go,step⟩:=(wk φ H h pp tt rh hg i).1 ag;refine .inr ⟨go,λσ' H'=>∃φ δ h,φ0<+:φ/\Kp H0 H'/\RH C φ H' h/\RE C φ H' δ σ'/\bU C φ H' (iI w.g tg body (w.xs.drop<|i+1) δ h) D,λσ' H' ⟨φ',δ',h',q⟩=>⟨w.xs.length-(i+1),⋯,rfl,ag,φ',δ',h',q⟩,λx H' y=>?_⟩;let⟨⟨q,eq,rv⟩,t1,aa⟩:=step x H' y;let xp:w.xs[i]=q:=by
    have:w.xs[i]?=a_ w.xs[i]:=by simp[ag]
    rw[this]at eq;show Vv eq
   rw[xp]at p;cases et:tg q δ with
   |none=>rw[et]at p;show p.elim
   |some δ1=>
    rw[et]at p;dsimp only at p;refine⟨φ,δ,h,q,δ1,aa,re.mono Vb t1,rv,et,λσ2 uz=>⟨φ,δ1,h,aa,uz,?_⟩⟩;let p:=bU.weak Vb t1 p;cases eb:body δ1 h with
    |nx δ2 h2=>rw[eb]at p;show λφ3 σ3 H3 p3 t3 ay j3=>⟨φ3,δ2,h2,pp.trans p3,(tt.trans t1).trans t3,ay,j3,bU.weak p3 t3 p⟩
    |ct δ2 h2=>rw[eb]at p;show λφ3 σ3 H3 p3 t3 ay j3=>⟨φ3,δ2,h2,pp.trans p3,(tt.trans t1).trans t3,ay,j3,bU.weak p3 t3 p⟩
    |bk δ2 h2=>rw[eb]at p;show p
    |rt z h2=>rw[eb]at p;show p
    |exc z h2=>rw[eb]at p;show p
    |bad=>rw[eb]at p;show p
  ·rw[if_neg hg]at p;show p.elim
 ·let e:i=w.xs.length:=⋯;subst e;rw[List.drop_length]at p;unfold iI at p;by_cases hg:w.g h=true
  ·rw[if_pos hg]at p;show .inl ⟨(wk φ H h pp tt rh hg _).2<|U6 _,p.nx rh re⟩
  ·rw[if_neg hg]at p;show p.elim
variable{body:B_ A_}{mi:Mi}
def Pg{t:Mg}{mb:Ms}(hi:SI C k X tg iter mi)(hg:SG C k X tg t)(hb:SSs C k X body mb)(hp:PassesOwn (h_ X) X.A X.env X.xe:=by show PassesOwn.never)(hs:∀x,q0e 0=pure x:=by intro _;rfl):ZL (.For tg iter body [] pos) (eX mi t mb):=λc=>(LK hp c.calm (hi c) (hg c) (hb c) hs).imp λD σ H h=>by let⟨φ,δ,h,rh,re,p⟩:=h;refine⟨φ,δ,h,rh,re,(eG.fl p).imp ?_⟩;rintro J H1 ⟨φ1,w,h1,p1,t1,aa,wk,q1⟩;show JP wk aa (S2 0) q1
abbrev yZ(t:Ev->PH->ZG 0)(body:Ms):Nat->Ev->PH->Fl
 |0,_,_=>.bad
 |n+1,δ,h=>(t δ h).fl λb h1=>match b with
  |false=>.nx δ h1
  |true=>match body δ h1 with
   |.nx δ2 h2=>yZ t body n δ2 h2
   |.ct δ2 h2=>yZ t body n δ2 h2
   |.bk δ2 h2=>.nx δ2 h2
   |r=>r
abbrev vH(n:Nat)(t:Ev->PH->ZG 0)(body:Ms):Ms:=yZ t body n
def JQ{t:Ev->PH->ZG 0}{mb:Ms}(hc:ST C k X ui t)(hb:SSs C k X body mb)(hp:PassesOwn (h_ X) X.A X.env X.xe:=by show PassesOwn.never):ZL (.While ui body [] pos) (vH n t mb):=λc=>
 (Gb hp (hc c)<|hb c).imp λD σ H h=>by
  refine⟨λm σ H=>∃φ δ h,I_ h/\Y8 0/\bU C φ H (yZ t mb m δ h) D,⟨n,h⟩,?_⟩;rintro m σ H ⟨φ,δ,h,rh,re,p⟩;cases m with
  |zero=>exact p.elim
  |succ m=>
   refine⟨φ,δ,h,rh,re,(bQ.fl p).imp ?_⟩;rintro b H1 ⟨φ1,h1,p1,t1,aa,q1⟩;cases b with
   |false=>exact A2<|q1.nx aa<|S2 0
   |true=>
    refine A3 ⟨λσ' H'=>∃φ δ h,RH C φ H' h/\RE C φ H' δ σ'/\bU C φ H' (yZ t mb m δ h) D,λσ' H' q=>⟨m,Nat.lt_succ_self m,q⟩,φ1,δ,h1,aa,S2 0,?_⟩;dsimp only at q1;cases eb:mb δ h1 with
    |nx δ2 h2=>rw[eb]at q1;show λφ3 σ3 H3 p3 t3 ay j3=>⟨φ3,δ2,h2,ay,j3,bU.weak p3 t3 q1⟩
    |ct δ2 h2=>rw[eb]at q1;show λφ3 σ3 H3 p3 t3 ay j3=>⟨φ3,δ2,h2,ay,j3,bU.weak p3 t3 q1⟩
    |bk δ2 h2=>rw[eb]at q1;show q1
    |rt z h2=>rw[eb]at q1;show q1
    |exc z h2=>rw[eb]at q1;show q1
    |bad=>rw[eb]at q1;show q1
variable{C:MC}{k:Nat}{X:Cx}
abbrev dB(js:B_ (C_ Nat))(δ:Ev):Ev:=js.map λo=>match o with
 |none=>b_
 |some j=>Ac δ j
def E3:∀{σ:St}{i:Nat}{v:V},σ[i]?=a_ (a_ v)->Cw σ i=a_ v
 |[],_,_,h=>by simp at h
 |x::_,0,v,h=>by
  have:x=a_ v:=by simpa using h
  show this
 |_::r,n+1,v,h=>E3 (σ:=r) (i:=n) (l_ h)
def RE.cap{σ:St}(re:Y8 0)(js:B_ (C_ Nat)):RE C φ H (dB js δ) (kC js σ):=by
 refine⟨by simp[dB,kC],λi p e=>?_⟩;unfold dB at e;unfold kC;rw[Vk]at e⊢;cases q:js[i]? with
 |none=>rw[q]at e;cases e
 |some o=>
  rw[q]at e;cases o with
  |none=>cases e
  |some j=>let⟨v,hv,rv⟩:=re.2 j p<|vB<|Vv e;show⟨v,by change a_ (Cw σ j)=_;rw[E3 hv],rv⟩
abbrev lF(g:PH->Bool)(tg:Mg)(tst:Ev->PH->ZG 0)(elt:Me)(δ0:Ev)(n:Nat):Y6 0->PH->Rs PV
 |[],h=>if g h=true then .ok (.ref n) h else .bad
 |x::xs,h=>if g h=true then(match tg x δ0 with
  |none=>.bad
  |some δ1=>(tst δ1 h).bind λb h1=>match b with
   |false=>lF g tg tst elt δ0 n xs h1
   |true=>(elt δ1 h1).bind λp h2=>match bV h2 n with
    |some ys=>if ys.length<Ve then lF g tg tst elt δ0 n xs (h2.set n<|.lst<|ys++[p]) else .bad
    |none=>.bad) else .bad
abbrev bG(js:B_ (C_ Nat))(mi:Mi)(tg:Mg)(tst:Ev->PH->ZG 0)(elt:Me):Me:=λδ h=>(mi δ h).bind λw h1=>lF w.g tg tst elt (dB js δ) h1.length w.xs<|h1++[.lst []]
abbrev eY:Ev->PH->ZG 0:=λ_ h=>.ok true h
abbrev STs(C:MC)(k:Nat)(X:Cx)(es:B_ z_)(m:Ev->PH->ZG 0):Prop:=Y5 X->PTs X es (rdB C m)
def MQ:STs C k X [] eY:=λc jn s σ H Q I h=>by let⟨φ,δ,h,rh,re,p⟩:=h;show Jr jn s σ H Q I<|p.val rh
def MR{m:Ev->PH->ZG 0}(h:ST C k X e m):STs C k X [e] m:=λc=>Js<|h c
def eG.bind{r:Rs Wk}{f:Wk->PH->Rs PV}{Q:VK}(h:P2 (r.bind f) Q):eG C φ H r λJ H1=>∃φ1 w h1,φ<+:φ1/\ZA H1/\Zk 0/\Fq C J w φ1 H1/\post C φ1 H1 (f w h1) Q:=by
 cases r with
 |ok a h'=>exact λφ' H' J p t rh wk=>⟨φ',a,h',p,t,rh,wk,post.weak p t h⟩
 |exc a h'=>exact h
 |bad=>exact h
variable{elt:Me}{tst:Ev->PH->ZG 0}
def Hg{w:Wk}{tg:Mg}{Q:VK}{σ:St}(wk:Fq C J w φ0 H0)(rh:RH C φ0 H0 h)(re:RE C φ0 H0 δ σ)(p:post C φ0 H0 (lF w.g tg tst elt (dB js δ) h.length w.xs<|h++[.lst []]) Q)(acc:t_)(aw:H0 acc=b_):
  ∃W:Nat->Nat->Hp->Prop,(∃m,W 0 m<|upd H0 acc<|.lst [])/\∀i m H2,W i m H2->
   (J.stop i H2/\Q (.ref acc) H2)\/(J.go i H2/\∃N:Hp->Prop,(∀H',N H'->∃m',m'<m/\W (i+1) m' H')/\∀x H3,J.yld i H2 x H3->La js (rdG C tg) (rdB C tst) (rd C elt) σ acc x H3 N):=by
 let hlen:(φ0++[acc])[h.length]?=a_ acc:=by rw[<-rh.len];simp
 refine⟨λi m H=>m=w.xs.length-i/\i<=w.xs.length/\∃φ h',(φ0++[acc])<+:φ/\Kp H0 H/\I_ h'/\P2 (lF w.g tg tst elt (dB js δ) h.length (w.xs.drop i) h') Q,
  ⟨w.xs.length,by simp,Vw _,φ0++[acc],h++[.lst []],Vb,Kp.new aw,rh.new (o:=.lst []) aw ⟨[],aK,trivial⟩,by rw[List.drop_zero];show post.weak (VA _ _) (Kp.new aw) p⟩,?_⟩
 rintro i m H ⟨rfl,hi,φ,h',pp,tt,bp,p⟩;let xc:φ0<+:φ:=(VA _ _).trans pp;by_cases ag:i<w.xs.length
 ·let hd:w.xs.drop i=w.xs[i]::w.xs.drop (i+1):=drop_cons (by simp[ag]);rw[hd]at p;unfold lF at p;by_cases hg:w.g h'=true
  ·rw[if_pos hg]at p;let⟨go,step⟩:=(wk φ H h' xc tt bp hg i).1 ag;refine .inr ⟨go,λH'=>∃φ h',(φ0++[acc])<+:φ/\Kp H0 H'/\RH C φ H' h'/\post C φ H' (lF w.g tg tst elt (dB js δ) h.length (w.xs.drop<|i+1) h') Q,λH' ⟨φ',h',q⟩=>⟨w.xs.length-(i+1),⋯,rfl,ag,φ',h',q⟩,λx H' y=>?_⟩;let⟨⟨q,eq,rv⟩,t1,aa⟩:=step x H' y;let xp:w.xs[i]=q:=by
    have:w.xs[i]?=a_ w.xs[i]:=by simp[ag]
    rw[this]at eq;show Vv eq
   rw[xp]at p;cases et:tg q (dB js δ) with
   |none=>rw[et]at p;show p.elim
   |some δ1=>
    rw[et]at p;let ou:RE C φ H' (dB js δ) (kC js σ):=(re.mono xc<|tt.trans t1).cap js;refine⟨φ,dB js δ,h',q,δ1,aa,ou,rv,et,λσ2 uz=>⟨φ,δ1,h',aa,uz,(bQ.bind<|post.weak Vb t1 p).imp ?_⟩⟩;rintro b H5 ⟨φ5,h5,p5,t5,rh5,q5⟩;cases b with
    |false=>exact A2 ⟨φ5,h5,pp.trans p5,(tt.trans t1).trans t5,rh5,q5⟩
    |true=>
     refine A3 ⟨φ5,δ1,h5,rh5,uz.mono p5 t5,(post.bind q5).imp ?_⟩;rintro v H6 ⟨φ6,z,h6,p6,t6,rh6,rv6,q6⟩;cases e6:bV h6 h.length with
     |none=>rw[e6]at q6;show q6.elim
     |some ys=>
      rw[e6]at q6;let⟨hz,q6⟩:=q6.ite;let hφ:φ6[h.length]?=a_ acc:=dN ((pp.trans p5).trans p6) hlen;let⟨vs,hH,iq⟩:=rh6.at' h.length acc _ hφ (fP e6);refine⟨vs,hH,by rw[<-iq.length];show hz,φ6,h6.set h.length (.lst (ys++[z])),(pp.trans p5).trans p6,(((tt.trans t1).trans t5).trans t6).trans (Kp.lst hH),
       rh6.write hφ (by rw[hH];trivial) ⟨vs++[v],aK,(iq.snoc rv6).mono Vb (Kp.lst hH)⟩,post.weak Vb (Kp.lst hH) q6⟩
  ·rw[if_neg hg]at p;show p.elim
 ·let e:i=w.xs.length:=⋯;subst e;rw[List.drop_length]at p;unfold lF at p;by_cases hg:w.g h'=true
  ·rw[if_pos hg]at p;show .inl ⟨(wk φ H h' xc tt bp hg _).2<|U6 _,p.val bp ⟨acc,rfl,dN pp hlen⟩⟩
  ·rw[if_neg hg]at p;show p.elim
def E4{tg:Mg}{σ:St}{Q:VK}(h:rd C (bG js mi tg tst elt) σ H Q):DT js (rdI C mi) (rdG C tg) (rdB C tst) (rd C elt) σ H Q:=by let⟨φ,δ,h,rh,re,p⟩:=h;refine⟨φ,δ,h,rh,re,(eG.bind p).imp ?_⟩;rintro J H1 ⟨φ1,w,h1,p1,t1,aa,wk,q1⟩;intro acc aw;show Hg wk aa (S2 0) q1 acc aw
def MS{elt:z_}{g:Mg}{tt:Ev->PH->ZG 0}(fv:X.env.scope=os)(j0:X.N=oN)(ok:kA os oN sc N js=true)(hi:SI C k X tg iter mi)(hg:∀C' fp s₀ H₀,SG C k (S1 N C' fp s₀ H₀) tg g)(ht:∀C' fp s₀ H₀,STs C k (S1 N C' fp s₀ H₀) ifs tt)(he:∀C' fp s₀ H₀,SE C k (S1 N C' fp s₀ H₀) elt me)(hs:∀x,q0e 0=pure x:=by intro _;rfl):G_ (.ListComp elt [⟨tg,iter,ifs,0⟩] sc pos) (bG js mi g tt me):=λc=>(Jt c.calm fv j0 ok (hi c) (λa b s H=>hg a b s H<|c.comp sc N a b s H) (λa b s H=>ht a b s H<|c.comp sc N a b s H) (λa b s H=>he a b s H<|c.comp sc N a b s H) hs).imp λσ H Q h=>E4 h
def Fs{elt:z_}{g:Mg}{tt:Ev->PH->ZG 0}(hN:X.N.Nodup)(de:X.N[i]?=a_ x)(jr:V_ 0=a_ .local)(fv:X.env.scope=os)(j0:X.N=oN)(ok:kA os oN sc N js=true)(hi:SI C k X tg iter mi)(hg:∀C' fp s₀ H₀,SG C k (S1 N C' fp s₀ H₀) tg g)(ht:∀C' fp s₀ H₀,STs C k (S1 N C' fp s₀ H₀) ifs tt)(he:∀C' fp s₀ H₀,SE C k (S1 N C' fp s₀ H₀) elt me)(t9:YI (.ListComp elt [⟨tg,iter,ifs,0⟩] sc pos) (a_<|.Name x pos') dk.line X.env=pure true:=by rfl)(hs:∀x,q0e 0=pure x:=by intro _;rfl):ZL (.Assign [.Name x pos'] (.ListComp elt [⟨tg,iter,ifs,0⟩] sc pos) dk) (aP i<|bG js mi g tt me):=λc=>(Cy hN de jr c.calm fv j0 ok (hi c) (λa b s H=>hg a b s H<|c.comp sc N a b s H) (λa b s H=>ht a b s H<|c.comp sc N a b s H) (λa b s H=>he a b s H<|c.comp sc N a b s H) t9 hs).imp λD σ H h=>by let⟨φ,δ,h,rh,re,p⟩:=h;refine E4 ⟨φ,δ,h,rh,re,(post.fl p).imp ?_⟩;rintro v H1 ⟨φ1,x,h1,p1,t1,aa,ab,q1⟩;show q1.nx aa<|(S2 0).set ab i
abbrev mFn(N:Nat)(body:Ms):Fn:=λargs h=>match body (args.map a_++XD (N-args.length) b_) h with
 |.nx _ h'=>.ok .non h'
 |.rt p h'=>.ok p h'
 |.exc x h'=>.exc x h'
 |_=>.bad
def RE.start{ps:Y6 0}(r:E_ ps vs)(N:Zg 0):RE C φ H (ps.map a_++XD (N.length-ps.length) b_) (start N vs):=by
 unfold L2.start;refine⟨by simp[r.length],λi p e=>?_⟩;by_cases hi:i<ps.length
 ·rw[VT<|l_ hi,Vk]at e;rw[VT<|by simpa[<-r.length] using hi,Vk]
  cases q:ps[i]? with
  |none=>rw[q]at e;cases e
  |some x=>
   rw[q]at e;cases e
   let⟨v,hv,rv⟩:=r.at q;show⟨v,by rw[hv];rfl,rv⟩
 ·rw[Wu<|l_ hi]at e;rw[List.getElem?_replicate]at e;split at e
  ·cases e
  ·cases e
def Le{f:t_}{body:Ms}(hex:∀φ H x,¬ C.ex φ H x)(hbn:∀x∈C.bs,mg x=b_)(F:Fun C.K x qual st f fd)(S:pL N ps (aU st))(hb:∀(cdv:s_)(A:v_)(outer:B_ Env)(s:td)(H:Hp)(E:XK),SSs C k (wX CX0 P C.w C.K mg base N qual (aU st) f cdv A outer s H E).nox (cH st) body):
  cL P C.w C.K mg base CX0 (k+1) f fd ps (spM C ps.length<|mFn N.length body):=by
 refine F.ok S (λvs H Q E h=>?_)<|λcdv A outer s H vs Q E hr h=>?_
 ·let⟨φ,h,xs,rh,rv,hl,_⟩:=h;rw[<-rv.length];show hl
 ·let⟨φ,h,xs,rh,rv,hl,p⟩:=h;refine⟨_,hb cdv A outer s H E ⟨rfl,rfl,hr,hbn,rfl⟩,φ,xs.map a_++XD (N.length-xs.length) b_,h,rh,RE.start rv N,?_⟩;unfold mFn at p;cases e:body (xs.map a_++XD (N.length-xs.length) b_) h with
  |nx δ h'=>rw[e]at p;show λφ' σ' H' pp tt bp vx=>p φ' .non H' pp tt bp rfl
  |rt z h'=>rw[e]at p;show p
  |exc z h'=>rw[e]at p;show λφ' H' pp tt bp=>(hex _ _ _<|p φ' H' pp tt bp).elim
  |bk δ h'=>rw[e]at p;show p.elim
  |ct δ h'=>rw[e]at p;show p.elim
  |bad=>rw[e]at p;show p.elim
def MT{f:Fn}{Q:VK}{E:XK}(hO:Gw H)(ho:SqL C.K H a (ZS 0))(hf:∃h,f [.fl<|Zw 0] []=.ok (.bl true) h)(hQ:∀H',Q (.bl true) H'):spM C 1 f [.ref a] H Q E:=by
 let r0:∀ns:Z9 0,RVs C [] H (Zw 0) (ZS 0):=by
  intro ns
  induction ns with
  |nil=>trivial
  |cons n ns ih=>exact⟨rfl,ih⟩
 let hs:SqF C.K H a (ZS 0):=by
  rcases ho with(h|⟨o,h⟩)|h
  ·rcases hO a with z|⟨o,xs,z⟩
   ·rw[z]at h;cases h
   ·rw[z]at h;cases h
  ·show .inl ⟨o,h⟩
  ·show .inr h
 refine⟨[],[],[.fl<|Zw 0],⟨rfl,by simp,λn b ob h1 h2=>by simp at h1⟩,⟨⟨a,_,rfl,hs,r0 ns⟩,trivial⟩,rfl,?_⟩;let⟨h,e⟩:=hf;rw[e];intro φ' v H' _ _ _ rv;cases rv
 show hQ H'
variable{C:MC}{k:Nat}{X:Cx}
abbrev tyN(x:PV)(h:PH):C_ String:=match x with
 |.non=>a_ "NoneType"
 |.bl _=>a_ "bool"
 |.int _=>a_ "int"
 |.str _=>a_ "str"
 |.tup _=>a_ "tuple"
 |.fl _=>a_ "list"
 |.ref n=>match h[n]? with
  |some (.lst _)=>a_ "list"
  |some (.dK _)=>a_ "dict"
  |_=>b_
 |.ty _=>b_
abbrev vI(t c:String):Bool:=t == c || (t == "bool" && c == "int")
abbrev known:B_ String:=["int","str","bool","list","tuple","dict"]
def MU{t c:String}(ht:t∈"NoneType" :: known)(hc:c∈known):PySem.W.kitOne K (.type t) (.type c)=a_ (vI t c):=by simp only[known,U9,Yz,or_false]at ht hc;rcases ht with rfl|rfl|rfl|rfl|rfl|rfl|rfl <;> rcases hc with rfl|rfl|rfl|rfl|rfl|rfl <;> rfl
abbrev vJ:Y6 0->PH->Rs PV:=λxs h=>match xs with
 |[x,.ty c]=>match tyN x h with
  |some t=>if c∈known then .ok (.bl<|vI t c) h else .bad
  |none=>.bad
 |_=>.bad
def Hh(hK:X.K=C.K):cO X (.builtin "isinstance") (λxs H Q=>∃x c t b,xs=[x,.ty c]/\(qS C.K H x (.type t)\/(∃a vs,x=.ref a/\SqT C.K H a vs/\t="tuple")\/(∃a vs,x=.ref a/\SqL C.K H a vs/\t="list"))/\PySem.W.kitOne C.K (.type t) (.type c)=a_ b/\Q (.bl b) H):=by
 intro jn s σ H xs us Q I r h;let⟨x,c,t,b,rfl,ty,e,q⟩:=h;let⟨u,v,rfl,ru,rv⟩:=vals2 r;cases rv
 rw[<-hK]at e ty;rcases ty with ty|⟨a,vs,rfl,sa,rfl⟩|⟨a,vs,rfl,sa,rfl⟩
 ·show EN I ru ty e λtk=>⟨.bl b,H,I.tok tk,rfl,q⟩
 ·cases ru
  let⟨its,_,⟨o,h1,h2,_⟩,_⟩:=I.tuple sa;show V5 PySem.W.kitx_tuple I.kIn ⟨o,h1,h2⟩ e (λz=>Zq 0) λtk=>⟨.bl b,H,I.tok tk,rfl,q⟩
 ·cases ru
  let⟨its,_,⟨o,n,h1,h2,_⟩,_⟩:=I.list sa;show V5 PySem.W.kitx_list I.kIn ⟨o,h1,h2⟩ e (λz=>Zq 0) λtk=>⟨.bl b,H,I.tok tk,rfl,q⟩
set_option tactic.hygienic true in
def Ag:lQ C k X (.builtin "isinstance") vJ:=λc=>(Hh c.K).imp λvs H Q h=>by
 let⟨φ,h,ps,rh,rv,po⟩:=h;unfold vJ at po;split at po
 ·rename_i x n;let⟨v,w,rfl,rx,ry⟩:=rv.two;cases ry
  split at po
  ·rename_i t ht;let⟨hn,po⟩:=po.ite;let fin:∀{t:String},t∈"NoneType" :: known->P2 (.ok (.bl<|vI t n) h) Q->PySem.W.kitOne C.K (.type t) (.type n)=a_ (vI t n)/\Q (.bl<|vI t n) H:=λhm po=>⟨MU hm hn,P_ rfl⟩;unfold tyN at ht;cases x with
   |non=>cases ht;cases rx;show⟨_,n,_,_,rfl,.inl .non,fin nofun po⟩
   |bl b=>cases ht;cases rx;show⟨_,n,_,_,rfl,.inl<|.bl _,fin nofun po⟩
   |int b=>cases ht;cases rx;show⟨_,n,_,_,rfl,.inl<|.int _,fin nofun po⟩
   |str b=>cases ht;cases rx;show⟨_,n,_,_,rfl,.inl<|.str _,fin nofun po⟩
   |tup xs=>
    cases ht
    let⟨a,vs,rfl,sa,ra⟩:=rx;show⟨_,n,_,_,rfl,.inr<|.inl ⟨a,vs,rfl,sa,rfl⟩,fin nofun po⟩
   |fl xs=>
    cases ht
    let⟨a,vs,rfl,sa,ra⟩:=rx;show⟨_,n,_,_,rfl,.inr<|.inr ⟨a,vs,rfl,sa.sq,rfl⟩,fin nofun po⟩
   |ref m=>
    let⟨a,rfl,ha⟩:=rx;dsimp only at ht;split at ht
    ·rename_i xs hx;cases ht
     let⟨vs,hH,ra⟩:=rh.at' m a _ ha hx;show⟨_,n,_,_,rfl,.inl<|.lst hH,fin nofun po⟩
    ·rename_i xs hx;cases ht
     let⟨vs,hH,ra⟩:=rh.at' m a _ ha hx;show⟨_,n,_,_,rfl,.inl<|.dK hH,fin nofun po⟩
    ·cases ht
   |ty z=>cases ht
  ·show po.elim
 ·show po.elim
abbrev mMt(ty:PV->PH->Bool)(g:PV->Y6 0->PH->Rs PV)(mo:Me)(ms:Ma):Me:=λδ h=>(mo δ h).bind λx h1=>if ty x h1=true then(ms δ h1).bind λps h2=>g x ps h2 else .bad
abbrev nU(ty:PV->PH->Bool)(g:PV->Y6 0->PH->Rs PV)(mo:Me):Me:=λδ h=>(mo δ h).bind λx h1=>if ty x h1=true then g x [] h1 else .bad
abbrev rM(C:MC)(g:PV->Y6 0->PH->Rs PV):V->B_ V->Hp->VK->Prop:=λx xs H Q=>∃φ h p ps,I_ h/\D_ p x/\E_ ps xs/\P2 (g p ps h) Q
abbrev MtS(C:MC)(k:Nat)(X:Cx)(T:String)(ty:PV->PH->Bool)(id:String)(g:PV->Y6 0->PH->Rs PV):Prop:=Y5 X->MtR X id (rM C g)/\∀φ H h p x,I_ h->D_ p x->ty p h=true->tyV C.K T x H
variable{ae apos:Pos}{mo:Me}{name:Str}{ty:PV->PH->Bool}
def Ph{o:z_}{id:String}{g:PV->Y6 0->PH->Rs PV}(pa:PlainAttrs T)(slot:Slot T name id)(i6:typeOf (.builtin id)=pure (.type "method_descriptor"))(hm:MtS C k X T ty id g)(ho:G_ o mo)(ha:SA C k X (e::es) ms)(au:Xf o name X.env (ZT 0)=ZT 0:=by rfl)(fb:((backTo ae (Vl (e::es) X.env)).all (λx=>!x.1)&&(backToKw ae (keywordEach [] X.env)).all (λx=>x.1.isSome)
   && decide ((e::es).length+([]:B_ Keyword).length+(if([]:B_ Keyword).isEmpty then 0 else 1)<30))=true:=by rfl)(aq:(apos.endLine == ae.line)=true:=by rfl)(hs:Vl (e::es) X.env=(false,U_ 0)::W_ 0:=by rfl)(cm:(backTo ae (W_ 0)).any (·.1)=false:=by rfl):
  G_ (.Call (.Attribute o name apos) (e::es) [] ae) (mMt ty g mo ms):=λc=>(Om pa slot i6 (hm c).1 (ho c) (ha c) au fb aq hs cm).imp λσ H Q h=>by
 let⟨φ,δ,h,rh,re,p⟩:=h;refine⟨φ,δ,h,rh,re,(post.bind p).imp ?_⟩;rintro v H1 ⟨φ1,x,h1,p1,t1,aa,ab,q1⟩;let⟨ht,q1⟩:=q1.ite;refine⟨by rw[c.K];show(hm c).2 φ1 H1 h1 x v aa ab ht,φ1,δ,h1,aa,S2 0,(postA.bind q1).imp ?_⟩;rintro vs H2 ⟨φ2,xs,h2,p2,t2,ah,c7,q2⟩;show⟨φ2,h2,x,xs,ah,ab.mono p2 t2,c7,q2⟩
def Pi{o:z_}{id:String}{g:PV->Y6 0->PH->Rs PV}(pa:PlainAttrs T)(slot:Slot T name id)(i6:typeOf (.builtin id)=pure (.type "method_descriptor"))(hm:MtS C k X T ty id g)(ho:G_ o mo)(au:Xf o name X.env (ZT 0)=ZT 0:=by rfl)(aq:(apos.endLine == ae.line)=true:=by rfl):G_ (.Call (.Attribute o name apos) [] [] ae) (nU ty g mo):=λc=>(M4 pa slot i6 (hm c).1 (ho c) au aq).imp λσ H Q h=>by let⟨φ,δ,h,rh,re,p⟩:=h;refine⟨φ,δ,h,rh,re,(post.bind p).imp ?_⟩;rintro v H1 ⟨φ1,x,h1,p1,t1,aa,ab,q1⟩;let⟨ht,q1⟩:=q1.ite;show⟨by rw[c.K];show(hm c).2 φ1 H1 h1 x v aa ab ht,φ1,h1,x,[],aa,ab,trivial,q1⟩
def MtR.imp{id:String}{r r':V->B_ V->Hp->VK->Prop}(h:MtR X id r)(i:∀x xs H Q,r' x xs H Q->r x xs H Q):MtR X id r':=λjn s σ H x xs v us Q I rx rs q=>Zh x xs v us Q I rx rs<|i x xs H Q q
abbrev isL(x:PV)(h:PH):Bool:=match x with
 |.ref n=>(bV h n).isSome
 |_=>false
def CW{x:V}(rh:I_ h)(rv:D_ p x)(e:isL p h=true):tyV C.K "list" x H:=by
 cases p with
 |ref n=>
  let⟨a,rfl,ha⟩:=rv;let⟨xs,hx⟩:=Option.isSome_iff_exists.mp (show(bV h n).isSome=true from e)
  let⟨vs,hH,ra⟩:=YZ<|fP hx;show .inl ⟨rfl,vs,SqL.of hH⟩
 |_=>cases e
abbrev onL(f:Y6 0->Y6 0->C_ (PV×Y6 0)):PV->Y6 0->PH->Rs PV:=λx ps h=>match x with
 |.ref n=>match bV h n with
  |some xs=>match f xs ps with
   |some (r,ys)=>.ok r (ZO<|.lst ys)
   |none=>.bad
  |none=>.bad
 |_=>.bad
def Hi{f:Y6 0->Y6 0->C_ (PV×Y6 0)}{x:V}{xs:B_ V}{Q:VK}(h:rM C (onL f) x xs H Q):∃φ l ps ys vs r zs,x=.ref l/\H l=a_ (.lst vs)/\E_ ys vs/\E_ ps xs/\f ys ps=a_ (r,zs)/\
  ∀(v:V)(ws:B_ V),D_ r v->E_ zs ws->Q v (R_ l<|.lst ws):=by
 let⟨φ,h,p,ps,rh,rx,rs,po⟩:=h;unfold onL at po;cases p with
 |ref n=>
  let⟨a,rfl,ha⟩:=rx;dsimp only at po;cases e:bV h n with
  |none=>rw[e]at po;show po.elim
  |some ys=>
   rw[e]at po;dsimp only at po;let⟨vs,hH,ra⟩:=YZ<|fP e;cases ef:f ys ps with
   |none=>rw[ef]at po;show po.elim
   |some rz=>rw[ef]at po;let⟨r,zs⟩:=rz;show⟨φ,a,ps,ys,vs,r,zs,rfl,hH,ra,rs,ef,λv ws rv cx=>po.lset rh ha hH cx rv⟩
 |_=>exact po.elim
abbrev cI:Y6 0->Y6 0->C_ (PV×Y6 0):=λxs ps=>match ps with
 |[p]=>if xs.length<Ve then a_ (.non,xs++[p]) else b_
 |_=>b_
abbrev CY:Y6 0->Y6 0->C_ (PV×Y6 0):=λxs ps=>match ps with
 |[]=>match xs[xs.length-1]? with
  |some p=>a_ (p,xs.dropLast)
  |none=>b_
 |_=>b_
def RVs.dropLast(r:ZV 0):E_ xs.dropLast vs.dropLast:=by rw[List.dropLast_eq_take,List.dropLast_eq_take,r.length];show r.take _
set_option tactic.hygienic true in
def Ft:MtR X "list.append" (rM C<|onL cI):=MtR.imp (show MtR X "list.append" DQ from yG) λx xs H Q h=>by
 let⟨φ,l,ps,ys,vs,r,zs,rfl,hH,ra,rs,ef,q⟩:=Hi h;unfold cI at ef;split at ef
 ·split at ef
  ·rename_i hz;cases ef
   let⟨v,rfl,rx⟩:=rs.one;show⟨l,vs,v,rfl,rfl,hH,by rw[<-ra.length];show hz,q .non _ rfl<|ra.snoc rx⟩
  ·cases ef
 ·cases ef
def Hj:MtS C k X "list" isL "list.append" (onL cI):=λc=>⟨Ft,λφ H h p x rh rv e=>CW rh rv e⟩
set_option tactic.hygienic true in
def MV:MtR X "list.pop" (rM C<|onL CY):=MtR.imp (show MtR X "list.pop" On from M5) λx xs H Q h=>by
 let⟨φ,l,ps,ys,vs,r,zs,rfl,hH,ra,rs,ef,q⟩:=Hi h;unfold CY at ef;split at ef
 ·split at ef
  ·rename_i p hp;cases ef
   have:xs=[]:=by cases xs <;> first|rfl|exact rs.elim
   subst this;rw[ra.length]at hp;let⟨v,hv,rv⟩:=ra.at hp;show⟨l,vs,v,rfl,rfl,hH,hv,q v _ rv ra.dropLast⟩
  ·cases ef
 ·cases ef
def Pj:MtS C k X "list" isL "list.pop" (onL CY):=λc=>⟨MV,λφ H h p x rh rv e=>CW rh rv e⟩
abbrev Pk(K:UF):R2:=λx y H Q=>∃a b ys,x=.ref a/\y=.ref b/\ZF a []/\ZF b ys/\Q (.ref b) H
def JR:Y7 (WB .Add) (Pk X.K):=by
 intro jn s σ H x y v u Q I rx ry h;let⟨a,b,ys,rfl,rfl,ha,hb,q⟩:=h;cases rx
 cases ry
 let⟨its,r1,p1,_⟩:=I.tuple ha;let⟨c5,r2,p2,_⟩:=I.tuple hb;cases r1
 let⟨⟨cls,dd,data,sl⟩,ho,hc,n,hd⟩:=id p1;let⟨⟨yi,vi,data2,u5⟩,nu,f7,n2,hd2⟩:=id p2;simp only at hc hd f7 hd2;subst hc hd f7 hd2;show concat_meets ⟨_,ho,rfl⟩ ⟨_,nu,rfl⟩ noFill_tuple_add seq_tuple_add PySem.F.slot_tuple_add PySem.F.entry_tuple_add (PySem.F.args_tuple_add_2 _ _)
   (tuple_addW0 a b ([]:ZQ 0).toArray c5.toArray n n2 dd vi sl u5<|by simp) ⟨ho,nu,⟨.ref b,H,I,rfl,q⟩⟩
abbrev aS:PV->PV->PH->Rs PV:=λx y h=>match x,y with
 |.tup [],.tup ys=>.ok (.tup ys) h
 |x,y=>GZ x y h
def MW:Y3 (WB .Add) aS:=λc=>((ON c).or (by have:=JR (X:=X);rw[c.K]at this;show this)).imp λx y H Q h=>by
 let⟨φ,h,p,q,rh,rx,ry,po⟩:=h;unfold aS at po;split at po
 ·let⟨a,vs,rfl,sa,ra⟩:=rx;let⟨b,us,rfl,sb,rb⟩:=ry;have:vs=[]:=by cases vs <;> first|rfl|exact ra.elim
  subst this;show .inr ⟨a,b,us,rfl,rfl,sa,sb,P_ ⟨b,us,rfl,sb,rb⟩⟩
 ·show .inl ⟨φ,h,p,q,rh,rx,ry,po⟩
variable{C:MC}{k:Nat}{X:Cx}
abbrev xQ:PV->PV->PH->Rs PV:=λx y h=>match x,y with
 |.str a,.str b=>.ok (.bl<|!decide (V.str a=V.str b)) h
 |.int a,.int b=>.ok (.bl<|!decide (V.int a=V.int b)) h
 |_,_=>.bad
def Pl:Y3 (VG .NotEq) xQ:=λc jn s σ H x y v u Q I rx ry h=>by
 let⟨φ,h,p,q,rh,rp,rq,po⟩:=h;unfold xQ at po;split at po
 ·cases rp;cases rq;let⟨t,rfl⟩:=rx;let⟨t',rfl⟩:=ry;show ne_str<|oC I (P_ rfl)<|congrArg not Jc
 ·cases rp;cases rq;let⟨t,rfl⟩:=rx;let⟨t',rfl⟩:=ry;show ne_int<|oC I (P_ rfl)<|congrArg not Jb
 ·show po.elim
open PySem
@[irreducible]def Rs.W{α:Type}(r:Rs α)(Q:α->PH->Prop):Prop:=match r with
 |.ok a h=>Q a h
 |_=>False
structure FE where
 nx:Ev->PH->Prop
 rt:PV->PH->Prop
 bk:Ev->PH->Prop:=λ_ _=>False
 ct:Ev->PH->Prop:=λ_ _=>False
@[irreducible]def Fl.W(r:Fl)(E:FE):Prop:=match r with
 |.nx δ h=>E.nx δ h
 |.rt p h=>E.rt p h
 |.bk δ h=>E.bk δ h
 |.ct δ h=>E.ct δ h
 |_=>False
@[irreducible]def Lt(b:Ms)(E:FE)(δ:Ev)(h:PH):Prop:=(b δ h).W E
variable{ys:Y6 0}{h1:PH}{args:Y6 0}
section
unseal Rs.W Fl.W Lt
variable{α β:Type}{Q:α->PH->Prop}{E:FE}
@[simp]theorem Ah{a:α}:(Rs.ok a h).W Q=Q a h:=(rfl)
@[simp]theorem Rb:(Fl.nx δ h).W E=E.nx δ h:=(rfl)
@[simp]theorem RD:(Fl.rt p h).W E=E.rt p h:=(rfl)
@[simp]theorem CZ{Q:β->PH->Prop}{r:Rs α}{f:α->PH->Rs β}:(r.bind f).W Q=r.W λa h=>(f a h).W Q:=by cases r <;> rfl
@[simp]theorem D0{r:Rs α}{f:α->PH->Fl}:(r.fl f).W E=r.W λa h=>(f a h).W E:=by cases r <;> rfl
def D1{Q':α->PH->Prop}{r:Rs α}(h:r.W Q)(i:∀a h,Q a h->Q' a h):r.W Q':=by cases r <;> first|exact i _ _ h|exact h
@[simp]theorem Rx{c:Prop}[Decidable c]{x y:Rs α}:(if c then x else y).W Q=if c then x.W Q else y.W Q:=by split <;> rfl
@[simp]theorem Ry:(Rs.bad:Rs α).W Q=False:=(rfl)
@[simp]theorem Rc:Fl.bad.W E=False:=(rfl)
def dY{r:Rs α}(w:r.W Q):∃a h,r=.ok a h/\Q a h:=by
 cases r with
 |ok a h=>exact⟨a,h,rfl,w⟩
 |exc=>exact w.elim
 |bad=>exact w.elim
variable{a b:Ms}{t ta tb:Ev->PH->ZG 0}{g g':PV->PV->PH->Rs PV}
def aD:(aG a b δ h).W E=(a δ h).W { E with nx:=Lt b E}:=by
 change(match a δ h with|.nx δ1 h1=>b δ1 h1|r=>r).W E=_
 cases a δ h <;> rfl
def now{b:Ms}(w:(b δ h).W E):Lt b E δ h:=w
@[simp]theorem Rz:(cG δ h).W E=E.nx δ h:=(rfl)
@[simp]theorem RA:(JN δ h).W E=E.ct δ h:=(rfl)
@[simp]theorem Pm:(aP i m δ h).W E=(m δ h).W λp h=>E.nx (δ.set i<|a_ p) h:=by simp[aP]
@[simp]theorem RB{t:Mg}:(rF m t δ h).W E=(m δ h).W λp h=>∃δ',t p δ=a_ δ'/\E.nx δ' h:=by
 unfold rF;cases m δ h with
 |ok p h1=>
  change(match t p δ with|some δ'=>Fl.nx δ' h1|none=>.bad).W E=∃δ',t p δ=a_ δ'/\E.nx δ' h1
  cases t p δ <;> simp[Fl.W]
 |exc=>rfl
 |bad=>rfl
@[simp]theorem Lf:(lI m δ h).W E=(m δ h).W λ_ h=>E.nx δ h:=by simp[lI]
@[simp]theorem Hk:(aV m δ h).W E=(m δ h).W E.rt:=by simp[aV]
@[simp]theorem bI:(cA t a b δ h).W E=(t δ h).W λc h=>if c=true then(a δ h).W E else(b δ h).W E:=by
 unfold cA;rw[D0];congr;funext c h;cases c <;> simp
@[simp]theorem Pn:mV i δ h=match Ac δ i with|some p=>.ok p h|none=>.bad:=(rfl)
@[simp]theorem Lg:mC p δ h=.ok p h:=(rfl)
@[simp]theorem JS:aB g ma mb δ h=(ma δ h).bind λx h1=>(mb δ h1).bind λy h2=>g x y h2:=(rfl)
@[simp]theorem Re{g:PV->PH->Rs PV}:mUn g ma δ h=(ma δ h).bind g:=(rfl)
@[simp]theorem Qh:aT m δ h=(m δ h).bind tru:=(rfl)
@[simp]theorem Po:vE t δ h=(t δ h).bind λb h1=>.ok (!b) h1:=(rfl)
@[simp]theorem Pp:sO ta tb δ h=(ta δ h).bind λb h1=>if b=true then tb δ h1 else .ok false h1:=by unfold sO;congr 1;funext b h1;cases b <;> simp
@[simp]theorem Qi:Fp ta tb δ h=(ta δ h).bind λb h1=>if b=true then .ok true h1 else tb δ h1:=by unfold Fp;congr 1;funext b h1;cases b <;> simp
@[simp]theorem Rf:mIf t ma mb δ h=(t δ h).bind λb h1=>if b=true then ma δ h1 else mb δ h1:=by unfold mIf;congr 1;funext b h1;cases b <;> simp
abbrev bl2(x:PV)(f g:Rs PV):Rs PV:=match x with
 |.bl true=>f
 |.bl false=>g
 |_=>.bad
@[simp]theorem Rg{b:Bool}{f g:Rs PV}:bl2 (.bl b) f g=if b=true then f else g:=by cases b <;> simp[bl2]
set_option tactic.hygienic true in
@[simp]theorem Pq:yY ma mb δ h=(ma δ h).bind λx h1=>bl2 x (mb δ h1) (.ok (.bl false) h1):=by unfold yY;first|rfl|(congr 1;funext x h1;cases x <;> first|rfl|(rename_i b;cases b <;> rfl))
set_option tactic.hygienic true in
@[simp]theorem Qj:Fo g g' ma mb mc δ h=(ma δ h).bind λx h1=>(mb δ h1).bind λy h2=>(g x y h2).bind λz h3=>bl2 z ((mc δ h3).bind λw h4=>(g' y w h4).bind Hc) (.ok (.bl false) h3):=by unfold Fo;first|rfl|(congr 1;funext x h1;congr 1;funext y h2;congr 1;funext z h3;cases z <;> first|rfl|(rename_i b;cases b <;> rfl))
@[simp]theorem Pr{b:Bool}:Hc (.bl b) h=.ok (.bl b) h:=(rfl)
@[simp]theorem Qk:aO ms δ h=(ms δ h).bind λxs h1=>if xs.length<=Ve then .ok (.tup xs) h1 else .bad:=(rfl)
@[simp]theorem Ql:gW ms δ h=(ms δ h).bind λxs h1=>if xs.length<=Ve then .ok (.ref h1.length) (h1++[.lst xs]) else .bad:=(rfl)
@[simp]theorem NU:jC δ h=.ok (.ref h.length) (h++[.dK []]):=(rfl)
@[simp]theorem JT:aC δ h=.ok [] h:=(rfl)
@[simp]theorem Hl:aA m ms δ h=(m δ h).bind λx h1=>(ms δ h1).bind λxs h2=>.ok (x::xs) h2:=(rfl)
@[simp]theorem MX{g:Y6 0->PH->Rs PV}:mCB g ms δ h=(ms δ h).bind g:=(rfl)
@[simp]theorem Pt{f:Fn}:bO n f ms δ h=(ms δ h).bind λps h1=>if ps.length=n then f ps h1 else .bad:=(rfl)
@[simp]theorem JU:jO δ h=.ok b_ h:=(rfl)
abbrev Hm(x:PV)(h:PH):Rs (Z7 0):=match x with
 |.int i=>.ok (a_ i) h
 |_=>.bad
@[simp]theorem D2{i:Int}:Hm (.int i) h=.ok (a_ i) h:=(rfl)
@[simp]theorem Pu:mP m δ h=(m δ h).bind Hm:=(rfl)
@[simp]theorem MY:mSl m ml mh δ h=(m δ h).bind λx h1=>(ml δ h1).bind λl h2=>(mh δ h2).bind λu h3=>vSl x l u h3:=(rfl)
@[simp]theorem Rh{g:PV->Y6 0->PH->Rs PV}:mMt ty g m ms δ h=(m δ h).bind λx h1=>if ty x h1=true then(ms δ h1).bind λps h2=>g x ps h2 else .bad:=(rfl)
@[simp]theorem Qm{g:PV->Y6 0->PH->Rs PV}:nU ty g m δ h=(m δ h).bind λx h1=>if ty x h1=true then g x [] h1 else .bad:=(rfl)
@[simp]theorem gY:Ve=16777216:=by rw[VQ]
def JV{i j:Int}(c:(-18446744073709551616<i/\i<18446744073709551616)\/(-18446744073709551616<j/\j<18446744073709551616)):Ad (.int i) (.int j) h=.ok (.int<|i*j) h:=by
 change(if B3 i j then _ else _)=_
 show if_pos c
@[simp]theorem Pv{i j:Int}(c:(-18446744073709551616<i/\i<18446744073709551616)\/(-18446744073709551616<j/\j<18446744073709551616)):vInt B3 (λi j=>i*j) (.int i) (.int j) h=.ok (.int<|i*j) h:=JV c
@[simp]theorem Qn{i j:Int}(c:0<j/\j<1073741824):vInt Gc (λi j=>i/j) (.int i) (.int j) h=.ok (.int<|i/j) h:=if_pos c
@[simp]theorem Qo{i j:Int}(c:0<j):vInt (λ_ j=>0<j) (λi j=>i%j) (.int i) (.int j) h=.ok (.int<|i%j) h:=if_pos c
@[simp]theorem Qp{i j:Int}(c:0<=j/\j<=1000000/\-18446744073709551616<i/\i<18446744073709551616):vInt EI (λi j=>i ^ j.toNat) (.int i) (.int j) h=.ok (.int<|i ^ j.toNat) h:=by
 change(if EI i j then _ else _)=_
 refine if_pos ⟨c.1,c.2.1,?_⟩;let⟨_,_,h1,h2⟩:=c;omega
@[simp]theorem Qq{i j:Int}:nQ (.int i) (.int j) h=.ok (.int<|i-j) h:=(rfl)
@[simp]theorem Fu{i j:Int}:aS (.int i) (.int j) h=.ok (.int<|i+j) h:=(rfl)
@[simp]theorem NV{y:Str}(c:x.length+y.length<=16777216):aS (.str x) (.str y) h=.ok (.str<|x++y) h:=if_pos c
@[simp]theorem rG(c:xs.length+ys.length<=16777216):aS (.tup xs) (.tup ys) h=.ok (.tup<|xs++ys) h:=by
 cases xs with
 |nil=>rfl
 |cons x xs=>exact if_pos ⟨rfl,c⟩
@[simp]theorem Pw{f:Int->Int->Bool}{g:B_ Nat->B_ Nat->Bool}{i j:Int}:CU f g (.int i) (.int j) h=.ok (.bl<|f i j) h:=(rfl)
@[simp]theorem Ri{b:Bool}:tru (.bl b) h=.ok b h:=(rfl)
@[simp]theorem Px:ofO (a_ p) h=.ok p h:=(rfl)
@[simp]theorem Qr{i:Int}:vIx (.tup xs) (.int i) h=ofO (atI xs i) h:=(rfl)
@[simp]theorem Rj{i:Int}:vIx (.fl xs) (.int i) h=ofO (atI xs i) h:=(rfl)
def bW{i:Int}(e:h[n]?=a_ (.lst xs)):vIx (.ref n) (.int i) h=ofO (atI xs i) h:=by simp[vIx,aM,e]
@[simp]theorem JW{z:Str}{i:Int}(c:z.length<=16777216):vIx (.str z) (.int i) h=ofO ((atI z.cps.toList i).map λc=>.str ⟨#[c]⟩) h:=if_pos c
@[simp]theorem Qs:lW [.fl xs] h=.ok (.int xs.length) h:=(rfl)
@[simp]theorem Py(c:x.length<=16777216):lW [.str x] h=.ok (.int x.length) h:=if_pos c
def vK(e:h[n]?=a_ (.lst xs)):lW [.ref n] h=.ok (.int xs.length) h:=by simp[lW,aM,e]
@[simp]theorem Qt{i j:Int}:Bo [.int i,.int j] h=.ok (.int<|if j>i then j else i) h:=(rfl)
@[simp]theorem Bp{i:Str}{c:String}:vJ [.str i,.ty c] h=if c∈known then .ok (.bl<|vI "str" c) h else .bad:=(rfl)
@[simp]theorem Bq{i:Y6 0}{c:String}:vJ [.tup i,.ty c] h=if c∈known then .ok (.bl<|vI "tuple" c) h else .bad:=(rfl)
def gZ(e:h[n]?=a_ (.lst xs)):isL (.ref n) h=true:=by simp[isL,bV,e]
def dQ(e:h[n]?=a_ (.lst xs))(c:xs.length<16777216):onL cI (.ref n) [p] h=.ok .non (ZO<|.lst<|xs++[p]):=by simp[onL,bV,e,cI,c]
def JX{α:Type}{xs:B_ α}{i:Int}(h0:0<=i)(h1:i<xs.length):atI xs i=xs[i.toNat]?:=by unfold atI ixN;rw[if_pos h0,if_pos h1];rfl
def rH{g:PH->Bool}{tg:Mg}{body:Ms}{E:FE}(I:Nat->Ev->PH->Prop):∀(xs:Y6 0)(k:Nat)(δ:Ev)(h:PH),I k δ h->
  (∀i x δ h,k<=i->xs[i-k]?=a_ x->I i δ h->g h=true/\∃δ1,tg x δ=a_ δ1/\(body δ1 h).W { nx:=I<|i+1,ct:=I<|i+1,rt:=E.rt,bk:=E.nx})->
  (∀δ h,I (k+xs.length) δ h->g h=true/\E.nx δ h)->(iI g tg body xs δ h).W E
 |[],k,δ,h,i0,_,fin=>by let⟨h1,h2⟩:=fin δ h i0;simp[iI,h1,h2]
 |x::xs,k,δ,h,i0,step,fin=>by
  let⟨h1,δ1,h2,h3⟩:=step k x δ h (U6 _) (by simp) i0;let go:∀δ2 h2,I (k+1) δ2 h2->(iI g tg body xs δ2 h2).W E:=λδ2 h2 i2=>
   rH I xs (k+1) δ2 h2 i2 (λi y δ h hk hy=>step i y δ h ⋯ (by
    have:i-k=(i-(k+1))+1:=⋯;rw[this,Wq];show hy)) (λδ h hi=>fin δ h (by
    let e:k+(x::xs).length=k+1+xs.length:=by simp;omega
    rw[e];show hi))
  unfold iI;rw[if_pos h1,h2]
  change Fl.W (match body δ1 h with|.nx δ2 h2=>iI g tg body xs δ2 h2|.ct δ2 h2=>iI g tg body xs δ2 h2|.bk δ2 h2=>.nx δ2 h2|r=>r) E
  cases e:body δ1 h with
  |nx δ2 h2=>rw[e]at h3;show go δ2 h2 h3
  |ct δ2 h2=>rw[e]at h3;show go δ2 h2 h3
  |bk δ2 h2=>rw[e]at h3;show h3
  |rt p h2=>rw[e]at h3;show h3
  |exc=>rw[e]at h3;show h3
  |bad=>rw[e]at h3;show h3
def Hn{body:Ms}{j:Int}(I:Nat->Ev->PH->Prop)(e:ms δ h=.ok [.int j] h)(hj:-4611686018427387904<=j/\j<4611686018427387904)(h0:I 0 δ h)(step:∀(q:Nat) δ h,(q:Int)<j->I q δ h->(body (δ.set i<|d_ q) h).W { nx:=I<|q+1,ct:=I<|q+1,rt:=E.rt,bk:=E.nx})(fin:∀δ h,I j.toNat δ h->E.nx δ h):(eX (lX ms) (gN i) body δ h).W E:=by
 unfold eX lX;rw[e];let j9:-(2 ^ 62)<=j/\j<2 ^ 62:=hj;simp only[Rs.bind_ok,E2,if_pos j9,Rs.fl_ok];refine rH I _ 0 δ h h0 (λq x δ h _ hx hi=>?_) (λδ h hi=>⟨rfl,fin δ h (by rw[cU,Nat.zero_add]at hi;show hi)⟩);let hq:q<j.toNat:=by have:=(SC.mp hx).1;rw[cU]at this;omega
 rw[Nat.sub_zero,qB _ _ _ hq]at hx;cases hx
 refine⟨rfl,_,rfl,?_⟩;rw[Int.zero_add];show step q δ h ⋯ hi
def MZ{body:Ms}{lo j:Int}(I:Nat->Ev->PH->Prop)(e:ms δ h=.ok [.int lo,.int j] h)(hj:-4611686018427387904<=lo/\lo<4611686018427387904/\-4611686018427387904<=j/\j<4611686018427387904)(h0:I 0 δ h)(step:∀(q:Nat) δ h,lo+(q:Int)<j->I q δ h->(body (δ.set i<|d_<|lo+q) h).W { nx:=I<|q+1,ct:=I<|q+1,rt:=E.rt,bk:=E.nx})(fin:∀δ h,I (j-lo).toNat δ h->E.nx δ h):(eX (vG ms) (gN i) body δ h).W E:=by
 unfold eX vG;rw[e];let j9:-(2 ^ 62)<=lo/\lo<2 ^ 62/\-(2 ^ 62)<=j/\j<2 ^ 62:=hj;simp only[Rs.bind_ok,He,if_pos j9,Rs.fl_ok];refine rH I _ 0 δ h h0 (λq x δ h _ hx hi=>?_) (λδ h hi=>⟨rfl,fin δ h (by rw[cU,Nat.zero_add]at hi;show hi)⟩);let hq:q<(j-lo).toNat:=by have:=(SC.mp hx).1;rw[cU]at this;omega
 rw[Nat.sub_zero,qB _ _ _ hq]at hx;cases hx
 show⟨rfl,_,rfl,step q δ h ⋯ hi⟩
def N1{tg:Mg}{body:Ms}(I:Nat->Ev->PH->Prop)(e:m δ h=.ok (.tup xs) h\/m δ h=.ok (.fl xs) h)(h0:I 0 δ h)(step:∀(q:Nat) x δ h,xs[q]?=a_ x->I q δ h->∃δ1,tg x δ=a_ δ1/\(body δ1 h).W { nx:=I<|q+1,ct:=I<|q+1,rt:=E.rt,bk:=E.nx})(fin:∀δ h,I xs.length δ h->E.nx δ h):(eX (bF m) tg body δ h).W E:=by
 let go:(iI (λ_=>true) tg body xs δ h).W E:=rH I _ 0 δ h h0 (λq x δ h _ hx hi=>⟨rfl,step q x δ h (l_ hx) hi⟩)<|λδ h hi=>⟨rfl,fin δ h<|l_ hi⟩;unfold eX bF;rcases e with e|e <;> rw[e] <;> exact go
def lY{tg:Mg}{body:Ms}(I:Nat->Ev->PH->Prop)(e:m δ h=.ok (.ref n) h1)(hn:h1[n]?=a_ (.lst xs))(h0:I 0 δ h1)(keep:∀q δ h,q<=xs.length->I q δ h->h[n]?=a_ (.lst xs))(step:∀(q:Nat) x δ h,xs[q]?=a_ x->I q δ h->∃δ1,tg x δ=a_ δ1/\(body δ1 h).W { nx:=I<|q+1,ct:=I<|q+1,rt:=E.rt,bk:=E.nx})(fin:∀δ h,I xs.length δ h->E.nx δ h):(eX (bF m) tg body δ h).W E:=by
 let hk:∀{h:PH},h[n]?=a_ (.lst xs)->tL n xs h=true:=λ{h} e=>by
  let e3:aM h n=a_ xs:=by unfold aM;rw[e]
  unfold tL;rw[e3];show PV.beqs_self xs
 unfold eX bF;rw[e];let e2:ofSeq (.ref n) h1=.ok ⟨xs,tL n xs⟩ h1:=by
  let e3:aM h1 n=a_ xs:=by unfold aM;rw[hn]
  unfold ofSeq;simp only[e3]
 rw[Rs.bind_ok,e2,Rs.fl_ok];refine rH I _ 0 δ h1 h0 (λq x δ h _ hx hi=>?_)<|λδ h hi=>?_
 ·let de:xs[q]?=a_ x:=by simpa using hx
  have:=(SC.mp de).1;show⟨hk<|keep q δ h ⋯ hi,step q x δ h de hi⟩
 ·let ak:I xs.length δ h:=by simpa using hi
  show⟨hk<|keep _ δ h (U6 _) ak,fin δ h ak⟩
def bA{N:Nat}{body:Ms}{Q:PV->PH->Prop}(w:(body (args.map a_++XD (N-args.length) b_) h).W { nx:=λ_ h=>Q .non h,rt:=Q}):(mFn N body args h).W Q:=by
 unfold mFn;cases e:body (args.map a_++XD (N-args.length) b_) h with
 |nx δ h'=>rw[e]at w;show w
 |rt p h'=>rw[e]at w;show w
 |_=>rw[e]at w;show w.elim
@[simp]theorem RC:gN i p δ=a_ (δ.set i<|a_ p):=(rfl)
@[simp]theorem Rk{u:Mgs}{ps:Y6 0}:gTp n u (.tup ps) δ=if ps.length=n then u ps δ else b_:=(rfl)
@[simp]theorem Rl{t:Mg}{u:Mgs}{r:Y6 0}:gCn t u (p::r) δ=(t p δ).bind (u r):=(rfl)
@[simp]theorem Rm:gNl [] δ=a_ δ:=(rfl)
end
abbrev Ext(h h':PH):Prop:=∀(n:Nat)(o:MO),h[n]?=a_ o->h'[n]?=a_ o
def Ext.refl(h:PH):O_ h:=λ_ _ e=>e
variable{h2:PH}
def Ext.trans(a:O_ h1)(b:Ext h1 h2):O_ h2:=λn o e=>b n o<|a n o e
def Ext.app(h g:PH):O_ (h++g):=λn o e=>by rw[VT (SC.mp e).1];show e
def Ext.len{h':PH}(e:O_ h'):h.length<=h'.length:=by
 rcases Nat.lt_or_ge h'.length h.length with z|z
 ·have:h[h'.length]?=a_ h[h'.length]:=by simp[z]
  have:=(SC.mp<|e _ _ this).1;omega
 ·show z
def aE:(h++[o])[h.length]?=a_ o:=by simp
variable{o':MO}
def aW(e:h[n]?=a_ o):(ZO o')[n]?=a_ o':=VZ (SC.mp e).1
def aL{m:Nat}(e:h[m]?=a_ o)(d:n≠m):(ZO o')[m]?=a_ o:=by rw[VH d];show e
abbrev PV.pl:Nat->PV->Bool
 |_,.non=>true
 |_,.int _=>true
 |_,.str _=>true
 |n+1,.tup xs=>xs.all (PV.pl n)
 |_,_=>false
def JY{x:PV}{d:D}{ds:B_ D}(h1:x.d=a_ d)(h2:PV.ds xs=a_ ds):PV.ds (x::xs)=a_ (d::ds):=by simp[PV.ds,h1,h2]
def Pz{ds:B_ D}(h:PV.ds xs=a_ ds):(PV.tup xs).d=a_ (.tup ds):=by simp[PV.d,h]
set_option tactic.hygienic true in
def fB{d:D}(h:(PV.tup xs).d=a_ d):∃ds,PV.ds xs=a_ ds/\d=.tup ds:=by
 unfold PV.d at h;split at h
 ·rename_i ds e;cases h;show⟨ds,e,rfl⟩
 ·cases h
set_option tactic.hygienic true in
def lZ{x:PV}{ds:B_ D}(h:PV.ds (x::xs)=a_ ds):∃d r,x.d=a_ d/\PV.ds xs=a_ r/\ds=d::r:=by
 unfold PV.ds at h;split at h
 ·rename_i d r e1 e2;cases h;show⟨d,r,e1,e2,rfl⟩
 ·cases h
def Ai:∀(n:Nat)(x:PV),x.pl n=true->∃d,x.d=a_ d/\d.depth<=n:=by
 intro n
 induction n with
 |zero=>intro x h;cases x <;> first|exact⟨_,rfl,U6 _⟩|(simp[PV.pl]at h)
 |succ n ih=>
  intro x h;cases x with
  |tup xs=>
   let h:xs.all (PV.pl n)=true:=h;let many:∀(xs:Y6 0),xs.all (PV.pl n)=true->∃ds,PV.ds xs=a_ ds/\Y0 0<=n:=by
    intro xs
    induction xs with
    |nil=>intro _;show⟨[],rfl,Vw _⟩
    |cons x xs ihx=>
     intro h;simp only[Yq,VE]at h;let⟨d,h1,h2⟩:=ih x h.1;let⟨ds,h3,h4⟩:=ihx h.2;refine⟨d::ds,JY h1 h3,?_⟩
     change max d.depth (Y0 0)<=n
     omega
   let⟨ds,h1,h2⟩:=many xs h;refine⟨.tup ds,Pz h1,?_⟩
   change Y0 0+1<=n+1
   omega
  |_=>first|exact⟨_,rfl,Vw _⟩|(simp[PV.pl]at h)
def Lh:∀(n:Nat)(x y:PV)(d e:D),x.pl n=true->y.pl n=true->x.d=a_ d->y.d=a_ e->eqD d e=decide (x=y):=by
 intro n
 induction n with
 |zero=>
  intro x y d e hx hy h1 h2;cases x <;> first|(simp[PV.pl]at hx;done)|skip
  all_goals cases h1
  all_goals cases y <;> first|(simp[PV.pl]at hy;done)|skip
  all_goals cases h2
  all_goals simp only[eqD]
  all_goals rw[W4]
  all_goals simp
 |succ n ih=>
  intro x y d e hx hy h1 h2;let lists:∀(xs ys:Y6 0)(ds es:B_ D),xs.all (PV.pl n)=true->ys.all (PV.pl n)=true->PV.ds xs=a_ ds->PV.ds ys=a_ es->gO ds es=decide (xs=ys):=by
   intro xs
   induction xs with
   |nil=>
    intro ys ds es _ _ h1 h2;cases h1
    cases ys with
    |nil=>cases h2;rfl
    |cons y ys=>let⟨d,r,_,_,rfl⟩:=lZ h2;simp[gO]
   |cons x xs ihx=>
    intro ys ds es hx hy h1 h2;let⟨d,r,g1,g2,rfl⟩:=lZ h1;simp only[Yq,VE]at hx;cases ys with
    |nil=>cases h2;simp[gO]
    |cons y ys=>let⟨e,q,g3,g4,rfl⟩:=lZ h2;simp only[Yq,VE]at hy;simp only[gO,ih x y d e hx.1 hy.1 g1 g3,ihx ys r q hx.2 hy.2 g2 g4];rw[W4];simp
  cases x with
  |tup xs=>
   let⟨ds,g1,rfl⟩:=fB h1;cases y with
   |tup ys=>let⟨es,g2,rfl⟩:=fB h2;simp only[eqD,lists xs ys ds es hx hy g1 g2];rw[W4];simp
   |non=>cases h2;simp[eqD]
   |int j=>cases h2;simp[eqD]
   |str j=>cases h2;simp[eqD]
   |_=>simp[PV.pl]at hy
  |non=>
   cases h1
   cases y with
   |tup ys=>let⟨es,g2,rfl⟩:=fB h2;simp[eqD]
   |non=>cases h2;simp[eqD]
   |int j=>cases h2;simp[eqD]
   |str j=>cases h2;simp[eqD]
   |_=>simp[PV.pl]at hy
  |int i=>
   cases h1
   cases y with
   |tup ys=>let⟨es,g2,rfl⟩:=fB h2;simp[eqD]
   |non=>cases h2;simp[eqD]
   |int j=>cases h2;simp only[eqD];rw[W4];simp
   |str j=>cases h2;simp[eqD]
   |_=>simp[PV.pl]at hy
  |str i=>
   cases h1
   cases y with
   |tup ys=>let⟨es,g2,rfl⟩:=fB h2;simp[eqD]
   |non=>cases h2;simp[eqD]
   |int j=>cases h2;simp[eqD]
   |str j=>cases h2;simp only[eqD];rw[W4];simp
   |_=>simp[PV.pl]at hy
  |_=>simp[PV.pl]at hx
def Aj{x:PV}{y:PV}(hx:x.pl 40=true)(hy:y.pl 40=true):iH x y h=a_ (decide (x=y)):=by let⟨d,h1,h2⟩:=Ai 40 x hx;let⟨e,h3,h4⟩:=Ai 40 y hy;unfold iH;rw[h1,h3];simp only[h2,if_true,Lh 40 x y d e hx hy h1 h3]
def Ak{x:PV}{y:PV}(hx:x.pl 40=true)(hy:y.pl 40=true):vEq x y h=.ok (.bl<|decide (x=y)) h:=by unfold vEq;rw[Aj hx hy];rfl
@[simp]theorem Qu{i j:Int}:vEq (.int i) (.int j) h=.ok (.bl<|decide (i=j)) h:=by rw[Ak rfl rfl];congr 2;simp
@[simp]theorem Qv{i j:Str}:vEq (.str i) (.str j) h=.ok (.bl<|decide (i=j)) h:=by rw[Ak rfl rfl];congr 2;simp
def Br{m:Nat}(e1:h[n]?=a_ (.lst xs))(e2:h[m]?=a_ (.lst ys))(hx:xs.all (PV.pl 39)=true)(hy:ys.all (PV.pl 39)=true):iH (.ref n) (.ref m) h=a_ (decide (xs=ys)):=by
 let e3:dI (.ref n) h=a_ xs:=by unfold dI aM;simp only[e1]
 let e4:dI (.ref m) h=a_ ys:=by unfold dI aM;simp only[e2]
 let de:(PV.tup xs).pl 40=true:=hx;let jk:(PV.tup ys).pl 40=true:=hy;let⟨d,h1,h2⟩:=Ai 40 _ de;let⟨e,h3,h4⟩:=Ai 40 _ jk;let⟨ds,g1,rfl⟩:=fB h1;let⟨es,g2,rfl⟩:=fB h3;let h5:=Lh 40 _ _ _ _ de jk h1 h3;let fj:Y0 0+1<=40:=h2;let Ud:gO ds es=decide (xs=ys):=by have:gO ds es=decide (PV.tup xs=PV.tup ys):=h5;rw[this,W4];simp
 unfold iH;let n1:(PV.ref n).d=b_:=rfl;rw[n1];simp only[e3,e4,g1,g2,show Y0 0<=40 by omega,if_true,Ud]
section
variable{α:Type}{a b c d e f g:α}{r:B_ α}
def Al{xs:B_ α}{v:α}(i:Nat)(h:xs[i]?=a_ v):atI xs (i:Int)=a_ v:=kE h
@[simp]theorem RF:atI (a::r) 0=a_ a:=Al 0 rfl
@[simp]theorem RG:atI (a::b::r) 1=a_ b:=Al 1 rfl
@[simp]theorem RI:atI (a::b::c::r) 2=a_ c:=Al 2 rfl
def JZ{xs:B_ α}{i:Int}(h:xs≠[]):∃v,atI xs (i%(xs.length:Int))=a_ v/\v∈xs:=by let h0:0<xs.length:=List.length_pos_iff.mpr h;let⟨v,h1,h2⟩:=Mm (xs:=xs) (i:=i%(xs.length:Int)) (YM _ ⋯)<|Int.emod_lt_of_pos _ ⋯;show⟨v,h1,VI h2⟩
end
variable{C:MC}{k:Nat}{X:Cx}
def Fv:Y5 X->cO X (.builtin "sum") (λxs H Q=>∃(p:t_)(ns:Z9 0),xs=[.ref p]/\SqL C.K H p (ZS 0)/\Q (.int ns.sum) H):=λc=>by
 intro jn s σ H xs us Q I r h;let⟨p,ns,rfl,hq,q⟩:=h;let⟨u,rfl,ru⟩:=vals1 r;cases ru
 rw[<-c.K]at hq;let⟨its,rv,pl,hz⟩:=I.list hq;let hi:IntsAre its ns:=intsAre_of rv;let⟨ys,hy⟩:=hi.allInts.items;let hl:=pl.isList;rw[hy]at hl;refine sum_intListG (I.ok.hd c.calm) hl λh' tk t' hk=>?_;let e:preSum (numAt ys) ys.size=ns.sum:=by let e1:=preSum_eq ys ys.size;rw[Xq<|by simp]at e1;rw[e1,<-nums_intItems,<-hy];have:=hi.numsOf;rw[show its.toArray.toList=its from rfl,this]
 rw[e];show⟨.int ns.sum,H,I.kept hk,⟨_,rfl⟩,q⟩
abbrev vL:Y6 0->C_ (Z9 0)
 |[]=>a_ []
 |.int i::r=>(vL r).map (i::·)
 |_::_=>b_
def Am{φ:B_ t_}{H:Hp}:∀{xs:Y6 0}{vs:B_ V}{ns:Z9 0},ZV 0->vL xs=a_ ns->vs=ZS 0
 |[],[],_,_,e=>by cases e;rfl
 |x::xs,v::vs,ns,⟨h,r⟩,e=>by
  cases x with
  |int i=>
   cases h
   simp only[vL,Vr]at e;let⟨m,e,rfl⟩:=e;rw[Am r e];rfl
  |_=>cases e
 |[],_::_,_,h,_=>h.elim
 |_::_,[],_,h,_=>h.elim
def zA(ns:Z9 0):vL (Zw 0)=a_ ns:=by
 induction ns with
 |nil=>rfl
 |cons n ns ih=>simp[vL,ih]
abbrev Fw:Y6 0->PH->Rs PV:=λxs h=>match xs with
 |[x]=>match dI x h with
  |some ys=>match vL ys with
   |some ns=>.ok (.int ns.sum) h
   |none=>.bad
  |none=>.bad
 |_=>.bad
set_option tactic.hygienic true in
def PB:lQ C k X (.builtin "sum") Fw:=λc=>(Fv c).imp λvs H Q h=>by
 let⟨φ,h,ps,rh,rv,po⟩:=h;unfold Fw at po;split at po
 ·let⟨v,rfl,rx⟩:=rv.one;split at po
  ·rename_i ys e;split at po
   ·rename_i ns en;let⟨a,vs,rfl,sa,ra⟩:=fQ rh rx e;rw[Am ra en]at sa;show⟨a,ns,rfl,sa,P_ rfl⟩
   ·show po.elim
  ·show po.elim
 ·show po.elim
def Ho(e:h[n]?=a_ (.lst<|Zw 0)):Fw [.ref n] h=.ok (.int ns.sum) h:=by
 let e1:dI (.ref n) h=a_ (Zw 0):=by unfold dI aM;simp only[e]
 unfold Fw;simp only[e1,zA]
open PySem
@[simp]theorem Qw{z:Str}(c:z.length<=16777216):vSl (.str z) lo hi h=.ok (.str<|WI z lo hi) h:=if_pos c
@[simp]theorem K0:vSl (.tup xs) lo hi h=.ok (.tup<|eE xs lo hi) h:=(rfl)
@[simp]theorem Rn:vSl (.fl xs) lo hi h=.ok (.ref h.length) (h++[.lst<|eE xs lo hi]):=(rfl)
def tV(e:h[n]?=a_ (.lst xs)):vSl (.ref n) lo hi h=.ok (.ref h.length) (h++[.lst<|eE xs lo hi]):=by
 let e3:aM h n=a_ xs:=by unfold aM;rw[e]
 unfold vSl;simp only[e3]
@[simp]theorem N2{x:PV}:lV x .non h=.ok (.bl<|!rE x) h:=(rfl)
def E5{α β:Type}{f:α->β}{xs:B_ α}:eE (xs.map f) lo hi=(eE xs lo hi).map f:=by unfold eE;rw[U5,Yc,List.map_drop]
section
variable{tg:Mg}{g:PH->Bool}
def An{δ0:Ev}{Q:PV->PH->Prop}(I:Nat->PH->Prop):∀(xs:Y6 0)(k:Nat)(h:PH),I k h->
  (∀i x h,k<=i->xs[i-k]?=a_ x->I i h->g h=true/\∃δ1,tg x δ0=a_ δ1/\(tst δ1 h).W λb h'=>if b=true then(elt δ1 h').W λp ko=>∃ys,ko[n]?=a_ (.lst ys)/\ys.length<16777216/\I (i+1) (ko.set n<|.lst<|ys++[p]) else I (i+1) h')->
  (∀h,I (k+xs.length) h->g h=true/\Q (.ref n) h)->(lF g tg tst elt δ0 n xs h).W Q
 |[],k,h,i0,_,fin=>by let⟨h1,h2⟩:=fin h i0;simp[lF,h1,h2]
 |x::xs,k,h,i0,step,fin=>by
  let⟨h1,δ1,h2,h3⟩:=step k x h (U6 _) (by simp) i0;let go:∀h2,I (k+1) h2->(lF g tg tst elt δ0 n xs h2).W Q:=λh2 i2=>
   An I xs (k+1) h2 i2 (λi y h hk hy=>step i y h ⋯ (by
    have:i-k=(i-(k+1))+1:=⋯;rw[this,Wq];show hy)) (λh hi=>fin h (by
    let e:k+(x::xs).length=k+1+xs.length:=by simp;omega
    rw[e];show hi))
  unfold lF;rw[if_pos h1,h2]
  change(Rs.bind (tst δ1 h) _).W Q
  rw[CZ];refine D1 h3 λb h' hb=>?_;cases b with
  |false=>exact go h'<|l_ hb
  |true=>
   change(Rs.bind (elt δ1 h') _).W Q
   rw[CZ];refine D1 (show(elt δ1 h').W _ from by simpa using hb) λp ko hp=>?_
   let⟨ys,e,hz,hi⟩:=hp;let e':bV ko n=a_ ys:=by unfold bV;rw[e]
   simp[e',hz];show go _ hi
def jQ{α:Type}{ys:B_ α}{emb:α->PV}(f:α->C_ PV)(e:mi δ h=.ok ⟨ys.map emb,g⟩ h1)(hg:∀h,Ext h1 h->g h=true)(hz:ys.length<=16777216)(step:∀y∈ys,∃δ1,tg (emb y) (dB js δ)=a_ δ1/\∀h,Ext h1 h->match f y with
   |none=>tst δ1 h=.ok false h
   |some p=>tst δ1 h=.ok true h/\elt δ1 h=.ok p h):bG js mi tg tst elt δ h=.ok (.ref h1.length) (h1++[.lst (ys.filterMap f)]):=by
 let w:(bG js mi tg tst elt δ h).W λp h'=>p=.ref h1.length/\h'=h1++[.lst<|ys.filterMap f]:=by
  unfold bG;rw[e,Rs.bind_ok];refine An (λi h'=>h'=h1++[.lst<|(ys.take i).filterMap f]) (ys.map emb) 0 _ (by simp) (λi x h' _ hx hi=>?_)<|λh' hi=>?_
  ·subst hi;let hx:(ys.map emb)[i]?=a_ x:=by simpa using hx
   rw[Vk]at hx;let⟨y,hy,rfl⟩:=Vr.mp hx;let qh:=(SC.mp hy).1;let⟨δ1,ht,hs⟩:=step y<|VI hy;let hs:=hs (h1++[.lst<|(ys.take i).filterMap f])<|F_ _;let htk:ys.take (i+1)=ys.take i++[y]:=by rw[WX,hy];rfl
   refine⟨hg _<|F_ _,δ1,ht,?_⟩;cases ef:f y with
   |none=>rw[ef]at hs;rw[hs];simp[htk,ef]
   |some p=>rw[ef]at hs;rw[hs.1];simp[hs.2];refine⟨?_,by simp[htk,ef]⟩;have:=List.length_filterMap_le f<|ys.take i;rw[V7]at this;omega
  ·subst hi;simp;show hg _<|F_ _
 let⟨p,h',e,rfl,rfl⟩:=dY w;show e
def Bs(e:m δ h=.ok (.ref n) h1)(hn:h1[n]?=a_ (.lst xs)):bF m δ h=.ok ⟨xs,tL n xs⟩ h1:=by
 unfold bF;let e3:aM h1 n=a_ xs:=by unfold aM;rw[hn]
 rw[e,Rs.bind_ok];unfold ofSeq;simp only[e3]
def Bt(hn:h1[n]?=a_ (.lst xs)):∀h,Ext h1 h->tL n xs h=true:=λh hx=>by
 let e3:aM h n=a_ xs:=by unfold aM;rw[hx _ _ hn]
 unfold tL;rw[e3];show PV.beqs_self xs
def Hq(e:m δ h=.ok (.tup xs) h1):bF m δ h=.ok ⟨xs,λ_=>true⟩ h1:=by unfold bF;rw[e];rfl
def eI{α:Type}{ys:B_ α}{emb:α->PV}(f:α->C_ PV)(e:m δ h=.ok (.ref n) h1)(hn:h1[n]?=a_ (.lst (ys.map emb)))(hz:ys.length<=16777216)(step:∀y∈ys,∃δ1,tg (emb y) (dB js δ)=a_ δ1/\∀h,Ext h1 h->match f y with
   |none=>tst δ1 h=.ok false h
   |some p=>tst δ1 h=.ok true h/\elt δ1 h=.ok p h):bG js (bF m) tg tst elt δ h=.ok (.ref h1.length) (h1++[.lst (ys.filterMap f)]):=
 jQ f (Bs e hn) (Bt hn) hz step
def Fx{α:Type}{ys:B_ α}{emb:α->PV}(f:α->C_ PV)(e:m δ h=.ok (.tup (ys.map emb)) h1)(hz:ys.length<=16777216)(step:∀y∈ys,∃δ1,tg (emb y) (dB js δ)=a_ δ1/\∀h,Ext h1 h->match f y with
   |none=>tst δ1 h=.ok false h
   |some p=>tst δ1 h=.ok true h/\elt δ1 h=.ok p h):bG js (bF m) tg tst elt δ h=.ok (.ref h1.length) (h1++[.lst (ys.filterMap f)]):=
 jQ f (Hq e) (λ_ _=>rfl) hz step
def Bu(lo:Int):∀n,upTo lo n=(Vm n).map (λ(i:Nat)=>PV.int<|lo+(i:Int))
 |0=>rfl
 |n+1=>by
  rw[upTo,Bu (lo+1) n,Yg,Vi,VJ];congr 1
  ·simp
  ·apply WC;intro a _;simp only[YO];congr 1;omega
def Bv{j:Int}(f:Nat->C_ PV)(e:ms δ h=.ok [.int j] h1)(hj:-4611686018427387904<=j/\j<16777216)(step:∀i:Nat,(i:Int)<j->∃δ1,tg (.int i) (dB js δ)=a_ δ1/\∀h,Ext h1 h->match f i with
   |none=>tst δ1 h=.ok false h
   |some p=>tst δ1 h=.ok true h/\elt δ1 h=.ok p h):bG js (lX ms) tg tst elt δ h=.ok (.ref h1.length) (h1++[.lst ((Vm j.toNat).filterMap f)]):=by
 refine jQ (emb:=λi:Nat=>.int<|(0:Int)+i) (g:=λ_=>true) f ?_ (λ_ _=>rfl) (by simp;omega)<|λi hi=>?_
 ·unfold lX;rw[e];let j9:-(2 ^ 62)<=j/\j<2 ^ 62:=⟨hj.1,⋯⟩;simp only[Rs.bind_ok,E2,if_pos j9];rw[Bu]
 ·let ak:=Xh.mp hi;rw[Int.zero_add];show step i ⋯
def filterMap_some{α β:Type}(f:α->β)(xs:B_ α):xs.filterMap (λx=>a_<|f x)=xs.map f:=by
 induction xs with
 |nil=>rfl
 |cons x xs ih=>simp[ih]
end
variable{kvs:B_ (PV×PV)}{ks:B_ (PV×t_×V)}
section
variable{σ:St}
mutual
theorem Hr(I:P1 s)(hK:X.K=C.K):∀(n:Nat){p:PV}{v:V}{u:s_},p.ky n=true->D_ p v->ZJ u->HR s.heap p u
 |_,.int i,v,u,_,r,ru=>by cases r;show ru
 |_,.str i,v,u,_,r,ru=>by cases r;show ru
 |n+1,.tup ps,v,u,hk,r,ru=>by
  let⟨a,vs,rfl,q,rs⟩:=r;cases ru
  rw[<-hK]at q;let⟨its,rv,p,_⟩:=I.tuple q;show⟨a,its,rfl,p,Ao I hK n (Vy.mp hk) rs rv⟩
 |0,.tup _,_,_,hk,_,_=>by cases hk
 |n,.non,_,_,hk,_,_=>by cases n <;> cases hk
 |n,.bl _,_,_,hk,_,_=>by cases n <;> cases hk
 |n,.ref _,_,_,hk,_,_=>by cases n <;> cases hk
 |n,.ty _,_,_,hk,_,_=>by cases n <;> cases hk
 |n,.fl _,_,_,hk,_,_=>by cases n <;> cases hk
theorem Ao(I:P1 s)(hK:X.K=C.K):∀(n:Nat){ps:Y6 0}{vs:B_ V}{us:ZQ 0},(∀p∈ps,p.ky n=true)->E_ ps vs->aJ vs us->HRs s.heap ps us
 |_,[],[],us,_,_,ru=>by cases ru;trivial
 |n,p::ps,v::vs,us,hk,r,ru=>by
  cases ru with
  |cons h t=>exact⟨Hr I hK n (hk p UV) r.1 h,Ao I hK n (λq hq=>hk q (U8 _ hq)) r.2 t⟩
 |_,[],_::_,_,_,r,_=>r.elim
 |_,_::_,[],_,_,r,_=>r.elim
end
@[reducible]def Bw:B_ (PV×t_×V)->B_ (PV×t_×s_)->Prop:=Paired λp q=>p.1=q.1/\p.2.1=q.2.1/\RelV p.2.2 q.2.2
abbrev HD(C:MC)(φ:B_ t_)(H:Hp)(X:Cx)(s:td)(a:t_)(kvs:B_ (PV×PV)):Prop:=
 ∃ks xs,q0c 0/\Bw ks xs/\xs.length<=Ve/\(a == Wi)=false/\s.heap.DictOfH (DW X.prog X.w) a xs
abbrev bB(h:PH)(n:Nat):C_ (B_<|PV×PV):=match h[n]? with
 |some (.dD kvs)=>a_ kvs
 |some (.dK [])=>a_ []
 |_=>b_
abbrev PV.isKt:PV->Bool
 |.tup xs=>(PV.tup xs).ky 6
 |_=>false
def Ap(h:p.isKt=true):p.ky 6=true:=by cases p <;> first|exact h|cases h
def tW(h:p.isKt=true)(r:D_ p v):∃b,v=.ref b:=by cases p <;> first|(let⟨b,_,e,_⟩:=r;show⟨b,e⟩)|cases h
set_option tactic.hygienic true in
def zB(I:P1 s)(hK:X.K=C.K)(hw:X.w=C.w)(rh:I_ h)(ha:φ[n]?=a_ a)(e:bB h n=a_ kvs):HD C φ H X s a kvs/\Mut (H a)/\pT (H a):=by
 unfold bB at e;split at e
 ·rename_i kv hk;cases e
  let⟨ks,hH,r⟩:=YZ hk;let hO:Zl H s.heap a (dDO C.w a ks):=I.hok a _ hH;let⟨⟨hz,hm,xs,rx,o,es,ep,h1,h2,h3,h4,h5⟩,_⟩:=hO;refine⟨⟨ks,xs,r,rx,by rw[<-VX rx];show hz,hm,o,es,ep,h1,h2,h3,?_,?_,h5⟩,by rw[hH];show Wp,by rw[hH];show Wp⟩
  ·rw[h4,<-hw];rfl
  ·let all:∀{l:B_ (PV×PV)}{m:B_ (PV×t_×V)}{z:B_ (PV×t_×s_)},RKd C φ H l m->Bw m z->∀x∈z,(DW X.prog X.w).is s.heap x.1 x.2.1:=by
    intro l m z q;unfold RKd at q
    induction q generalizing z with
    |nil=>intro rz x hx;cases rz;cases hx
    |cons hq t ih=>
     intro rz x hx;cases rz with
     |cons jj tz=>
      rcases U9.mp hx with e|hx
      ·subst e;refine⟨?_,?_⟩
       ·rw[<-jj.1,<-hq.1];show hq.2.1
       ·rw[<-jj.1,<-hq.1,<-jj.2.1];show Hr I hK 6 hq.2.1 hq.2.2.1 rfl
      ·show ih tz x hx
   show all r rx
 ·rename_i hk;cases e
  let⟨ks,hH,r⟩:=YZ hk;have:ks=[]:=by cases r;rfl
  subst this;let⟨z,hd,vs,rel,o,es,ep,h1,h2,h3,h4,h5,h6⟩:=uK I.hok hH;have:vs=[]:=by cases rel;rfl
  subst this;refine⟨⟨[],[],.nil,.nil,Vw _,hd,o,es,ep,h1,h2,h3,?_,(λx hx=>nomatch hx),List.nodup_nil⟩,by rw[hH];show Wp,by rw[hH];show Wp⟩;cases he:es.toList with
  |nil=>rfl
  |cons y ys=>rw[he]at h5;cases h5
 ·cases e
def HD.val{a:t_}{xs:B_ (PV×t_×s_)}(r:q0c 0)(rx:Bw ks xs)(k:PV):match Y2 k,(atKey xs k).map (·.2) with
  |some p,a_ u=>∃v,ZJ u/\D_ p v
  |none,b_=>True
  |_,_=>False:=by
 unfold RKd at r
 induction r generalizing xs with
 |nil=>cases rx;trivial
 | @cons p q ps qs h t ih=>
  cases rx with
  | @cons q' x qs' xs' hx tx=>
   let⟨pk,pv⟩:=p;by_cases e:pk=k
   ·let e':x.1=k:=hx.1.symm.trans<|h.1.symm.trans e;let b:atKey (x::xs') k=a_ x.2:=by simp[atKey,W5,e']
    rw[b];unfold aF;rw[Z_ 0];show⟨_,hx.2.2,h.2.2.2⟩
   ·let e':¬ x.1=k:=λz=>e<|h.1.trans<|hx.1.trans z;let b:atKey (x::xs') k=atKey xs' k:=by simp[atKey,W5,e']
    rw[b];unfold aF;rw[Zs 0];show ih tx
abbrev bM{κ:Type}[DecidableEq κ](kvs:B_ (κ×PV))(k:κ)(p:PV):B_ (κ×PV):=if(Y2 k).isSome then kvs.map (λkv=>if kv.1=k then(kv.1,p) else kv) else kvs++[(k,p)]
def HD.replace{a:t_}{xs:B_ (PV×t_×s_)}(r:q0c 0)(rx:Bw ks xs)(k:PV)(rp:D_ p v)(ru:ZJ u):
  ∃iw,RKd C φ H (kvs.map λkv=>if kv.1=k then(kv.1,p) else kv) iw/\Bw iw (xs.map<|putAt k u):=by
 unfold RKd at r
 induction r generalizing xs with
 |nil=>cases rx;show⟨[],.nil,.nil⟩
 | @cons pp q ps qs h t ih=>
  cases rx with
  | @cons q' x qs' xs' hx tx=>
   let⟨iw,r1,r2⟩:=ih tx;by_cases e:pp.1=k
   ·refine⟨(q.1,q.2.1,v)::iw,.cons ?_ r1,.cons ?_ r2⟩
    ·simp only[Z_ 0];show⟨h.1,h.2.1,h.2.2.1,rp⟩
    ·unfold putAt;rw[if_pos<|hx.1.symm.trans<|h.1.symm.trans e];show⟨hx.1,hx.2.1,ru⟩
   ·refine⟨q::iw,.cons ?_ r1,.cons ?_ r2⟩
    ·simp only[Zs 0];show h
    ·unfold putAt;rw[if_neg λz=>e<|h.1.trans<|hx.1.trans z];show hx
def HD.put{a b:t_}{xs:B_ (PV×t_×s_)}(r:q0c 0)(rx:Bw ks xs){k:PV}(hk:k.ky 6=true)(rk:D_ k (.ref b))(rp:D_ p v)(ru:ZJ u):
  ∃iw,RKd C φ H (bM kvs k p) iw/\Bw iw (storedH xs k b u):=by
 let hv:=HD.val (a:=b) r rx k;unfold bM storedH;cases e1:Y2 k with
 |some p0=>
  rw[e1]at hv;cases e2:atKey xs k with
  |none=>rw[e2]at hv;show hv.elim
  |some z=>exact HD.replace (a:=b) r rx k rp ru
 |none=>
  rw[e1]at hv;cases e2:atKey xs k with
  |some z=>rw[e2]at hv;show hv.elim
  |none=>exact⟨ks++[(k,b,v)],Paired.snoc r ⟨rfl,hk,rk,rp⟩,Paired.snoc rx ⟨rfl,rfl,ru⟩⟩
def HD.isSome{xs:B_ (PV×t_×s_)}(r:q0c 0)(rx:Bw ks xs)(k:PV):(atKey xs k).isSome=(Y2 k).isSome:=by
 let hv:=HD.val (a:=0) r rx k;cases e1:Y2 k with
 |some p0=>
  rw[e1]at hv;cases e2:atKey xs k with
  |none=>rw[e2]at hv;show hv.elim
  |some z=>rfl
 |none=>
  rw[e1]at hv;cases e2:atKey xs k with
  |some z=>rw[e2]at hv;show hv.elim
  |none=>rfl
def E6(I:P1 s)(hK:X.K=C.K){b:t_}(hk:p.isKt=true)(r:D_ p (.ref b)):(DW X.prog X.w).is s.heap p b:=⟨Ap hk,Hr I hK 6 (Ap hk) r rfl⟩
end
def Cxt.room6{k:Nat}(c:Y5 X):(DW X.prog X.w).room X.A.in1:=by
 have:=c.hu64
 change X.A.units+1+6<cLine
 omega
abbrev lJ(x y:PV)(h:PH):C_ (C_ PV):=match y with
 |.ref n=>if x.isKt=true then(bB h n).map λkvs=>Y2 x else b_
 |_=>b_
abbrev E7(C:MC):V->V->Hp->(B_ t_->C_ PV->Prop)->Prop:=λx y H R=>∃φ h p n a kvs,I_ h/\D_ p x/\y=.ref a/\φ[n]?=a_ a/\bB h n=a_ kvs/\p.isKt=true/\R φ (Y2 p)
set_option tactic.hygienic true in
def oM{q:PV}{x:V}{o:C_ PV}{R:B_ t_->C_ PV->Prop}(rh:I_ h)(rx:D_ p x)(ry:D_ q y)(e:lJ p q h=a_ o)(r:R φ o):E7 C x y H R:=by
 unfold lJ at e;cases q with
 |ref n=>
  let⟨a,rfl,ha⟩:=ry;dsimp only at e;split at e
  ·rename_i hk;cases e1:bB h n with
   |none=>rw[e1]at e;cases e
   |some kvs=>rw[e1]at e;cases e;show⟨φ,h,p,n,a,kvs,rh,rx,rfl,ha,e1,hk,r⟩
  ·cases e
 |_=>cases e
def K1{k:Nat}(c:Y5 X):Y7 (VG .In) (λx y H Q=>E7 C x y H λ_ o=>Q (.bl o.isSome) H):=λjn s σ H x y v u Q I rx ry h=>by
 let⟨φ,h,p,n,a,kvs,rh,rp,rfl,ha,ht,hk,q⟩:=h;cases ry
 let⟨b,rfl⟩:=tW hk rp;cases rx
 let⟨⟨ks,xs,r,ir,hz,hm,dd⟩,_⟩:=zB I c.K c.w rh ha ht;refine wpAny_in_heap c.room6 (E6 I c.K hk rp) hm dd ?_;rw[HD.isSome r ir p];show⟨.bl _,H,Z3 0,rfl,q⟩
def D3{k:Nat}(c:Y5 X):Y7 (VG .NotIn) (λx y H Q=>E7 C x y H λ_ o=>Q (.bl<|!o.isSome) H):=λjn s σ H x y v u Q I rx ry h=>by
 let⟨φ,h,p,n,a,kvs,rh,rp,rfl,ha,ht,hk,q⟩:=h;cases ry
 let⟨b,rfl⟩:=tW hk rp;cases rx
 let⟨⟨ks,xs,r,ir,hz,hm,dd⟩,_⟩:=zB I c.K c.w rh ha ht;refine wpAny_notIn_heap c.room6 (E6 I c.K hk rp) hm dd ?_;rw[HD.isSome r ir p];show⟨.bl _,H,Z3 0,rfl,q⟩
abbrev fR:PV->PV->PH->Rs PV:=λx y h=>match lJ x y h with
 |some o=>.ok (.bl o.isSome) h
 |none=>vIn x y h
abbrev eJ:PV->PV->PH->Rs PV:=λx y h=>match lJ x y h with
 |some o=>.ok (.bl<|!o.isSome) h
 |none=>rC x y h
def PC{k:Nat}:Y3 (VG .In) fR:=λc=>((R8 c).or<|K1 c).imp λx y H Q h=>by
 let⟨φ,h,p,q,rh,rx,ry,po⟩:=h;unfold fR at po;cases e:lJ p q h with
 |none=>rw[e]at po;show .inl ⟨φ,h,p,q,rh,rx,ry,po⟩
 |some o=>rw[e]at po;show .inr<|oM rh rx ry e<|P_ rfl
def Hs{k:Nat}:Y3 (VG .NotIn) eJ:=λc=>((JI c).or<|D3 c).imp λx y H Q h=>by
 let⟨φ,h,p,q,rh,rx,ry,po⟩:=h;unfold eJ at po;cases e:lJ p q h with
 |none=>rw[e]at po;show .inl ⟨φ,h,p,q,rh,rx,ry,po⟩
 |some o=>rw[e]at po;show .inr<|oM rh rx ry e<|P_ rfl
def Ro{k:Nat}(c:Y5 X):IxR X (λx y H Q=>E7 C y x H λφ o=>∃p,o=a_ p/\∀v:V,D_ p v->Q v H):=by
 intro value slice jn s σ H x y v u Q I rx ry h hs;let⟨φ,h,p,n,a,kvs,rh,rp,rfl,ha,ht,hk,p',ep,q⟩:=h;cases rx
 let⟨b,rfl⟩:=tW hk rp;cases ry
 let⟨⟨ks,xs,r,ir,hz,hm,dd⟩,_⟩:=zB I c.K c.w rh ha ht;let hT:=dd.typeIs;let hv:=HD.val (a:=a) r ir p;rw[ep]at hv;cases e2:atKey xs p with
 |none=>rw[e2]at hv;show hv.elim
 |some z=>
  rw[e2]at hv;let⟨v',ab,c7⟩:=hv;unfold subscriptTail;refine SB ?_;rw[getitemInPython_of_ne hT.not_modules];refine SB<|Xn hT PySem.F.slot_dict_getitem.lookup ?_;let fin:wpAny (h_ X) X.A (subscripted slice false (.ref a)<|.ref b) (λr s₃=>wpAny (h_ X) X.A (letTemporaryGo value (.ref a) r >>= λ_=>pure r) (Za Q) X.xe s₃) X.xe s:=by rw[hs];show wpAny_operating<|wpAny_getItem_heap c.room6 (E6 I c.K hk rp) dd e2<|SB<|wpAny_letTemporaryGo<|SL ⟨v',H,Z3 0,ab,q v' c7⟩
  first
   |exact SL (SB fin)
   |exact SB (SL<|SB fin)
   |exact SB fin
abbrev vAt:PV->PV->PH->Rs PV:=λx y h=>match lJ y x h with
 |some (a_ p)=>.ok p h
 |some b_=>.bad
 |none=>vIx x y h
def Rp{k:Nat}{a b:z_}(ha:G_ a ma)(hb:G_ b mb)(hs:DP b:=by intro _ _;rfl):G_ (.Subscript a b pos) (r_ ma mb):=λc=>
 (Oi ((ixC c.hu C.K c.K).or<|Ro c) (ha c) (hb c) hs).imp λσ H Q h=>by
  let⟨φ,δ,h,rh,re,p⟩:=DX h;refine⟨φ,δ,h,rh,re,p.imp ?_⟩;rintro v H1 ⟨φ,δ,h,rh,re,p⟩;refine⟨φ,δ,h,rh,re,p.imp ?_⟩;rintro u H2 ⟨φ,h,p,q,rh,rx,ry,po⟩;unfold vAt at po;cases e:lJ q p h with
  |none=>rw[e]at po;show .inl<|P0 ⟨φ,h,p,q,rh,rx,ry,po⟩
  |some o=>
   rw[e]at po;cases o with
   |none=>exact po.elim
   |some r=>exact .inr<|oM rh ry rx e ⟨r,rfl,λv' rv=>P_ rv⟩
abbrev rJ(x y v:PV)(h:PH):C_ PH:=match x with
 |.ref n=>match oI y,h[n]? with
  |some key,a_ (.dK kvs)=>if kvs.length<Ve then a_ (ZO<|.dK<|bM kvs key v) else b_
  |some _,_=>b_
  |none,_=>if y.isKt=true then(match bB h n with
   |some kvs=>if kvs.length<Ve then a_ (ZO<|.dD<|bM kvs y v) else b_
   |none=>b_) else b_
 |_=>b_
def D4{κ:Type}[DecidableEq κ]{kvs:B_ (κ×PV)}{ks:B_ (κ×V)}(r:Zi kvs ks)(a:κ):(Y2 a).isSome=(jK ks a).isSome:=by
 have:=rD r a;cases e1:Y2 a with
 |none=>
  cases e2:jK ks a with
  |none=>rfl
  |some v=>rw[e1,e2]at this;show this.elim
 |some p=>
  cases e2:jK ks a with
  |none=>rw[e1,e2]at this;show this.elim
  |some v=>rfl
set_option tactic.hygienic true in
def qC{κ:Type}[DecidableEq κ]{kvs:B_ (κ×PV)}{ks:B_ (κ×V)}(r:Zi kvs ks)(a:κ)(rp:D_ p v):Zi (bM kvs a p) (putK ks a v):=by
 unfold bM putK;rw[uJ,D4 r a];split
 ·rename_i hx;clear hx;unfold RKv at r⊢
  induction r with
  |nil=>exact .nil
  | @cons p' q' ps qs h t ih=>
   refine .cons ?_ ih;by_cases e:p'.1=a
   ·let e':q'.1=a:=h.1.symm.trans e;simp only[Z_ 0,if_pos e'];show⟨h.1,rp⟩
   ·let e':¬ q'.1=a:=λz=>e<|h.1.trans z;simp only[Zs 0,if_neg e'];show h
 ·show Paired.snoc r ⟨rfl,rp⟩
variable{px py:PV}{xu yu:s_}
set_option tactic.hygienic true in
def zC{k:Nat}{h':PH}{pv:PV}{x:V}(c:Y5 X)(rh:I_ h)(rx:D_ px x)(ry:D_ py y)(rv:D_ pv v)(e:rJ px py pv h=a_ h'){σ:St}{Q:j_ Unit}(I:P1 s)(m8:ZI xu)(fw:RelV y yu)(jh:ZJ vu)(q:∀s' H',i_ H' s'->ZA H'->RH C φ H' h'->Q () s'):wpAny (h_ X) X.A (setItem xu yu vu) Q X.xe s:=by
 unfold rJ at e;cases px with
 |ref n=>
  let⟨a,rfl,ha⟩:=rx;cases m8
  dsimp only at e;split at e
  ·rename_i key kvs ba hk;split at e
   ·rename_i hl;cases e
    let⟨ks,hH,rk⟩:=YZ hk;let ey:y=kV key:=Af ry ba;subst ey;let dv:ks.length<Ve:=by rw[<-VX rk];show hl
    refine EW c.hu I (.k hH dv) fw jh λs' I'=>q s' _ I' (Kp.dK hH) ?_;refine rh.write ha (by rw[hH];show Wp) ⟨_,aK,?_⟩;show(qC rk key rv).mono Vb (Kp.dK hH)
   ·cases e
  ·cases e
  ·split at e
   ·rename_i hk;split at e
    ·rename_i kvs ht;split at e
     ·rename_i hl;cases e
      let⟨b,rfl⟩:=tW hk ry;cases fw
      let⟨⟨ks,xs,r,ir,hz,hm,dd⟩,mu,nt⟩:=zB I c.K c.w rh ha ht;refine wpAny_setItem_heap (hsz:=hz) c.room6 (E6 I c.K hk ry) dd λh' gq hs=>?_;let⟨iw,r1,r2⟩:=HD.put (a:=a) r ir (Ap hk) ry rv jh;let⟨o,es,ep,hq,h2,h3,h4,_,h5⟩:=gq;let cw:iw.length<=Ve:=by
       let e1:=VX r1;let e2:(bM kvs py pv).length<=kvs.length+1:=by
        unfold bM;split
        ·rw[U5];omega
        ·simp
       omega
      refine q _ (R_ a<|dDO C.w a iw) (pQ I mu hs ⟨o,hq⟩ ⟨⟨cw,hm,_,r2,o,es,ep,hq,h2,h3,?_,h5⟩,⟨o,hq⟩,?_⟩) (Kp.upd nt) ?_
      ·rw[h4,<-c.w];rfl
      ·rintro g1 g2 ⟨z1,z2,ws,z3,o',es',iu,z4,z5⟩ keep;show⟨z1,z2,ws,z3,o',es',iu,keep _ z4,z5⟩
      ·show rh.write ha nt ⟨iw,aK,RKd.mono Vb (Kp.upd nt) r1⟩
     ·cases e
    ·cases e
   ·cases e
 |_=>cases e
abbrev MtG(C:MC)(k:Nat)(X:Cx)(T:String)(ty:PV->PH->Bool)(id:String)(g:PV->Y6 0->PH->Rs PV):Prop:=Y5 X->MtR X id (rM C g)/\
 ∀jn s σ H φ h p x v,P1 s->I_ h->D_ p x->ZI v->ty p h=true->s.TypeIs v T/\∀a,v=.ref a->∃ob,Zb 0=a_ ob/\ob.dict=b_
section
variable{k:Nat}
def N3{o:z_}{id:String}{g:PV->Y6 0->PH->Rs PV}(pa:PlainAttrs T)(slot:Slot T name id)(i6:typeOf (.builtin id)=pure (.type "method_descriptor"))(hm:MtG C k X T ty id g)(ho:G_ o mo)(ha:SA C k X (e::es) ms)(au:Xf o name X.env (ZT 0)=ZT 0:=by rfl)(fb:((backTo ae (Vl (e::es) X.env)).all (λx=>!x.1)&&(backToKw ae (keywordEach [] X.env)).all (λx=>x.1.isSome)
   && decide ((e::es).length+([]:B_ Keyword).length+(if([]:B_ Keyword).isEmpty then 0 else 1)<30))=true:=by rfl)(aq:(apos.endLine == ae.line)=true:=by rfl)(hs:Vl (e::es) X.env=(false,U_ 0)::W_ 0:=by rfl)(cm:(backTo ae (W_ 0)).any (·.1)=false:=by rfl):
  G_ (.Call (.Attribute o name apos) (e::es) [] ae) (mMt ty g mo ms):=λc jn s σ H Q I ⟨φ,δ,h,rh,re,p⟩=>by
 refine wpAny_Call_method_late au fb aq rfl<|thn (ho c jn s σ H _ I ⟨φ,δ,h,rh,re,post.bind p⟩) ?_;rintro v s1 ⟨x,H1,I1,r1,φ1,px,h1,p1,t1,aa,ab,q1⟩;let⟨ht,q1⟩:=q1.ite;let⟨g1,g2⟩:=(hm c).2 jn s1 σ H1 φ1 h1 px x v I1 aa ab r1 ht;refine⟨T,id,pa,slot,i6,g1,g2,?_⟩;let hA:=ha c ae jn s1 σ H1 _ I1 ⟨φ1,δ,h1,aa,S2 0,postA.bind q1⟩;rw[hs]at hA⊢;refine Xp (show(false || (backTo ae<|W_ 0).any (·.1))=false by rw[cm];rfl) (Calls.evalArgs_plain<|thn hA ?_);rintro us s2 ⟨vs,H2,I2,r2,φ2,ps,h2,p2,t2,ah,c7,q2⟩;show(hm c).1 jn s2 σ H2 x vs v us Q I2 r1 r2 ⟨φ2,h2,px,ps,ah,ab.mono p2 t2,c7,q2⟩
def Li{o:z_}{id:String}{g:PV->Y6 0->PH->Rs PV}(pa:PlainAttrs T)(slot:Slot T name id)(i6:typeOf (.builtin id)=pure (.type "method_descriptor"))(hm:MtG C k X T ty id g)(ho:G_ o mo)(au:Xf o name X.env (ZT 0)=ZT 0:=by rfl)(aq:(apos.endLine == ae.line)=true:=by rfl):G_ (.Call (.Attribute o name apos) [] [] ae) (nU ty g mo):=λc jn s σ H Q I ⟨φ,δ,h,rh,re,p⟩=>by refine wpAny_Call_method0_late au aq<|thn (ho c jn s σ H _ I ⟨φ,δ,h,rh,re,post.bind p⟩) ?_;rintro v s1 ⟨x,H1,I1,r1,φ1,px,h1,p1,t1,aa,ab,q1⟩;let⟨ht,q1⟩:=q1.ite;let⟨g1,g2⟩:=(hm c).2 jn s1 σ H1 φ1 h1 px x v I1 aa ab r1 ht;show⟨T,id,pa,slot,i6,g1,g2,Xp rfl<|PySem.evalArgs_none<|(hm c).1 jn s1 σ H1 x [] v [] Q I1 r1 .nil ⟨φ1,h1,px,[],aa,ab,trivial,q1⟩⟩
abbrev bR(x:PV)(h:PH):Bool:=match x with
 |.ref n=>match h[n]? with
  |some (.dK _)=>true
  |some (.dD _)=>true
  |_=>false
 |_=>false
set_option tactic.hygienic true in
def qD(c:Y5 X):∀jn s σ H φ h p x v,P1 s->I_ h->D_ p x->ZI v->bR p h=true->s.TypeIs v "dict" /\ ∀a,v=.ref a->∃ob,Zb 0=a_ ob/\ob.dict=b_:=by
 intro jn s σ H φ h p x v I rh rv r e;unfold bR at e;cases p with
 |ref n=>
  let⟨a,rfl,ha⟩:=rv;cases r
  dsimp only at e;split at e
  ·rename_i kvs hk;let⟨ks,hH,rk⟩:=YZ hk;let⟨z,hd,vs,rel,dd⟩:=uK I.hok hH;refine⟨dd.typeIs,λb eb=>?_⟩;cases eb
   let⟨ob,_,_,h1,h2,_⟩:=dd;show⟨ob,h1,h2.2.1⟩
  ·rename_i kvs hk;let ht:bB h n=a_ kvs:=by unfold bB;rw[hk]
   let⟨⟨ks,xs,r,ir,hz,hm,dd⟩,_⟩:=zB I c.K c.w rh ha ht;refine⟨dd.typeIs,λb eb=>?_⟩;cases eb
   let⟨ob,_,_,h1,h2,_⟩:=dd;show⟨ob,h1,h2.2.1⟩
  ·cases e
 |_=>cases e
abbrev mB:Y6 0->C_ (B_<|Key×PV)
 |[]=>a_ []
 |.tup [y,v]::r=>match oI y,mB r with
  |some key,a_ rs=>a_ ((key,v)::rs)
  |_,_=>b_
 |_::_=>b_
abbrev rK(kvs more:B_ (Key×PV)):B_ (Key×PV):=more.foldl (λacc kv=>bM acc kv.1 kv.2) kvs
def D5:∀{more:B_ (Key×PV)}{ms:B_ (Key×V)}{kvs:B_ (Key×PV)}{ks:B_ (Key×V)},Zi more ms->Zi kvs ks->Zi (rK kvs more) (qV ks ms):=by
 intro more ms kvs ks r;unfold RKv at r
 induction r generalizing kvs ks with
 |nil=>intro q;show q
 | @cons p q ps qs h t ih=>intro r0;let e:=qC r0 p.1 h.2;rw[show putK ks p.1 q.2=putK ks q.1 q.2 by rw[h.1]]at e;show ih e
def Inv.tupleD{σ:St}{xs:B_ V}(I:P1 s)(h:SqT X.K H a xs):∃its:ZQ 0,aJ xs its/\tF s.heap a its.toArray/\xs.length<=Ve:=by
 rcases h with h|⟨o,its,n,hk,hc,hs,hz,r,hd⟩
 ·let⟨z,its,r,p⟩:=h.ok I.hok;show⟨its,r,p,z⟩
 ·refine⟨its.toList,r,⟨o,I.kIn a o hk,hc,⟨n,l_ hs⟩,hd⟩,?_⟩;let e:=r.length;rw[e];simpa using hz
def zD{jn:g_ 0}{σ:St}{H:Hp}{s:td}{φ:B_ t_}(I:P1 s)(hK:X.K=C.K):∀{ps:Y6 0}{rs:B_ (Key×PV)}{vs:B_ V}{us:ZQ 0},mB ps=a_ rs->E_ ps vs->aJ vs us->
  ∃qs:B_ (t_×Key×s_×s_),us=qs.map (λq=>Vu q.1)/\(∀q∈qs,(aZ X.prog X.w).is q.2.1 q.2.2.1=true)/\(∀q∈qs,q0j q.1 #[q.2.2.1,q.2.2.2])/\∃ws:B_ (Key×V),Zi rs ws/\KV ws (qs.map λq=>(q.2.1,q.2.2.2))
 |[],rs,[],us,e,_,ru=>by
  cases ru
  cases e
  show⟨[],rfl,(λ_ h=>nomatch h),(λ_ h=>nomatch h),[],.nil,.nil⟩
 |p::ps,rs,v::vs,us,e,r,ru=>by
  cases ru with
  | @cons _ u _ us' h t=>
   cases p with
   |tup xs=>
    match xs,e with
    |[y,z],e=>
     unfold mB at e;cases e1:oI y with
     |none=>rw[e1]at e;cases e
     |some key=>
      cases e2:mB ps with
      |none=>rw[e1,e2]at e;cases e
      |some d8=>
       rw[e1,e2]at e;cases e
       let⟨qs,rfl,a1,a2,ws,a3,a4⟩:=zD I hK e2 r.2 t;let⟨b,bs,rfl,sq,rb⟩:=r.1;cases h
       let⟨yv,zv,rfl,ry,rz⟩:=rb.two;rw[<-hK]at sq;let⟨its,il,pt,_⟩:=I.tuple sq;let⟨yu,zu,rfl,fw,oz⟩:=vals2 il;let ey:=Af ry e1;subst ey;refine⟨(b,key,yu,zu)::qs,rfl,?_,?_,(key,zv)::ws,.cons ⟨rfl,rz⟩ a3,.cons ⟨rfl,oz⟩ a4⟩
       ·intro q hq;rcases U9.mp hq with rfl|hq
        ·show nW fw
        ·show a1 q hq
       ·intro q hq;rcases U9.mp hq with rfl|hq
        ·show pt
        ·show a2 q hq
    |[],e=>cases e
    |[_],e=>cases e
    |_::_::_::_,e=>cases e
   |_=>cases e
 |[],_,_::_,_,_,r,_=>r.elim
 |_::_,_,[],_,_,r,_=>r.elim
abbrev qE:Y6 0->PH->Rs PV:=λxs h=>match xs with
 |[.tup ps]=>match mB ps with
  |some rs=>.ok (.ref h.length) (h++[.dK<|rK [] rs])
  |none=>.bad
 |[.ref n]=>match h[n]? with
  |some (.dK kvs)=>.ok (.ref h.length) (h++[.dK kvs])
  |_=>.bad
 |_=>.bad
set_option tactic.hygienic true in
def N4:lQ C k X (.type "dict") qE:=λc jn s σ H xs us Q I r h=>by
 let⟨φ,h,ps,rh,rv,po⟩:=h;unfold qE at po;split at po
 ·rename_i ps;split at po
  ·rename_i rs e;let⟨v,rfl,rx⟩:=rv.one;let⟨a,vs,rfl,sa,ra⟩:=rx;let⟨u,rfl,ru⟩:=vals1 r;cases ru
   let hl:=ra.length;let gv:=sa;rw[<-c.K]at gv;let⟨its,il,⟨o,o1,o2,⟨n,o3⟩,o4⟩,hz⟩:=Inv.tupleD I gv;let⟨qs,rfl,a1,a2,ws,a3,a4⟩:=zD I c.K e ra il;let hq:qs.length<=Ve:=by have:=il.length;rw[U5]at this;omega
   refine tJ (I.ok.hd c.calm) o1 o2 o3 o4 a1 a2 hq λh' tk dd kk=>?_;let r1:=D5 a3 (.nil:Zi [] []);let yc:(qV [] ws).length<=Ve:=by let h1:=nX ws [];let h2:=KV.length a4;rw[U5]at h2;simp at h1;omega
   let fr:H (e_ s)=b_:=I.fresh;refine⟨.ref<|e_ s,_,I.laid (a:=(e_ s)) (o:=.dK<|qV [] ws) (t':=tk) kk (U6 _)<|uL yc (beq_eq_false_iff_ne.mpr<|Wx<|Vh I.big) (a4.merge .nil) dd,rfl,?_⟩;show po (φ++[(e_ s)]) (.ref _) _ (VA _ _) (Kp.new fr) (rh.new fr ⟨_,aK,r1.mono (VA _ _)<|Kp.new fr⟩) ⟨_,rfl,by rw[<-rh.len];simp⟩
  ·show po.elim
 ·rename_i n;split at po
  ·rename_i kvs hk;let⟨v,rfl,rx⟩:=rv.one;let⟨a,rfl,ha⟩:=rx;let⟨u,rfl,ru⟩:=vals1 r;cases ru
   let⟨ks,hH,rk⟩:=YZ hk;refine Gz I (.inl hH) λp s' hp I'=>⟨.ref p,_,I',rfl,?_⟩;show po (φ++[p]) (.ref _) _ (VA _ _) (Kp.new hp) (rh.new hp ⟨_,aK,rk.mono (VA _ _)<|Kp.new hp⟩) ⟨_,rfl,by rw[<-rh.len];simp⟩
  ·show po.elim
 ·show po.elim
end
abbrev Fy(x:Zt 0):B_ (Zt 0)->B_ (Zt 0)
 |[]=>[x]
 |y::ys=>if bK y x=true then y::Fy x ys else x::y::ys
abbrev rN:B_ (Zt 0)->B_ (Zt 0)
 |[]=>[]
 |x::xs=>Fy x (rN xs)
def rO(x:Zt 0):∀ys,(Fy x ys).Perm (x::ys)
 |[]=>.refl _
 |y::ys=>by
  unfold Fy;split
  ·show((rO x ys).cons y).trans (.swap x y ys)
  ·show .refl _
def fS:∀xs,(rN xs).Perm xs
 |[]=>.refl _
 |x::xs=>(rO x _).trans ((fS xs).cons x)
set_option tactic.hygienic true in
def sQ{S:B_ Bool}{x:Zt 0}(hx:shape x=S):∀{ys:B_ (Zt 0)},(∀y∈ys,shape y=S)->ys.Pairwise (λa b=>bK b a=false)->(Fy x ys).Pairwise (λa b=>bK b a=false)
 |[],_,_=>Ya _ _
 |y::ys,hs,hp=>by
  let hy:=hs y UV;let iy:=λz hz=>hs z<|U8 _ hz;rw[Vt]at hp;unfold Fy;split
  ·rename_i h;rw[Vt];refine⟨λz hz=>?_,sQ hx iy hp.2⟩;rcases U9.mp ((rO x ys).mem_iff.mp hz) with rfl|hz
   ·show tU h
   ·show hp.1 z hz
  ·rename_i h;let h':bK y x=false:=by simpa using h
   rw[Vt];refine⟨λz hz=>?_,Vt.mpr hp⟩;rcases U9.mp hz with rfl|hz
   ·show h'
   ·show pX (hx.trans hy.symm) (hy.trans (iy z hz).symm) h' (hp.1 z hz)
def nZ{S:B_ Bool}:∀{xs:B_ (Zt 0)},(∀y∈xs,shape y=S)->(rN xs).Pairwise (λa b=>bK b a=false)
 |[],_=>.nil
 |x::xs,hs=>sQ (hs x UV) (λy hy=>hs y (U8 _<|(fS xs).mem_iff.mp hy)) (nZ λy hy=>hs y (U8 _ hy))
variable{S:B_ Bool}
def D8{xs ys:B_ (Zt 0)}(hs:∀y∈xs,shape y=S)(hp:ys.Perm xs)(h:ys.Pairwise (λa b=>bK b a=false)):ys=rN xs:=by refine X2 (le:=λa b=>bK b a=false) (λa b ha hb h1 h2=>?_) h (nZ hs)<|hp.trans (fS xs).symm;show pW ((hs a<|hp.mem_iff.mp ha).trans (hs b<|(fS xs).mem_iff.mp hb).symm) h2 h1
abbrev kP:Key->PV
 |.inl i=>.int i
 |.inr x=>.str x
def K2{x:PV}{a:Key}(h:oI x=a_ a):x=kP a:=by cases x <;> first|(cases h;rfl)|cases h
@[simp]theorem Qx(a:Key):oI (kP a)=a_ a:=by cases a <;> rfl
abbrev sR:Y6 0->C_ (Zt 0)
 |[]=>a_ []
 |x::xs=>match oI x,sR xs with
  |some a,a_ r=>a_ (a::r)
  |_,_=>b_
def Bx:∀{xs:Y6 0}{ks:Zt 0},sR xs=a_ ks->xs=ks.map kP
 |[],_,h=>by cases h;rfl
 |x::xs,ks,h=>by
  unfold sR at h;cases e1:oI x with
  |none=>rw[e1]at h;cases h
  |some a=>
   cases e2:sR xs with
   |none=>rw[e1,e2]at h;cases h
   |some r=>
    rw[e1,e2]at h;cases h
    rw[K2 e1,Bx e2];rfl
@[simp]theorem Ht:∀ks:Zt 0,sR (ks.map kP)=a_ ks
 |[]=>rfl
 |a::ks=>by simp[sR,Ht ks]
abbrev tP(ks:Zt 0):PV:=.tup<|ks.map kP
abbrev vM:Y6 0->C_ (B_<|Zt 0)
 |[]=>a_ []
 |.tup xs::r=>match sR xs,vM r with
  |some a,a_ b=>a_ (a::b)
  |_,_=>b_
 |_::_=>b_
def By:∀{xs:Y6 0}{ks:B_ (Zt 0)},vM xs=a_ ks->xs=ks.map tP
 |[],_,h=>by cases h;rfl
 |x::xs,ks,h=>by
  cases x with
  |tup ys=>
   unfold vM at h;cases e1:sR ys with
   |none=>rw[e1]at h;cases h
   |some a=>
    cases e2:vM xs with
    |none=>rw[e1,e2]at h;cases h
    |some r=>
     rw[e1,e2]at h;cases h
     rw[Bx e1,By e2];rfl
  |_=>cases h
@[simp]theorem Bz:∀ks:B_ (Zt 0),vM (ks.map tP)=a_ ks
 |[]=>rfl
 |a::ks=>by simp[vM,tP,Bz ks]
abbrev tN(af:B_ (Zt 0)):Bool:=match af with
 |[]=>true
 |a::r=>(!a.isEmpty)&&r.all λx=>shape x == shape a
def D9(h:tN af=true):∃b sh,∀ks∈af,shape ks=b::sh:=by
 cases af with
 |nil=>exact⟨true,[],λ_ h=>nomatch h⟩
 |cons a r=>
  unfold tN at h;rw[VE]at h;cases a with
  |nil=>cases h.1
  |cons z zs=>
   refine⟨fO z,shape zs,λks hk=>?_⟩;rcases U9.mp hk with rfl|hk
   ·rfl
   ·have:=Vy.mp h.2 ks hk;show eq_of_beq this
section
variable{k:Nat}
def PD{a:Key}:D_ (kP a) v↔Rep C.K H (kD a) v:=by cases a <;> exact Iff.rfl
def Aq{φ:B_ t_}{H:Hp}:∀{ks:Zt 0}{vs:B_ V},E_ (ks.map kP) vs↔dH C.K H (ks.map kD) vs
 |[],[]=>Iff.rfl
 |[],_::_=>Iff.rfl
 |_::_,[]=>Iff.rfl
 |_::_,_::_=>and_congr PD Aq
def PF{ks:Zt 0}:D_ (tP ks) v↔Rep C.K H (tD ks) v:=by
 constructor
 ·rintro⟨a,vs,e,s,r⟩;show⟨a,vs,e,s,Aq.mp r⟩
 ·rintro⟨a,vs,e,s,r⟩;show⟨a,vs,e,s,Aq.mpr r⟩
def E8{φ:B_ t_}{H:Hp}:∀{af:B_ (Zt 0)}{vs:B_ V},E_ (af.map tP) vs↔dH C.K H (af.map tD) vs
 |[],[]=>Iff.rfl
 |[],_::_=>Iff.rfl
 |_::_,[]=>Iff.rfl
 |_::_,_::_=>and_congr PF E8
def RH.same(r:I_ h)(s:Cv H H1):RH C φ H1 h:=⟨r.len,r.nd,λn b ob h1 h2=>by let q:=r.at' n b ob h1 h2;let⟨u,hu⟩:=q.some;show q.stay Vb (Kp.same s)<|(s _ _ hu).trans hu.symm⟩
set_option tactic.hygienic true in
def K3{a b:Str}:bK [.inr a] [.inr b]=decide (a.cps.toList<b.cps.toList):=by
 unfold bK;split
 ·rename_i e;cases e
  simp[bK,List.lt_irrefl]
 ·rfl
def sS:∀{r:Zg 0}{p:Str},risingS p r=true->((p::r).map λx=>[(Wd x:Key)]).Pairwise (λa b=>bK b a=false)
 |[],p,_=>Ya _ _
 |x::r,p,h=>by
  let h0:bK [.inr x] [.inr p]=false/\risingS x r=true:=by unfold risingS at h;rw[VE,ltCps_eq]at h;rw[K3];show⟨l_ h.1,h.2⟩
  let ih:=sS h0.2;rw[Vi,Vt];refine⟨λz hz=>?_,ih⟩;let⟨y,hy,rfl⟩:=Vp.mp hz;rcases U9.mp hy with rfl|hy
  ·show h0.1
  ·rw[Vi,Vt]at ih;show pX (a:=[.inr p]) (b:=[.inr x]) (c:=[.inr y]) rfl rfl h0.1<|ih.1 _<|Vp.mpr ⟨y,hy,rfl⟩
def Ar{φ:B_ t_}{H:Hp}:∀{ss:Zg 0}{vs:B_ V},E_ (ss.map PV.str) vs↔vs=ss.map V.str
 |[],[]=>by simp[RVs]
 |[],_::_=>by simp[RVs]
 |_::_,[]=>by simp[RVs]
 |x::ss,v::vs=>by simp only[Vi,RVs,List.cons.injEq];show and_congr Iff.rfl Ar
end
open PySem
@[simp]theorem PJ{x:PV}:lJ x (.tup xs) h=b_:=(rfl)
@[simp]theorem NW{x:PV}{z:Str}:lJ x (.str z) h=b_:=(rfl)
@[simp]theorem PK{i:Int}{y:PV}:lJ (.int i) y h=b_:=by cases y <;> rfl
@[simp]theorem PL{i:Str}{y:PV}:lJ (.str i) y h=b_:=by cases y <;> rfl
@[simp]theorem Qy{z:Str}{y:PV}:vAt (.str z) y h=vIx (.str z) y h:=by unfold vAt;simp
@[simp]theorem Qz{x:PV}{i:Int}:vAt x (.int i) h=vIx x (.int i) h:=by unfold vAt;simp
@[simp]theorem QA{x:PV}{i:Str}:vAt x (.str i) h=vIx x (.str i) h:=by unfold vAt;simp
@[simp]theorem PM{x:PV}:fR x (.tup ys) h=vIn x (.tup ys) h:=by unfold fR;simp
@[simp]theorem Lj{x:PV}:eJ x (.tup ys) h=rC x (.tup ys) h:=by unfold eJ;simp
def mD{kvs:B_ (Key×PV)}(e:h[n]?=a_ (.dK kvs)):bR (.ref n) h=true:=by unfold bR;simp[e]
variable{z:PV}
def E9{kvs:B_ (Key×PV)}(e:h[n]?=a_ (.dK kvs))(c:kvs.length<16777216):rJ (.ref n) (.str x) z h=a_ (ZO<|.dK<|bM kvs (.inr x) z):=by simp[rJ,e,oI,c]
variable{rs:B_ (Key×PV)}
def BA{ps:Y6 0}(e:mB ps=a_ rs):qE [.tup ps] h=.ok (.ref h.length) (h++[.dK<|rK [] rs]):=by simp[qE,e]
abbrev kI(h:PH)(d:Nat):C_ (Y6 0):=match h[d]? with
 |some (.dK kvs)=>a_ (kvs.map (·.2))
 |some (.dD kvs)=>a_ (kvs.map (·.2))
 |_=>b_
def vN{K:Type}[DecidableEq K]{knd:KeyKind prog w K}{es:B_ Xw}{kvs:B_ (K×s_)}(h:Pairs knd es kvs):es.map (·.val)=kvs.map (·.2):=by
 apply Wr;intro i;rw[Vk,Vk];let hl:=h.length;by_cases hi:i<es.length
 ·let e1:es[i]?=a_ es[i]:=by simp[hi]
  let ak:i<kvs.length:=⋯;let e2:kvs[i]?=a_ (kvs[i].1,kvs[i].2):=by simp[ak]
  rw[e1,e2];show congrArg a_ (h.get? e1 e2).2
 ·rw[XC ⋯,XC ⋯];rfl
set_option tactic.hygienic true in
def BB{k:Nat}{σ:St}{d:Nat}{b:t_}(c:Y5 X)(I:P1 s)(rh:I_ h)(hb:φ[d]?=a_ b)(e:kI h d=a_ xs):
  s.TypeIs (.ref b) "dict" /\ (b == Wi)=false/\xs.length<=Ve/\∃oc es ep,N_ 0=a_ oc/\oc.data=.dict es ep/\∃ws,E_ xs ws/\aJ ws (es.toList.map (·.val)):=by
 unfold kI at e;split at e
 ·rename_i kvs hk;cases e
  let⟨ks,hH,rk⟩:=rh.at' d b _ hb hk;let⟨z,hd,vs,rel,dd⟩:=uK I.hok hH;refine⟨dd.typeIs,hd,by rw[U5,VX rk];show z,?_⟩;let⟨oc,es,ep,g1,g2,g3,g4,g5,g6⟩:=dd;refine⟨oc,es,ep,g1,g3,ks.map (·.2),?_,?_⟩
  ·unfold RKv at rk;clear hk hH rel z
   induction rk with
   |nil=>trivial
   |cons q t ih=>exact⟨q.2,ih⟩
  ·rw[vN g5];clear hk hH g4 g5 g6 z;unfold KV at rel;clear rk
   induction rel with
   |nil=>exact .nil
   |cons q t ih=>exact .cons q.2 ih
 ·rename_i kvs hk;cases e
  let ht:bB h d=a_ kvs:=by unfold bB;rw[hk]
  let⟨⟨ks,ys,r,ir,hz,hm,dd⟩,_⟩:=zB I c.K c.w rh hb ht;let hlen:kvs.length=ys.length:=(VX r).trans<|VX ir;refine⟨dd.typeIs,hm,by rw[U5,hlen];show hz,?_⟩;let⟨oc,es,ep,g1,g2,g3,g4,g5,g6⟩:=dd;refine⟨oc,es,ep,g1,g3,ks.map (·.2.2),?_,?_⟩
  ·unfold RKd at r;clear hk ht ir hlen
   induction r with
   |nil=>trivial
   |cons q t ih=>exact⟨q.2.2.2,ih⟩
  ·rw[g4,VJ];clear hk ht r hlen hz g4 g5 g6
   induction ir with
   |nil=>exact .nil
   |cons q t ih=>exact .cons q.2.2 ih
 ·cases e
abbrev zE:PV->Y6 0->PH->Rs PV:=λx ps h=>match x,ps with
 |.ref n,[]=>match kI h n with
  |some _=>.ok (.ref h.length) (h++[.vw 1 n])
  |none=>.bad
 |_,_=>.bad
set_option tactic.hygienic true in
def m_values{k:Nat}:MtG C k X "dict" bR "dict.values" zE:=λc=>⟨λjn s σ H x xs v us Q I rx rs h=>by
 let⟨φ,h,p,ps,rh,rp,ka,po⟩:=h;unfold zE at po;split at po
 ·rename_i n;split at po
  ·rename_i ys ey;let⟨a,rfl,ha⟩:=rp;have:xs=[]:=by cases xs <;> first|rfl|exact ka.elim
   subst this;cases rx
   cases rs
   let⟨hT,hm,_⟩:=BB c I rh ha ey;refine call_meetsIn PySem.F.slot_dict_values hT PySem.F.entry_dict_values (PySem.F.args_dict_values_1 _) (A8 a hm) ⟨hT,?_⟩;let fr:H (e_ s)=b_:=I.fresh;refine⟨.ref<|e_ s,_,I.laid (t':=s.toks) (o:=GY 1 (e_ s) a) (λb u e=>Zp e) (U6 _) ?_,rfl,?_⟩
   ·show⟨⟨_,Zc 0,rfl,rfl⟩,⟨_,Zc 0⟩,λh1 h2 ⟨o,e,p⟩ k=>⟨o,k o e,p⟩⟩
   ·show po (φ++[(e_ s)]) (.ref _) _ (VA _ _) (Kp.new fr) (rh.new fr ⟨a,dN (VA _ _) ha,aK⟩) ⟨_,rfl,by rw[<-rh.len];simp⟩
  ·show po.elim
 ·show po.elim,qD c⟩
abbrev vO(h:PH)(n:Nat):C_ (Y6 0):=match h[n]? with
 |some (.vw 1 d)=>kI h d
 |_=>b_
variable{acc:YY 0}
def Hu{es:Array Xw}(h:ItemsOf (λi v=>∃e,es[i]?=a_ e/\v=e.val) acc es.size):acc.toList=es.toList.map (·.val):=by
 apply Wr;intro i;rw[Vk,V4,V4];by_cases hi:i<acc.size
 ·let e1:acc[i]?=a_ acc[i]:=by simp[hi]
  let⟨e,h1,h2⟩:=h.2 i _ e1;rw[e1,h1,h2];rfl
 ·let ak:¬ i<es.size:=by rw[<-h.1];show hi
  rw[VP ⋯,VP ⋯];rfl
def Ea(e:h[n]?=a_ (.dK [])):bB h n=a_ []:=by simp[bB,e]
def nH(e:h[n]?=a_ (.dD kvs)):bB h n=a_ kvs:=by simp[bB,e]
open PySem.SeqAt PySem.W
abbrev Rq(l:B_ Nat):Z9 0:=l.map (λ(c:Nat)=>(c:Int)+2)++[1]
mutual
def enc:PV->Z9 0
 |.int i=>[i]
 |.str x=>Rq x.cps.toList
 |.tup xs=>PN xs
 |_=>[]
def PN:Y6 0->Z9 0
 |[]=>[0]
 |x::xs=>1::(enc x++PN xs)
end
section
abbrev fk:PV->Nat
 |.tup (.int _::_)=>0
 |.tup (.str _::_)=>1
 |.tup (.tup _::_)=>2
 |_=>3
abbrev fkT(m:Nat):s_:=.type (if m=0 then "int" else if m=1 then "str" else "tuple")
def vP{m:Nat}(hm:m<3):∀{ps:Y6 0}{vs:ZQ 0},HRs s.heap ps vs->(∀p∈ps,fk p=m)->∃fs:ZQ 0,fs.length=vs.length/\KatTups s.heap vs fs/\∀f∈fs,Looks (Z8 0) s.heap (typeOf f) (fkT m)
 |[],[],_,_=>⟨[],rfl,KatTups.nil,λ_ hf=>nomatch hf⟩
 |p::ps,v::vs,r,hs=>by
  let⟨fs,hl,ht,hT⟩:=vP hm r.2 λx hx=>hs x<|U8 _ hx;let h0:=hs p UV;let r1:=r.1;cases p with
  |tup xs=>
   let⟨a,its,rfl,⟨o,ho,hc,n,hd⟩,rx⟩:=r1;cases xs with
   |nil=>simp[fk]at h0;omega
   |cons x xs=>
    cases its with
    |nil=>exact rx.elim
    |cons f its=>
     refine⟨f::fs,by simp[hl],KatTups.cons ho hc hd (by simp) ht,λg hg=>?_⟩;rcases U9.mp hg with rfl|hg
     ·let rf:=rx.1;cases x with
      |int i=>let⟨t,rfl⟩:=rf;have:m=0:=h0.symm;subst this;show Looks.now
      |str i=>let⟨t,rfl⟩:=rf;have:m=1:=h0.symm;subst this;show Looks.now
      |tup i=>let⟨a',its',rfl,⟨o',cy,ly,n',du⟩,_⟩:=rf;have:m=2:=h0.symm;subst this;have:Looks (Z8 0) s.heap (typeOf<|.ref a') o'.cls:=(Looks.ld cy).andThen .now;rw[ly]at this;show this
      |_=>exact rf.elim
     ·show hT g hg
  |_=>simp[fk]at h0;omega
 |[],_::_,r,_=>r.elim
 |_::_,[],r,_=>r.elim
def K4{m:Nat}(hm:m<3){ps:Y6 0}{vs:ZQ 0}{Q:j_ SortKind}(r:HRs s.heap ps vs)(hs:∀p∈ps,fk p=m)(h0:0<vs.length)(h:Q (tuples'<|decide (m≠2)) s):k_ (keyKind' vs.toArray) Q E s:=by
 let⟨fs,hl,ht,hT⟩:=vP (prog:=prog) (w:=w) hm r hs;refine kat_kind (T:=fkT m) ht ⋯ hT ?_ ?_
 ·match m,hm with
  |0,_=>rfl
  |1,_=>rfl
  |2,_=>rfl
 ·have:((fkT m) != WV "tuple")=decide (m≠2):=by
   match m,hm with
   |0,_=>rfl
   |1,_=>rfl
   |2,_=>rfl
  rw[this];show h
end
def HRs.kept{h:w_}(k:∀b o,h.get? b=a_ o->Zf 0=a_ o){ps:Y6 0}{vs:ZQ 0}(r:HRs h ps vs):HRs h' ps vs:=HRs.keep (λa x ⟨o,ho,q⟩=>⟨o,k a o ho,q⟩) r
def HRs.getD{h:w_}{ps:Y6 0}{vs:ZQ 0}(r:HRs h ps vs)(hi:i<ps.length):HR h (ps.getD i .non) (Zn 0):=by
 let g:ps[i]?=a_ (ps.getD i .non):=by simp[hi]
 let⟨v,hv,hr⟩:=r.at g;let e:Zn 0=v:=by simp[Wv,hv]
 rw[e];show hr
def RVs.pick'(r:ZV 0):∀{p:B_ Nat},(∀i∈p,i<xs.length)->E_ (p.map λi=>xs.getD i .non) (p.map λi=>vs.getD i .non)
 |[],_=>trivial
 |i::p,h=>by
  let hi:=h i UV;let g:xs[i]?=a_ (xs.getD i .non):=by simp[hi]
  let⟨v,hv,hr⟩:=r.at g;let e:vs.getD i .non=v:=by simp[Wv,hv]
  refine⟨?_,RVs.pick' r λj hj=>h j<|U8 _ hj⟩
  change D_ (xs.getD i .non) (vs.getD i .non)
  rw[e];show hr
abbrev zF:Y6 0->C_ (Zg 0)
 |[]=>a_ []
 |.str x::r=>(zF r).map (x::·)
 |_=>b_
def BC:∀ss:Zg 0,zF (ss.map PV.str)=a_ ss
 |[]=>rfl
 |x::r=>by
  change(zF<|r.map PV.str).map (x::·)=_
  rw[BC r];rfl
def BD:∀{xs:Y6 0}{ss:Zg 0},zF xs=a_ ss->xs=ss.map PV.str
 |[],ss,h=>by cases h;rfl
 |x::r,ss,h=>by
  cases x with
  |str z=>have h':(zF r).map (z::·)=a_ ss:=h;let⟨t,ht,rfl⟩:=Vr.mp h';rw[BD ht];rfl
  |_=>cases h
abbrev unZ:Zt 0->Str
 |[.inr x]=>x
 |_=>""
abbrev BE(ss:Zg 0):Zg 0:=(rN<|ss.map λx=>[(Wd x:Key)]).map unZ
def Eb(ss:Zg 0):(ss.map λx=>[(Wd x:Key)]).map unZ=ss:=by rw[VJ];show(WC λ_ _=>rfl).trans (List.map_id ss)
def Da(ss:Zg 0):(BE ss).Perm ss:=by have:=(fS<|ss.map λx=>[(Wd x:Key)]).map unZ;rw[Eb]at this;show this
abbrev mE:Y6 0->PH->Rs PV:=λxs h=>match xs with
 |[.ref n]=>match aM h n with
  |some ys=>match zF ys with
   |some ss=>if ss.length<64 then .ok (.ref h.length) (h++[.lst<|(BE ss).map PV.str]) else .bad
   |none=>.bad
  |none=>.bad
 |_=>.bad
set_option tactic.hygienic true in
def K5{k:Nat}:lQ C k X (.builtin "sorted") mE:=λc=>cO.imp (by have:=qX (X:=X);rw[c.K]at this;show this) λvs H Q h=>by
 let⟨φ,h,ps,rh,rv,po⟩:=h;unfold mE at po;split at po
 ·rename_i n;split at po
  ·rename_i ys e;split at po
   ·rename_i ss es;let⟨hc,po⟩:=po.ite;let⟨v,rfl,rx⟩:=rv.one;let⟨a,rfl,ha⟩:=rx;let⟨a2,vs,aj,sa,ra⟩:=bN rh e;rw[ha]at aj;cases aj;let ey:=BD es;subst ey;let ev:=Ar.mp ra;subst ev;refine⟨a,ss,rfl,sa,hc,λl jf hl hp hs=>?_⟩;let e1:(jf.map λx=>[(Wd x:Key)])=rN (ss.map λx=>[(Wd x:Key)]):=by
     refine D8 (S:=[false]) (λy hy=>?_) (hp.map _) ?_
     ·let⟨z,_,rfl⟩:=Vp.mp hy;rfl
     ·cases jf with
      |nil=>exact .nil
      |cons x r=>exact sS hs
    let e2:BE ss=jf:=by unfold BE;rw[<-e1,Eb]
    rw[e2]at po;show po.lnew rh (Ar.mpr rfl) hl
   ·show po.elim
  ·show po.elim
 ·show po.elim
variable{ss:Zg 0}
def BF(e:h[n]?=a_ (.lst<|ss.map PV.str))(hl:ss.length<64):∃zs:Zg 0,zs.Perm ss/\mE [.ref n] h=.ok (.ref h.length) (h++[.lst<|Z4 0]):=by
 refine⟨BE ss,Da ss,?_⟩;let e1:aM h n=a_ (ss.map PV.str):=by simp[aM,e]
 simp only[mE,e1,BC];rw[if_pos hl]
open PySem.SeqAt PySem.W
abbrev twF:PV->Str
 |.tup (.str x::_)=>x
 |_=>⟨#[]⟩
abbrev ltF(x y:PV):Bool:=decide ((twF x).cps.toList<(twF y).cps.toList)
def N5{a b c:PV}(h1:ltF b a=false)(h2:ltF c b=false):ltF c a=false:=decide_eq_false<|X7.mpr<|List.le_trans (X7.mp<|of_decide_eq_false h1)<|X7.mp<|of_decide_eq_false h2
def N6{a b:PV}(h:ltF a b=true):ltF b a=false:=decide_eq_false<|List.lt_asymm<|of_decide_eq_true h
def K6(a:PV):ltF a a=false:=decide_eq_false<|List.lt_irrefl _
def N7{a b:PV}(h1:ltF a b=false)(h2:ltF b a=false):twF a=twF b:=by
 let e:=List.le_antisymm (X7.mp<|of_decide_eq_false h2)<|X7.mp<|of_decide_eq_false h1;generalize twF a=x at e;generalize twF b=y at e;let⟨⟨x⟩⟩:=x;let⟨⟨y⟩⟩:=y;cases e
 rfl
section
def Ec{b:Bool}{n:Nat}{Q:j_ Bool}(hu:A.units+n<cLine):∀(ps:Y6 0)(us ws:ZQ 0)(i:Nat),(∀p∈ps,p.ky n=true)->HRs s.heap ps us->HRs s.heap ps ws->Q false s->KatLex prog w A b false Q (us.zip ws) i s
 |[],[],[],i,_,_,_,h=>h
 |p::ps,u::us,v::ws,i,kp,rs,d8,h=>by rw[List.zip_cons_cons];let k1:=kp p UV;refine kat_cons<|CS k1 k1 hu rs.1 d8.1 prog w _ _ ?_;rw[decide_eq_true rfl];show kat_yes<|Ec hu ps us ws (i+1) (λz hz=>kp z (U8 _ hz)) rs.2 d8.2 h
 |[],_::_,_,_,_,r,_,_=>r.elim
 |[],_,_::_,_,_,_,r,_=>r.elim
 |_::_,[],_,_,_,r,_,_=>r.elim
 |_::_,_,[],_,_,_,r,_=>r.elim
def Dc{v:s_}{Q:j_ Bool}(hu:A.units+n<cLine)(kp:p.ky (n+1)=true)(tp:∃ps,p=.tup ps)(r:HR s.heap p v)(r':HR s.heap p u)(h:Q false s):
  k_ (keyLt' (tuples' b) v u) Q E s:=by
 let⟨ps,rfl⟩:=tp;let⟨a,its,rfl,⟨ox,qt,_,m,dx⟩,rs⟩:=r;let⟨a',its',rfl,⟨oy,uq,_,m',dy⟩,d8⟩:=r';refine kat_lt qt dx uq dy ?_;let l1:=rs.length;let l2:=d8.length;let e1:decide (its.toArray.size<its'.toArray.size)=false:=by simp[<-l1,<-l2]
 rw[e1];show Ec hu ps its its' 0 (Vy.mp kp) rs d8 h
def Fz{q:PV}{v:s_}{Q:j_ Bool}(hu:A.units+n<cLine)(kp:p.ky (n+1)=true)(kq:q.ky (n+1)=true)(fp:fk p=1)(fq:fk q=1)(ne:twF p≠twF q)(r:HR s.heap p v)(r':HR s.heap q u)(h:Q (ltF p q) s):
  k_ (keyLt' (tuples' true) v u) Q E s:=by
 match p,q,fp,fq with
 |.tup (.str x::ps),.tup (.str y::qs),_,_=>
  let⟨a,its,rfl,⟨ox,qt,_,m,dx⟩,rs⟩:=r;let⟨a',its',rfl,⟨oy,uq,_,m',dy⟩,d8⟩:=r';refine kat_lt qt dx uq dy ?_
  match its,its',rs,d8 with
  |i1::its,j1::its',rs,d8=>
   change KatLex prog w A true _ Q ((i1::its).zip (j1::its')) 0 s
   rw[List.zip_cons_cons];refine kat_cons<|CS (n:=n) (Vy.mp kp _ UV) (Vy.mp kq _ UV) hu rs.1 d8.1 prog w _ _ ?_;rw[decide_eq_false<|show ¬ PV.str x=PV.str y from λz=>ne<|PV.str.inj z]
   refine kat_no ?_;let⟨t,rfl⟩:=rs.1;let⟨t',rfl⟩:=d8.1;show oneLt_str h
end
abbrev twS:Y6 0->C_ (Y6 0)
 |[]=>a_ []
 |[x]=>if fk x<3/\x.ky 20=true then a_ [x] else b_
 |[x,y]=>if((fk x=1/\fk y=1)/\x.ky 20=true/\y.ky 20=true)/\twF x≠twF y then a_ (if ltF y x=true then[y,x] else[x,y]) else b_
 |_=>b_
structure OkF(m:Nat)(ys:B_ PV):Prop where
 m3:m<3
 ky:∀x∈ys,x.ky 20=true
 fk:∀x∈ys,fk x=m
 un:∀i j,i<ys.length->j<ys.length->i≠j->m=1/\twF (ys.getD i .non)≠twF (ys.getD j .non)
def twP{α:Type}{x y:α}{zs:B_ α}(h:zs.Perm [x,y]):zs=[x,y]\/zs=[y,x]:=by
 match zs,h.length_eq with
 |[a,b],_=>
  let ha:a∈[x,y]:=h.mem_iff.mp UV;rcases U9.mp ha with rfl|ha
  ·rw[List.perm_singleton.mp<|(List.perm_cons a).mp h];show .inl rfl
  ·obtain rfl:=Vc.mp ha;let h2:=h.trans<|List.Perm.swap a x [];rw[List.perm_singleton.mp<|(List.perm_cons a).mp h2];show .inr rfl
variable{zs:Y6 0}
def N8(h:twS ys=a_ zs):ys.length<64/\(∃m,OkF m ys)/\∀ps:Y6 0,ps.Perm ys->ps.Pairwise (λa b=>ltF b a=false)->ps=zs:=by
 match ys,h with
 |[],h=>
  cases h
  show⟨by simp,⟨1,⋯,λ_ h=>(Yz h).elim,λ_ h=>(Yz h).elim,λi j h=>(Nat.not_lt_zero _ h).elim⟩,λps hp _=>hp.eq_nil⟩
 |[x],h=>
  let h:(if fk x<3/\x.ky 20=true then a_ [x] else b_)=a_ zs:=h;by_cases c:fk x<3/\x.ky 20=true
  ·rw[if_pos c]at h;cases h
   refine⟨by simp,⟨fk x,c.1,λy hy=>?_,λy hy=>?_,λi j hi hj ne=>?_⟩,λps hp _=>List.perm_singleton.mp hp⟩
   ·rw[Vc.mp hy];show c.2
   ·rw[Vc.mp hy]
   ·show(ne<|(Nat.lt_one_iff.mp hi).trans (Nat.lt_one_iff.mp hj).symm).elim
  ·rw[if_neg c]at h;cases h
 |[x,y],h=>
  let h:(if((fk x=1/\fk y=1)/\x.ky 20=true/\y.ky 20=true)/\twF x≠twF y then a_ (if ltF y x=true then[y,x] else[x,y]) else b_)=a_ zs:=h;by_cases c:((fk x=1/\fk y=1)/\x.ky 20=true/\y.ky 20=true)/\twF x≠twF y
  ·rw[if_pos c]at h;let⟨⟨⟨f1,f2⟩,k1,k2⟩,ne⟩:=c;cases h
   refine⟨by simp,⟨1,⋯,λz hz=>?_,λz hz=>?_,λi j hi hj n=>⟨rfl,?_⟩⟩,λps hp hs=>?_⟩
   ·rcases U9.mp hz with rfl|hz
    ·show k1
    ·rw[Vc.mp hz];show k2
   ·rcases U9.mp hz with rfl|hz
    ·show f1
    ·rw[Vc.mp hz];show f2
   ·match i,j,hi,hj with
    |0,0,_,_=>exact(n rfl).elim
    |0,1,_,_=>exact ne
    |1,0,_,_=>exact λz=>ne z.symm
    |1,1,_,_=>exact(n rfl).elim
   ·rcases twP hp with rfl|rfl
    ·let h1:ltF y x=false:=(Vt.mp hs).1 y UV;rw[h1];rfl
    ·let h1:ltF x y=false:=(Vt.mp hs).1 x UV;cases e:ltF y x with
     |true=>rfl
     |false=>exact(ne<|N7 h1 e).elim
  ·rw[if_neg c]at h;cases h
 |_::_::_::_,h=>cases h
def K7{m:Nat}(hm:m<3)(h:fk p=m):∃ps,p=.tup ps:=by
 cases p with
 |tup xs=>exact⟨xs,rfl⟩
 |_=>simp[fk]at h;omega
abbrev N9(C:MC):B_ V->Hp->VK->Prop:=λxs H Q=>∃φ p ys vs m,xs=[.ref p]/\SqL C.K H p vs/\E_ ys vs/\OkF m ys/\ys.length<64/\∀l zs jl,zs.Perm ys->zs.Pairwise (λa b=>ltF b a=false)->H l=b_->E_ zs jl->Q (.ref l) (R_ l<|.lst jl)
def De{k:Nat}(c:Y5 X):cO X (.builtin "sorted") (N9 C):=by
 intro jn s σ H xs us Q I r h;let⟨φ,p,ys,vs,m,rfl,sa,ra,ok,dh,fin⟩:=h;let⟨u,rfl,ru⟩:=vals1 r;cases ru
 let hu:X.A.in1.in1.units+19<cLine:=by
  have:=c.hu64
  change X.A.units+1+1+19<cLine
  omega
 let memD:∀i,i<ys.length->ys.getD i .non∈ys:=λi hi=>by
  have:ys.getD i .non=ys[i]:=by simp[hi]
  rw[this];show V9 hi
 refine yW (κ:=tuples'<|decide (m≠2)) (λits s1=>P1 s1/\aJ vs its) ?col ?fin
 case fin=>
  rintro its s1 ⟨I1,rv⟩;let l1:=rv.length;let l2:=ra.length;let hlen:its.length=ys.length:=⋯;let hr:HRs s1.heap ys its:=Ao I1 c.K 20 ok.ky ra rv;refine⟨⋯,λi j=>ltF (ys.getD i .non)<|ys.getD j .non,λi j k _ _ _ h1 h2=>N5 h1 h2,λi j _ _ h=>N6 h,λA' s' kp h0 Q' E' hq=>?_,λs' kp i j hi hj Q' hq=>?_,λq h' e a1 a2 kp he=>?_⟩
  ·show K4 ok.m3 (hr.kept kp) ok.fk h0 hq
  ·rw[hlen]at hi hj;let mi:=memD i hi;let mj:=memD j hj;let hq:Q' (ltF (ys.getD i .non)<|ys.getD j .non) s':=hq;by_cases ij:i=j
   ·subst ij;rw[K6]at hq;show Dc (n:=19) hu (ok.ky _ mi) (K7 ok.m3<|ok.fk _ mi) ((hr.kept kp).getD hi) ((hr.kept kp).getD hi) hq
   ·let⟨rfl,un⟩:=ok.un i j hi hj ij;show Fz (n:=19) hu (ok.ky _ mi) (ok.ky _ mj) (ok.fk _ mi) (ok.fk _ mj) un ((hr.kept kp).getD hi) ((hr.kept kp).getD hj) hq
  ·let cp:∀i∈q,i<ys.length:=λi hi=>by have:=a1.mem_iff.mp hi;rw[Xh]at this;omega
   rw[hlen]at a1;refine⟨.ref<|e_ s1,_,I1.laid (t':=s1.toks) (o:=.lst<|q.map λi=>vs.getD i .non) kp (U6 _) ?_,rfl,fin _ (q.map λi=>ys.getD i .non) _ (yX a1) ?_ I1.fresh<|ra.pick' cp⟩
   ·refine⟨?_,q.map<|λi=>its.getD i Vn,e,rA rv (λi hi=>by have:=cp i hi;omega),he⟩;rw[U5,a1.length_eq,XX,VQ];omega
   ·rw[V2];show a2
 case col=>
  let gv:SqL X.K H p vs:=by rw[c.K];show sa
  let⟨its,rv,pl,hz⟩:=I.list gv;refine collect_list pl.isList ?_ (by have:=rv.length;have:=ra.length;rw[VQ];omega);show⟨I.kept (t':=s.toks) λb o e=>by
   let ag:b<(e_ s):=Vd e
   first
    |(rw[Heap.get?_update_ne _ _ _ _<|Vh ag,XU _ _ _<|Vh ag];show e)
    |exact Zp e,rv⟩
abbrev mF:Y6 0->PH->Rs PV:=λxs h=>match xs with
 |[.ref n]=>match aM h n with
  |some ys=>match twS ys with
   |some zs=>.ok (.ref h.length) (h++[.lst zs])
   |none=>.bad
  |none=>.bad
 |_=>.bad
set_option tactic.hygienic true in
def K8{k:Nat}:lQ C k X (.builtin "sorted") mF:=λc=>cO.imp (De c) λvs H Q h=>by
 let⟨φ,h,ps,rh,rv,po⟩:=h;unfold mF at po;split at po
 ·rename_i n;split at po
  ·rename_i ys e;split at po
   ·rename_i zs ez;let⟨v,rfl,rx⟩:=rv.one;let⟨a,rfl,ha⟩:=rx;let⟨a2,vs,aj,sa,ra⟩:=bN rh e;rw[ha]at aj;cases aj;let⟨U0,⟨m,ok⟩,one⟩:=N8 ez;refine⟨φ,a,ys,vs,m,rfl,sa,ra,ok,U0,λl ps jl hp hs hl hr=>?_⟩;obtain rfl:=one ps hp hs;show po.lnew rh hr hl
   ·show po.elim
  ·show po.elim
 ·show po.elim
def FA(e:h[n]?=a_ (.lst ys))(hs:twS ys=a_ zs):mF [.ref n] h=.ok (.ref h.length) (h++[.lst zs]):=by
 let e1:aM h n=a_ ys:=by simp[aM,e]
 simp only[mF,e1,hs]
@[reducible]def KP:=Zt 0×PV
abbrev sT(x:KP):B_ KP->B_ KP
 |[]=>[x]
 |y::ys=>if bK y.1 x.1=true then y::sT x ys else x::y::ys
abbrev iJ:B_ KP->B_ KP
 |[]=>[]
 |x::xs=>sT x (iJ xs)
def oO(x:KP):∀ys,(sT x ys).Perm (x::ys)
 |[]=>.refl _
 |y::ys=>by
  unfold sT;split
  ·show((oO x ys).cons y).trans (.swap x y ys)
  ·show .refl _
def iV:∀xs,(iJ xs).Perm xs
 |[]=>.refl _
 |x::xs=>(oO x _).trans ((iV xs).cons x)
set_option tactic.hygienic true in
def qF{S:B_ Bool}{x:KP}(hx:shape x.1=S):∀{ys:B_ KP},(∀y∈ys,shape y.1=S)->ys.Pairwise (λa b=>bK b.1 a.1=false)->(sT x ys).Pairwise (λa b=>bK b.1 a.1=false)
 |[],_,_=>Ya _ _
 |y::ys,hs,hp=>by
  let hy:=hs y UV;let iy:=λz hz=>hs z<|U8 _ hz;rw[Vt]at hp;unfold sT;split
  ·rename_i h;rw[Vt];refine⟨λz hz=>?_,qF hx iy hp.2⟩;rcases U9.mp ((oO x ys).mem_iff.mp hz) with rfl|hz
   ·show tU h
   ·show hp.1 z hz
  ·rename_i h;let h':bK y.1 x.1=false:=by simpa using h
   rw[Vt];refine⟨λz hz=>?_,Vt.mpr hp⟩;rcases U9.mp hz with rfl|hz
   ·show h'
   ·show pX (hx.trans hy.symm) (hy.trans (iy z hz).symm) h' (hp.1 z hz)
def jD{S:B_ Bool}:∀{xs:B_ KP},(∀y∈xs,shape y.1=S)->(iJ xs).Pairwise (λa b=>bK b.1 a.1=false)
 |[],_=>.nil
 |x::xs,hs=>qF (hs x UV) (λy hy=>hs y (U8 _<|(iV xs).mem_iff.mp hy)) (jD λy hy=>hs y (U8 _ hy))
def zG{α β:Type}:∀{l:B_ (α×β)},(l.map (·.1)).Nodup->∀{a b:α×β},a∈l->b∈l->a.1=b.1->a=b
 |[],_,_,_,h,_,_=>nomatch h
 |x::l,nd,a,b,ha,hb,e=>by
  rw[Vi,Wl]at nd;rcases U9.mp ha with rfl|ha'
  ·rcases U9.mp hb with rfl|hb'
   ·rfl
   ·show(nd.1<|Vp.mpr ⟨b,hb',e.symm⟩).elim
  ·rcases U9.mp hb with rfl|hb'
   ·show(nd.1<|Vp.mpr ⟨a,ha',e⟩).elim
   ·show zG nd.2 ha' hb' e
def vQ{xs ys:B_ KP}(hs:∀y∈xs,shape y.1=S)(nd:(xs.map (·.1)).Nodup)(hp:ys.Perm xs)(h:ys.Pairwise (λa b=>bK b.1 a.1=false)):ys=iJ xs:=by refine X2 (le:=λa b=>bK b.1 a.1=false) (λa b ha hb h1 h2=>?_) h (jD hs)<|hp.trans (iV xs).symm;let ha':=hp.mem_iff.mp ha;let hb':=(iV xs).mem_iff.mp hb;show zG nd ha' hb'<|pW ((hs a ha').trans (hs b hb').symm) h2 h1
open Classical in
abbrev sortBy(b:Bool)(ks ys:Y6 0):C_ (Y6 0):=match vM ks with
 |some af=>if af.length<64/\af.length=ys.length/\tN af=true/\af.Nodup then a_ ((PySem.W.katRev b<|iJ<|af.zip ys).map (·.2)) else b_
 |none=>b_
def FC(h1:af.length<64)(h2:af.length=ys.length)(h3:tN af=true)(h4:af.Nodup):sortBy b (af.map tP) ys=a_ ((PySem.W.katRev b<|iJ<|af.zip ys).map (·.2)):=by unfold sortBy;rw[Bz];show if_pos ⟨h1,h2,h3,h4⟩
abbrev iW(f:Fn)(b:Bool)(ys:Y6 0):Y6 0->Y6 0->PH->Rs PV
 |[],ks,h=>match sortBy b ks ys with
  |some zs=>.ok (.ref h.length) (h++[.lst zs])
  |none=>.bad
 |x::xs,ks,h=>(f [x] h).bind λk h1=>iW f b ys xs (ks++[k]) h1
abbrev jE(x:PV)(h:PH):C_ (Y6 0):=match x with
 |.ref n=>match aM h n with
  |some ys=>a_ ys
  |none=>vO h n
 |.fl ys=>a_ ys
 |_=>b_
abbrev jF(f:Fn)(b:Bool)(x:PV)(h:PH):Rs PV:=match jE x h with
 |some ys=>if ys.length<64 then iW f b ys ys [] h else .bad
 |none=>.bad
abbrev kJ(f:Fn)(b:Bool)(me:Me):Me:=λδ h=>(me δ h).bind λx h1=>jF f b x h1
def RVs.pick(r:ZV 0):∀{p:B_ Nat},(∀i∈p,i<xs.length)->E_ (p.map λi=>xs.getD i .non) (p.map λi=>vs.getD i .non)
 |[],_=>trivial
 |i::p,h=>by
  let hi:=h i UV;let g:xs[i]?=a_ (xs.getD i .non):=by simp[hi]
  let⟨v,hv,hr⟩:=r.at g;let e:vs.getD i .non=v:=by simp[Wv,hv]
  refine⟨?_,RVs.pick r λj hj=>h j<|U8 _ hj⟩
  change D_ (xs.getD i .non) (vs.getD i .non)
  rw[e];show hr
def Hv{σ:St}(I:P1 s)(ha:(e_ s)<=a):X.s₀.heap.objs.size<=a/\a≠X.env.locals/\(∀x c,T_ 0=a_ c->c≠a)/\(∀p∈X.pn++jn,p.1≠a)/\a∉X.fs:=by
 refine⟨VS I.sz ha,WR<|Vs I.lt ha,λx c e z=>?_,λp hp z=>?_,I.nofs ha⟩
 ·let⟨v,o,ho,_⟩:=I.cell x c e;rw[z]at ho;show absurd (Vs (Vd ho) ha)<|WY _
 ·let ho:=(I.pin p hp).1;rw[z]at ho;show absurd (Vs (Vd ho) ha)<|WY _
def mG{its:YY 0}{e:Nat}:∀v,(seqObj "list" its e).data≠.cell v:=λv z=>Zq 0
def Inv.adopt{σ:St}{d:t_}{o:HO}(I:P1 s)(ha:H a=b_)(hd:H d=b_)(fa:X.s₀.heap.objs.size<=a/\a≠X.env.locals/\(∀x c,T_ 0=a_ c->c≠a)/\(∀p∈X.pn++jn,p.1≠a)/\a∉X.fs)(fd:X.s₀.heap.objs.size<=d/\d≠X.env.locals/\(∀x c,T_ 0=a_ c->c≠d)/\(∀p∈X.pn++jn,p.1≠d)/\d∉X.fs)(kp:∀x u,x≠a->x≠d->s.heap.get? x=a_ u->h'.get? x=a_ u)(new:Zl (R_ a o) h' a o):i_ (R_ a o) {s with heap:=h'}:=by
 let na:∀x u,H x=a_ u->x≠a:=λx u e z=>by rw[z,ha]at e;cases e
 let nd:∀x u,H x=a_ u->x≠d:=λx u e z=>by rw[z,hd]at e;cases e
 refine I.call' (s':={s with heap:=h'}) (ch:=[a,d]) rfl ⟨λb u q n _ hx=>?_,λb u q n _ hx=>⟨u.slots,?_⟩,λb u q n hx=>?_,λb u q hx=>⟨u,?_⟩,λb xs q=>?_,λb u xs q=>?_,λb ps q=>⟨#[],?_⟩⟩ (λb u e=>?_) I.bare λb hb=>?_
 ·show kp b u (λz=>hx<|by simp[z]) (λz=>hx<|by simp[z]) q
 ·show kp b u (λz=>hx<|by simp[z]) (λz=>hx<|by simp[z]) q
 ·rw[aH<|λz=>hx<|by simp[z]];show n
 ·show kp b u (λz=>hx<|by simp[z]) (λz=>hx<|by simp[z]) q
 ·rw[aH<|na _ _ q];show q
 ·rw[aH<|na _ _ q];show q
 ·rw[aH<|na _ _ q,q];simp
 ·by_cases hb:b=a
  ·subst hb;rw[aK]at e;cases e;show new
  ·rw[aH hb]at e;refine(I.hok b u e).stay (λc v hc q=>kp c v ?_ ?_ q) (λc q=>by rw[aH<|na _ _ q];show q) λc xs q=>by rw[aH<|na _ _ q];show q
   ·rcases hc with z|z
    ·rw[z];show hb
    ·show na _ _ z
   ·rcases hc with z|z
    ·rw[z];show nd _ _ e
    ·show nd _ _ z
 ·rcases U9.mp hb with rfl|hb
  ·show⟨.inr fa.1,fa.2.1,fa.2.2.1,fa.2.2.2.1⟩
  ·rw[Vc.mp hb];show⟨.inr fd.1,fd.2.1,fd.2.2.1,fd.2.2.2.1⟩
abbrev N'(C:MC)(X:Cx)(jn:g_ 0)(σ:St)(φ:B_ t_)(H:Hp)(f:Fn)(b:Bool)(ys:Y6 0)(Q:VK)(a z:t_)(kS:t_)(e1:Nat)(ks:ZQ 0)(e:Nat)(s':td):Prop:=z<kS/\∃H' φ' h' zs ps,Inv X (jn++[(kS,seqObj "list" ks.toArray e),(a,seqObj "list" #[] e1)]) σ H' s'/\φ<+:φ'/\ZA H'/\Zj h'/\aJ zs ks/\RVs C φ' H' ps zs/\post C φ' H' (iW f b ys (ys.drop ks.length) ps h') Q
variable{A':v_}{pn:Zg 0}
def Hw{k:Nat}{q:t_}{f:Fn}{σ:St}{us:B_ V}{Q:VK}(c:Y5 X)(D:Def C.K X.mg x st q fd pn)(G:M_ q fd pn (spM C 1 f))(hj:j+2<=k)(ry:E_ ys us)(rv:aJ us its)(eA:A'=X.A.in1.in1)(fr:∀kS,a<=kS->X.s₀.heap.objs.size<=kS/\kS≠X.env.locals/\(∀x c,T_ 0=a_ c->c≠kS)/\(∀p∈X.pn++jn,p.1≠kS)/\kS∉X.fs)(kS:t_)(e1:Nat)(ks:ZQ 0)(e:Nat)(s':td)(y:s_)(hy:its[ks.length]?=a_ y)(hJ:N' C X jn σ φ H f b ys Q a a kS e1 ks e s'):
  wpAny (h_ X) A' (call (.ref q) [y]) (λv di=>di.heap.get? kS=a_ (seqObj "list" ks.toArray e)/\∀(h':w_) e',WD kS di.heap h'->h'.get? kS=a_ (seqObj "list" (ks++[v]).toArray e')->N' C X jn σ φ H f b ys Q a a kS e1 (ks++[v]) e' { di with heap:=h'}) (λ_ _=>False) s':=by
 subst eA;let⟨hz,H',φ',h',zs,ps,I,pp,tt,rh,rz,rp,po⟩:=hJ;let ag:ks.length<its.length:=(SC.mp hy).1;let Sz:us.length=its.length:=rv.length;let RW:ys.length=us.length:=ry.length;let gy:ys[ks.length]?=a_ (ys[ks.length]'⋯):=by simp
 let⟨u,hu,ru⟩:=ry.at gy;let⟨y',jk,Tn⟩:=rv.get hu;rw[hy]at jk;cases jk
 let hd:ys.drop ks.length=ys[ks.length]'⋯::ys.drop (ks.length+1):=drop_cons gy;rw[hd]at po;let vv:=c.K;let G':L_ CX0 j q fd pn (spM C 1 f):=by rw[vv];show G
 let D':Def X.K X.mg x st q fd pn:=by rw[vv];show D
 let z7:spM C 1 f [u] H' (λv H2=>∃φ2 p h2,φ'<+:φ2/\Kp H' H2/\RH C φ2 H2 h2/\RV C φ2 H2 p v/\post C φ2 H2 (iW f b ys (ys.drop (ks.length+1)) (ps++[p]) h2) Q) E0:=⟨φ',h',[ys[ks.length]'⋯],rh,⟨ru.mono pp tt,trivial⟩,rfl,post.bind po⟩;let hl:([y]:ZQ 0).length=pn.length:=G'.len _ _ _ _ z7;refine wpAny_call (codeAny_mono (G'.run X.A.in1.in1 X.stack s' H' ⟨[y],[]⟩ [y] [u] _ E0 ((c.room.mono hj).in1.in1) I.env0.in1.in1 (by
  have:=D'.bd s' [y] I.kIn<|l_ hl
  simpa using this) (.cons Tn .nil) z7) λr s2 hq=>?_)
 cases r with
 |error e=>exact hq.elim
 |ok fl=>
  cases fl with
  |next=>exact WW hq
  |brk=>exact WW hq
  |cont=>exact WW hq
  |ret v=>
   let⟨x2,H2,I2,US,φ2,p2,h2,zr,Sw,ah,yt,Ti⟩:=I.after hq;let gk:=I2.pin (kS,seqObj "list" ks.toArray e)<|Vf _<|Vf _ UV;let ga:=I2.pin (a,seqObj "list" #[] e1)<|Vf _<|Vf _<|U8 _ UV;refine⟨gk.1,λg e' sb jt=>?_⟩;let fk:=fr kS<|Xu hz;let TU:a≠kS:=Vh hz;let I3:Inv X (jn++[(a,seqObj "list" #[] e1)]) σ H2 s2:=I2.pins_of λp hp=>(Vx.mp hp).elim (λz=>I2.pin p<|Vf _<|Wc _ z) λz=>by rw[Vc.mp z];show ga
   let I4:=I3.turned (t':=s2.toks) (it:=kS) (h':=g) (λb' o' hb hq=>(sb.2 b' hb).trans hq) gk.2.1 fk.2.1 (.inr fk.1) fk.2.2.1 (λp hp=>by
    rcases Vx.mp hp with hp|hp
    ·show fk.2.2.2.1 p (Wc _ hp)
    ·rcases Vx.mp hp with hp|hp
     ·show fk.2.2.2.1 p (Vf _ hp)
     ·rw[Vc.mp hp];show TU)
   refine⟨hz,H2,φ2,h2,zs++[x2],ps++[p2],I4.pins_of λp hp=>?_,pp.trans zr,tt.trans Sw,ah,rz.append<|.cons US .nil,(rp.mono zr Sw).snoc yt,?_⟩
   ·rcases Vx.mp hp with hp|hp
    ·show I4.pin p (Vf _<|Wc _ hp)
    ·rcases U9.mp hp with rfl|hp
     ·show⟨jt,gk.2.1,fk.2.1,fk.2.2.2.2,mG⟩
     ·rw[Vc.mp hp];show I4.pin _<|Vf _<|Vf _ UV
   ·rw[WL];show Ti
def BG(hl:af.length=ys.length)(hs:∀y∈af,shape y=S)(nd:af.Nodup){p:B_ Nat}(hp:p.Perm (Vm ys.length))(ho:p.Pairwise (λi j=>(if b then bK (af.getD i []) (af.getD j []) else bK (af.getD j []) (af.getD i []))=false)):p.map (λi=>ys.getD i .non)=(PySem.W.katRev b<|iJ<|af.zip ys).map (·.2):=by
 letI zs:=af.zip ys;let TR:zs.length=ys.length:=by change(af.zip ys).length=_;simp[hl]
 let cp:∀i∈p,i<ys.length:=λi hi=>by simpa using hp.mem_iff.mp hi
 let eg:∀i,i<ys.length->zs.getD i ([],.non)=(af.getD i [],ys.getD i .non):=λi hi=>by
  let h1:i<af.length:=⋯;let h2:i<zs.length:=⋯;let h3:(af.zip ys)[i]?=a_ (af[i],ys[i]):=by rw[List.getElem?_zip_eq_some];show⟨by simp[h1],by simp[hi]⟩
  change(af.zip ys).getD i _=_
  simp[h1,hi,h3]
 let Sy:(p.map λi=>zs.getD i ([],.non)).Perm zs:=yX (by rw[TR];show hp);let hm:zs.map (·.1)=af:=by
  change(af.zip ys).map Prod.fst=af
  show List.map_fst_zip ⋯
 let hsz:∀y∈zs,shape y.1=S:=λy hy=>hs _ (by rw[<-hm];show Vp.mpr ⟨y,hy,rfl⟩);let e2:p.map (λi=>ys.getD i .non)=(p.map λi=>zs.getD i ([],.non)).map (·.2):=by rw[VJ];show WC λi hi=>by change _=(zs.getD i _).2;rw[eg i<|cp i hi]
 rw[e2];let key:∀(R:Nat->Nat->Bool),p.Pairwise (λi j=>R i j=false)->(∀i j,i<ys.length->j<ys.length->R i j=bK (zs.getD j ([],.non)).1 (zs.getD i ([],.non)).1)->(p.map λi=>zs.getD i ([],.non)).Pairwise (λx y=>bK y.1 x.1=false):=λR h1 h2=>by rw[V2];show h1.imp_of_mem λ{i j} hi hj h=>by rw[<-h2 i j (cp i hi) (cp j hj)];show h
 cases b with
 |false=>
  congr 1;refine vQ hsz (by rw[hm];show nd) Sy (key (λi j=>bK (af.getD j [])<|af.getD i []) ho λi j hi hj=>by rw[eg i hi,eg j hj])
 |true=>
  congr 1;let hr:(p.map λi=>zs.getD i ([],.non)).reverse=iJ zs:=by refine vQ hsz (by rw[hm];show nd) ((List.reverse_perm _).trans Sy) ?_;rw[List.pairwise_reverse,V2];show ho.imp_of_mem λ{i j} hi hj h=>by rw[eg i<|cp i hi,eg j<|cp j hj];show h
  change _=(iJ zs).reverse
  rw[<-hr,List.reverse_reverse]
variable{kw:B_ (Str×s_)}
set_option tactic.hygienic true in
def vR{k:Nat}{q:t_}{f:Fn}(c:Y5 X)(D:Def C.K X.mg x st q fd pn)(G:M_ q fd pn (spM C 1 f))(hj:j+2<=k)(o5:∀v,argsOk "sorted" ⟨[v],kw⟩)(aj:∀v,argsOk "list.sort" ⟨[.ref v],kw⟩)(ht:∀v,Builtin.«list.sort» ⟨[.ref v],kw⟩=ksk_tree v (.ref q) b){σ:St}{Q:VK}(I:P1 s)(ru:ZJ u)(h:r1 C (jF f b) v H Q):
  wpAny (h_ X) X.A (call (.builtin "sorted") [u] kw) (Za Q) X.xe s:=by
 let⟨φ,h,p,rh,rp,po⟩:=h;unfold jF at po;cases ei:jE p h with
 |none=>rw[ei]at po;show po.elim
 |some ys=>
 rw[ei]at po;let⟨dh,po⟩:=po.ite;refine call_function_entry_kw kind_sorted plain_sorted entry_sorted (o5 u) ?_;unfold Builtin.«sorted»;refine SB (m:=checkCount "sorted" 1 1 _)<|SL ?_;let col:wpAny (h_ X) X.A.in1 (collect u) (λits s1=>∃us,P1 s1/\aJ us its/\E_ ys us) X.xe s:=by
  let kn:∀{a:t_}{vs:B_ V},v=.ref a->SqL C.K H a vs->E_ ys vs->wpAny (h_ X) X.A.in1 (collect u) (λits s1=>∃us,P1 s1/\aJ us its/\E_ ys us) X.xe s:=λ{a vs} ev sa ra=>by
   subst ev;cases ru
   let gv:SqL X.K H a vs:=by rw[c.K];show sa
   let⟨its,rv,pl,hz⟩:=I.list gv;refine collect_list pl.isList ?_ (by have:=rv.length;have:=ra.length;rw[VQ];omega);show⟨vs,I.kept (t':=s.toks) λb o e=>by
    let ag:b<(e_ s):=Vd e
    first
     |(rw[Heap.get?_update_ne _ _ _ _<|Vh ag,XU _ _ _<|Vh ag];show e)
     |exact Zp e,rv,ra⟩
  unfold jE at ei;split at ei
  ·rename_i n;split at ei
   ·rename_i ys' e;cases ei
    let⟨a,ev,ha⟩:=rp;let⟨a2,vs,aj,sa,ra⟩:=bN rh e;rw[ha]at aj;cases aj;show kn ev sa ra
   ·unfold vO at ei;split at ei
    ·rename_i d hv;let⟨a,ev,ha⟩:=rp;subst ev;cases ru
     let⟨bb,hb,hH⟩:=YZ hv;let⟨hT,hm,hz,oc,es,ep,g1,g2,ws,r1,r2⟩:=BB c I rh hb ei;let U1:s.heap.IsValuesView a bb:=(I.hok a _ hH).1;let hn:es.size<=Ve:=by
      let e1:=r1.length;let e2:ws.length=es.size:=by have:=r2.length;simpa using this
      rw[<-e2,<-e1];show hz
     refine PySem.W.kdu_collect (GM (r:=a) g2) (I.ok.hd c.calm) ⟨U1,g1⟩ hn λh' tk acc hk aw=>?_;show⟨ws,I.kept (t':=tk) hk,by rw[Hu aw];show r2,r1⟩
    ·cases ei
  ·cases ei
   let⟨a,vs,ev,sa,ra⟩:=rp;show kn ev sa.sq ra
  ·cases ei
 refine SB<|WE col (λits s1 hh=>?_) λ_ _ z=>z;let⟨us,I1,rv,ry⟩:=hh;let Sz:us.length=its.length:=rv.length;let RW:ys.length=us.length:=ry.length;refine SB (wpAny_newList ?_ (by rw[VQ];omega));let gw:(s1.heap.push<|seqObj "list" its.toArray 0).get? (e_ s1)=a_ (seqObj "list" its.toArray 0):=Zc 0;let keep:∀b o,s1.heap.get? b=a_ o->b≠(e_ s1)/\(s1.heap.push<|seqObj "list" its.toArray 0).get? b=a_ o:=λb o q=>⟨Vh<|Vd q,Zp q⟩;let fr:∀kS,(e_ s1)<=kS->X.s₀.heap.objs.size<=kS/\kS≠X.env.locals/\(∀x c,T_ 0=a_ c->c≠kS)/\(∀p∈X.pn++jn,p.1≠kS)/\kS∉X.fs:=λkS hk=>Hv I1 hk
 change u_ _ _ _ {s1 with heap:=s1.heap.push (seqObj "list" its.toArray 0)}
 refine SB<|VO<|wpAny_call_entry_kw slot_list_sort ⟨_,gw,rfl⟩ entry_list_sort ?body<|aj _
 case body=>
  change wpAny (h_ X) X.A.in1.in1 (Builtin.«list.sort» ⟨[.ref<|e_ s1],kw⟩) _ _ _
  rw[ht<|e_ s1];refine CP (s:={s1 with heap:=s1.heap.push (seqObj "list" its.toArray 0)}) (a:=(e_ s1)) (κ:=tuples' true) (vs:=its) gw ⋯ (N' C X jn σ φ H f b ys Q (e_ s1)<|e_ s1) ?h0 ?dq ?turn ?fin
  case h0=>
   intro kS e1 h' kp hk g1 g2;let d9:(e_ s1)<kS:=by have:(s1.heap.push<|seqObj "list" its.toArray 0).objs.size<=kS:=hk;rw[Xi]at this;show this
   let I2:P1 {s1 with heap:=h'}:=I1.kept (t':=s1.toks) λb o q=>kp b o (keep b o q).1 (keep b o q).2;let fk:=fr kS<|Xu d9;let fa:=fr (e_ s1)<|U6 _;refine⟨d9,H,φ,h,[],[],I2.pins_of λp hp=>?_,Vb,Kp.refl H,rh,.nil,trivial,po⟩;rcases Vx.mp hp with hp|hp
   ·show I2.pin p (Vf _ hp)
   ·rcases U9.mp hp with rfl|hp
    ·show⟨g2,I1.hok.fresh<|Xu d9,fk.2.1,fk.2.2.2.2,mG⟩
    ·rw[Vc.mp hp];show⟨g1,I1.hok.fresh<|U6 _,fa.2.1,fa.2.2.2.2,mG⟩
  case dq=>rintro kS e1 ks e s' ⟨hz,H',φ',h',zs,ps,I',_⟩;show⟨WR hz,(I'.pin (s1.heap.objs.size,seqObj "list" #[] e1)<|Vf _<|Vf _<|U8 _ UV).1,(I'.pin (kS,seqObj "list" ks.toArray e)<|Vf _<|Vf _ UV).1⟩
  case turn=>intro kS e1 ks e s' y hy hJ;show Hw c D G hj ry rv rfl fr kS e1 ks e s' y hy hJ
  case fin=>
   rintro kS e1 ks e s' hl ⟨hz,H',φ',h',zs,ps,I',pp,tt,bp,rz,rp',po'⟩;let hd:ys.drop ks.length=[]:=List.drop_eq_nil_of_le ⋯;rw[hd]at po';unfold iW at po';cases es:sortBy b ps ys with
   |none=>rw[es]at po';show po'.elim
   |some out=>
   rw[es]at po';unfold sortBy at es;split at es
   ·rename_i af ek;split at es
    ·rename_i hc;let⟨hc1,f7,Ua,Tx⟩:=hc;cases es
     let ep:=By ek;subst ep;let⟨bb,sh,hsh⟩:=D9 Ua;let rr:dH X.K H' (af.map tD) zs:=by rw[c.K];show E8.mp rp'
     let tk:=uV I' rr rz;let ia:∀i,i<its.length->shape (af.getD i [])=bb::sh:=λi hi=>by
      let ak:i<af.length:=⋯;have:af.getD i []=af[i]:=by simp[ak]
      rw[this];show hsh _<|V9 ak
     refine⟨λi j=>bK (af.getD i [])<|af.getD j [],λi j k hi hj hk h1 h2=>?_,λi j _ _ h=>tU h,λh2 Q' E' hq=>?_,λi j hi hj Q' hq=>?_,λp g e2 a1 a2 kp he gk=>?_⟩
     ·show pX ((ia i hi).trans (ia j hj).symm) ((ia j hj).trans (ia k hk).symm) h1 h2
     ·show F5 tk hsh ⋯ hq
     ·let⟨a,ua,q1,p1,r1⟩:=tk.get (i:=i) ⋯;let⟨d,ud,q2,p2,r2⟩:=tk.get (i:=j) ⋯;rw[q1,q2];show CB p1 p2 r1 r2 ((ia i hi).trans (ia j hj).symm) hq
     ·let cp:∀i∈p,i<its.length:=λi hi=>by simpa using a1.mem_iff.mp hi
      let fa:=fr (e_ s1)<|U6 _;let fk:=fr kS<|Xu hz;let Ui:=I'.pin (kS,seqObj "list" ks.toArray e)<|Vf _<|Vf _ UV;let zw:=I'.pin (s1.heap.objs.size,seqObj "list" #[] e1)<|Vf _<|Vf _<|U8 _ UV;let I5:i_ H' s':=I'.unpinned;let I6:=I5.adopt (a:=(e_ s1)) (d:=kS) (o:=.lst<|p.map λi=>us.getD i .non) (h':=g) zw.2.1 Ui.2.1 fa fk (λx o h1 h2 q=>kp x o h1 h2 q) (by refine⟨?_,p.map<|λi=>its.getD i Vn,e2,rA rv (λi hi=>by have:=cp i hi;omega),he⟩;rw[U5,a1.length_eq,XX,VQ];omega)
      refine⟨_,rfl,SL ⟨_,rfl,.ref<|e_ s1,_,I6,rfl,?_⟩⟩;refine po'.lnew bp ?_ zw.2.1;rw[<-BG (b:=b) f7 hsh Tx (p:=p) (by rw[RW,Sz];show a1) a2];show(ry.mono pp tt).pick (λi hi=>by have:=cp i hi;omega)
    ·cases es
   ·cases es
variable{e7 kp:Pos}{kf:Str}
section
variable{q:t_}{jb:Nat}{f:Fn}{p rp i7:Pos}
def BH{Q:VK}{σ:St}(h:rd C (kJ f b me) σ H Q):L7 (rd C me) Jh σ H λvs H1=>∃x,vs=[x]/\r1 C (jF f b) x H1 Q:=by let⟨φ,δ,h,rh,re,po⟩:=h;refine⟨φ,δ,h,rh,re,(post.bind po).imp ?_⟩;rintro v H1 ⟨φ1,x,h1,p1,t1,aa,ab,q1⟩;show⟨v,rfl,φ1,h1,x,aa,ab,q1⟩
def K9{k:Nat}(D:Def C.K X.mg kf st q fd pn)(G:M_ q fd pn (spM C 1 f))(he:G_ e me)(hb:("sorted" : Str)∈C.bs)(hj:j+2<=k:=by decide)(hg:Gl X "sorted" := by rfl)(ze:Gl X kf:=by rfl)(hdk:(kf == ("__debug__" : Str))=false:=by decide)(cg:Vl [e] X.env=(false,U_ 0)::Vl [] X.env:=by rfl)(xf:Y1 (Vl [e] X.env)=(false,U_ 0)::Y1 (Vl [] X.env):=by rfl)(a7:(Y1<|Vl [e] X.env).any (·.1)=false:=by rfl):
  G_ (.Call (.Name "sorted" p) [e] [⟨a_ "key",.Name kf kp,e7⟩] pos) (kJ f false me):=λc jn s σ H Q I h=>by
 refine Wh<|jB I hg (c.bn _ hb) PyProof.Rows.Boot.«sorted» ?_ nofun nofun;refine callWith_kw (thn (nA (he c) qT cg pos jn s σ H _ I<|BH h) λus s1 hh=>?_) xf a7;let⟨vs,H1,I1,rv,x,rfl,r⟩:=hh;let⟨u,rfl,ru⟩:=vals1 rv;refine kws_cons<|jX I1 ze D.mg (kws_nil ?_) hdk
 change u_ (call (.builtin "sorted") [u] [(Vg "key",.ref q)]) _ _ _
 show vR c D G hj (λv=>ksk_s1 _ _) (λv=>ksk_l1 _ _) (λv=>ksk_t1 _ _) I1 ru r
def Hx{k:Nat}(D:Def C.K X.mg kf st q fd pn)(G:M_ q fd pn (spM C 1 f))(he:G_ e me)(hb:("sorted" : Str)∈C.bs)(hj:j+2<=k:=by decide)(hg:Gl X "sorted" := by rfl)(ze:Gl X kf:=by rfl)(hdk:(kf == ("__debug__" : Str))=false:=by decide)(cg:Vl [e] X.env=(false,U_ 0)::Vl [] X.env:=by rfl)(xf:Y1 (Vl [e] X.env)=(false,U_ 0)::Y1 (Vl [] X.env):=by rfl)(a7:(Y1<|Vl [e] X.env).any (·.1)=false:=by rfl):
  G_ (.Call (.Name "sorted" p) [e] [⟨a_ "key",.Name kf kp,e7⟩,⟨a_ "reverse",.Constant (.bool b) jb rp,i7⟩] pos) (kJ f b me):=λc jn s σ H Q I h=>by
 refine Wh<|jB I hg (c.bn _ hb) PyProof.Rows.Boot.«sorted» ?_ nofun nofun;refine callWith_kw (thn (nA (he c) qT cg pos jn s σ H _ I<|BH h) λus s1 hh=>?_) xf a7;let⟨vs,H1,I1,rv,x,rfl,r⟩:=hh;let⟨u,rfl,ru⟩:=vals1 rv;refine kws_cons<|jX I1 ze D.mg (kws_cons<|Constant_bool<|kws_nil ?_) hdk
 change u_ (call (.builtin "sorted") [u] [(Vg "key",.ref q),(Vg "reverse",.bool b)]) _ _ _
 show vR c D G hj (λv=>ksk_s2 _ _ _) (λv=>ksk_l2 _ _ _) (λv=>ksk_t2 _ _ _) I1 ru r
end
open PySem
section
variable{α:Type}(key:α->Zt 0)
abbrev vS(x:α):B_ α->B_ α
 |[]=>[x]
 |y::ys=>if bK (key y) (key x)=true then y::vS x ys else x::y::ys
abbrev jR:B_ α->B_ α
 |[]=>[]
 |x::xs=>vS key x (jR xs)
variable{key}
def zH(x:α):∀ys,(vS key x ys).Perm (x::ys)
 |[]=>.refl _
 |y::ys=>by
  unfold vS;split
  ·show((zH x ys).cons y).trans (.swap x y ys)
  ·show .refl _
def oP:∀xs,(jR key xs).Perm xs
 |[]=>.refl _
 |x::xs=>(zH x _).trans ((oP xs).cons x)
def BI(f:α->PV)(x:α):∀ys:B_ α,sT (key x,f x) (ys.map λy=>(key y,f y))=(vS key x ys).map λy=>(key y,f y)
 |[]=>rfl
 |y::ys=>by
  rw[Vi];unfold sT vS;dsimp only;split
  ·rw[BI f x ys];rfl
  ·rfl
def rP(f:α->PV):∀xs:B_ α,iJ (xs.map λy=>(key y,f y))=(jR key xs).map λy=>(key y,f y)
 |[]=>rfl
 |x::xs=>by rw[Vi];unfold iJ jR;rw[rP f xs,BI]
def As(f:α->PV){xs:B_ α}(hs:∀x∈xs,shape (key x)=S):(jR key xs).Pairwise (λa b=>bK (key b) (key a)=false):=by
 let h:=jD (S:=S) (xs:=xs.map λy=>(key y,f y)) (λy hy=>by let⟨x,hx,rfl⟩:=Vp.mp hy;show hs x hx);rw[rP,V2]at h;show h
def BJ{β γ:Type}(f:α->β)(g:α->γ):∀xs:B_ α,(xs.map f).zip (xs.map g)=xs.map λx=>(f x,g x)
 |[]=>rfl
 |x::xs=>by simp[BJ f g xs]
def BK{f:α->PV}{xs:B_ α}(h1:xs.length<64)(h3:tN (xs.map key)=true)(h4:(xs.map key).Nodup):sortBy b ((xs.map key).map tP) (xs.map f)=a_ ((PySem.W.katRev b<|jR key xs).map f):=by
 rw[FC (l_ h1) (by simp) h3 h4,BJ,rP];cases b with
 |false=>
  change a_ (((jR key xs).map λy=>(key y,f y)).map Prod.snd)=a_ ((jR key xs).map f)
  rw[VJ];rfl
 |true=>
  change a_ ((((jR key xs).map λy=>(key y,f y)).reverse).map Prod.snd)=a_ ((jR key xs).reverse.map f)
  rw[<-List.map_reverse,VJ];rfl
def Df{f:Fn}{b:Bool}{emb:α->PV}{ys zs:Y6 0}{Q:PV->PH->Prop}:∀(r done:B_ α)(h:PH),(∀d∈r,∀h(Q:PV->PH->Prop),(∀h',O_ h'->Q (tP<|key d) h')->(f [emb d] h).W Q)->
  sortBy b (((done++r).map key).map tP) ys=a_ zs->(∀h',O_ h'->Q (.ref h'.length) (h'++[.lst zs]))->(iW f b ys (r.map emb) ((done.map key).map tP) h).W Q
 |[],done,h,_,hs,k=>by rw[Wy]at hs;simp only[List.map_nil,iW,hs,Ah];show k h<|Ext.refl h
 |x::r,done,h,hf,hs,k=>by
  rw[Vi];unfold iW;rw[CZ];refine hf x UV h _ λh1 x1=>?_;let e:(done.map key).map tP++[tP<|key x]=((done++[x]).map key).map tP:=by simp
  rw[e];show Df r (done++[x]) h1 (λd hd=>hf d<|U8 _ hd) (by rw[XS];show hs) λh' x2=>k h'<|x1.trans x2
def Ed{f:Fn}{emb:α->PV}{xs:B_ α}{x:PV}{Q:PV->PH->Prop}(e:jE x h=a_ (xs.map emb))(h1:xs.length<64)(h3:tN (xs.map key)=true)(hs:∀x∈xs,shape (key x)=S)(h4:(xs.map key).Nodup)(hf:∀d∈xs,∀h(Q:PV->PH->Prop),(∀h',O_ h'->Q (tP<|key d) h')->(f [emb d] h).W Q)(k:∀(os:B_ α) h',O_ h'->os.Perm xs->os.Pairwise (λp q=>(if b then bK (key p) (key q) else bK (key q) (key p))=false)->Q (.ref h'.length) (h'++[.lst<|os.map emb])):(jF f b x h).W Q:=by
 unfold jF;rw[e];dsimp only;rw[if_pos<|l_ h1];refine Df (key:=key) xs [] h hf (BK h1 h3 h4) λh' hx=>k _ h' hx ?_ ?_
 ·cases b with
  |false=>exact oP xs
  |true=>exact(List.reverse_perm _).trans (oP xs)
 ·let hp:=As emb hs;cases b with
  |false=>exact hp
  |true=>
   change((jR key xs).reverse).Pairwise _
   rw[List.pairwise_reverse];show hp
end
@[simp]theorem NX{f:Fn}:kJ f b m δ h=(m δ h).bind λx h1=>jF f b x h1:=(rfl)
def vT(e:h[n]?=a_ (.lst xs)):jE (.ref n) h=a_ xs:=by simp[jE,aM,e]
set_option tactic.hygienic true in
def zI(e:bB h n=a_ kvs):kI h n=a_ (kvs.map (·.2)):=by
 unfold bB at e;split at e
 ·rename_i q;cases e;simp[kI,q]
 ·rename_i q;cases e;simp[kI,q]
 ·cases e
set_option tactic.hygienic true in
def aY(e:bB h n=a_ kvs):∃o,h[n]?=a_ o/\bR (.ref n) h=true/\∀h',h'[n]?=a_ o->bB h' n=a_ kvs:=by
 unfold bB at e;split at e
 ·rename_i q;cases e;show⟨_,q,by simp[bR,q],λh' e=>by simp[bB,e]⟩
 ·rename_i q;cases e;show⟨_,q,by simp[bR,q],λh' e=>by simp[bB,e]⟩
 ·cases e
def cD{h':PH}(x:O_ h')(e:bB h n=a_ kvs):bB h' n=a_ kvs:=by let⟨o,g,_,k⟩:=aY e;show k h'<|x _ _ g
def BL{d:Nat}(e:h[n]?=a_ (.vw 1 d))(e2:bB h d=a_ kvs):jE (.ref n) h=a_ (kvs.map (·.2)):=by
 let e1:aM h n=b_:=by simp[aM,e]
 simp only[jE,e1,vO,e];show zI e2
def K'{d:Nat}(e:bB h d=a_ kvs):zE (.ref d) [] h=.ok (.ref h.length) (h++[.vw 1 d]):=by simp[zE,zI e]
def Dg(e:bB h n=a_ kvs)(hk:(PV.tup xs).ky 6=true)(hl:kvs.length<16777216):rJ (.ref n) (.tup xs) z h=a_ (ZO<|.dD<|bM kvs (.tup xs) z):=by
 let k1:(PV.tup xs).isKt=true:=hk;let dv:kvs.length<Ve:=by rw[gY];show hl
 unfold rJ;simp only[oI,k1,if_true,e];rw[if_pos dv]
def FD(e:bB h n=a_ kvs)(hk:(PV.tup xs).ky 6=true):eJ (.tup xs) (.ref n) h=.ok (.bl<|!(Y2<|.tup xs).isSome) h:=by
 let k1:(PV.tup xs).isKt=true:=hk;have:lJ (.tup xs) (.ref n) h=a_ (Y2<|.tup xs):=by simp only[lJ,k1,if_true,e,YN]
 unfold eJ;rw[this]
def oQ(e:bB h n=a_ kvs)(hk:(PV.tup xs).ky 6=true):fR (.tup xs) (.ref n) h=.ok (.bl (Y2<|.tup xs).isSome) h:=by
 let k1:(PV.tup xs).isKt=true:=hk;have:lJ (.tup xs) (.ref n) h=a_ (Y2<|.tup xs):=by simp only[lJ,k1,if_true,e,YN]
 unfold fR;rw[this]
@[simp]theorem Na:rE .non=true:=(rfl)
def Ext.setN{hX:PH}(x:O_ hX)(hn:h.length<=n):O_ (hX.set n o):=λm o' e=>by have:=(SC.mp e).1;rw[VH ⋯];show x m o' e
def vIx_dK{kvs:B_ (Key×PV)}(e:h[n]?=a_ (.dK kvs)):vIx (.ref n) (.str x) h=ofO (Y2<|.inr x) h:=by
 let e1:aM h n=b_:=by simp[aM,e]
 simp[vIx,e1,Ae,e,oI]
def zJ{m:Nat}(e1:h[n]?=a_ (.lst xs))(e2:h[m]?=a_ (.lst ys))(c:xs.length+ys.length<=16777216):aS (.ref n) (.ref m) h=.ok (.ref h.length) (h++[.lst<|xs++ys]):=by
 change GZ (.ref n) (.ref m) h=_
 simp[GZ,bV,e1,e2,c]
variable{C:MC}{k:Nat}{X:Cx}{h:PH}
abbrev vU:PV->Y6 0->PH->Rs PV:=λx ps h=>match x,ps with
 |.ref n,[y,z]=>match oI y with
  |some key=>match h[n]? with
   |some (.dK kvs)=>match Y2 key with
    |some p=>.ok p h
    |none=>if kvs.length<Ve then .ok z (ZO<|.dK<|bM kvs key z) else .bad
   |_=>.bad
  |none=>.bad
 |_,_=>.bad
set_option tactic.hygienic true in
def Ka(c:Y5 X):MtR X "dict.setdefault" (rM C vU):=λjn s σ H x xs v us Q I rx rs h=>by
 let⟨φ,h,p,ps,rh,rp,ka,po⟩:=h;unfold vU at po;split at po
 ·rename_i n y z;let⟨a,rfl,ha⟩:=rp;cases rx
  let⟨yv,zv,rfl,ry,rz⟩:=ka.two;let⟨yu,zu,rfl,fw,oz⟩:=vals2 rs;split at po
  ·rename_i key ba;split at po
   ·rename_i kvs hk;let⟨ks,hH,rk⟩:=YZ hk;let ey:=Af ry ba;subst ey;let⟨hz,hd,vs,rel,dd⟩:=uK I.hok hH;let TV:vs.length<=Ve:=by rw[<-rel.length];show hz
    let lv:=rD rk key;let rv:=rel.val key;refine call_meetsIn PySem.F.slot_dict_setdefault dd.typeIs PySem.F.entry_dict_setdefault (PySem.F.args_dict_setdefault_3 _ _ _) (kG (aZ X.prog X.w) a hd (nW fw) zu) ⟨vs,dd,TV,λv e=>?_,λe h' gq hs=>?_⟩
    ·rw[e]at rv;cases e1:jK ks key with
     |none=>rw[e1]at rv;show rv.elim
     |some v1=>
      rw[e1]at rv lv;cases e2:Y2 key with
      |none=>rw[e2]at lv;show lv.elim
      |some p1=>rw[e2]at lv po;show⟨v1,H,Z3 0,rv,P_ lv⟩
    ·rw[e]at rv;cases e1:jK ks key with
     |some v1=>rw[e1]at rv;show rv.elim
     |none=>
      rw[e1]at lv;cases e2:Y2 key with
      |some p1=>rw[e2]at lv;show lv.elim
      |none=>
       rw[e2]at po;let⟨hl,po⟩:=po.ite;let dv:(putK ks key zv).length<=Ve:=by have:=fN ks key zv;let e3:=VX rk;omega
       let he:∃q,h'.get? a=a_ q:=let ⟨q,_,_,hq,_⟩:=gq;⟨q,hq⟩;refine⟨zv,R_ a<|.dK<|putK ks key zv,pQ I (by rw[hH];show Wp) hs he<|uL dv hd (rel.put key oz) gq,oz,?_⟩;let kp:ZA (R_ a<|.dK<|putK ks key zv):=Kp.dK hH;show po φ zv _ Vb kp (rh.write ha (by rw[hH];show Wp) ⟨_,aK,(qC rk key rz).mono Vb kp⟩)<|rz.mono Vb kp
   ·show po.elim
  ·show po.elim
 ·show po.elim
def Nb:MtG C k X "dict" bR "dict.setdefault" vU:=λc=>⟨Ka c,qD c⟩
def Kc{kvs:B_ (Key×PV)}(e:h[n]?=a_ (.dK kvs))(hl:kvs.length<16777216):
  vU (.ref n) [.str x,z] h=match Y2 (.inr x) with|some p=>.ok p h|none=>.ok z (ZO<|.dK<|bM kvs (.inr x) z):=by
 let dv:kvs.length<Ve:=by rw[gY];show hl
 unfold vU;simp only[oI,e];cases aF kvs (.inr x) with
 |some p=>rfl
 |none=>exact if_pos dv
abbrev mH:PV->Y6 0->PH->Rs PV:=λx ps h=>match x,ps with
 |.ref n,[y,z]=>match Ae h n y with
  |some o=>.ok (o.getD z) h
  |none=>.bad
 |_,_=>.bad
set_option tactic.hygienic true in
def Ke(c:Y5 X):MtR X "dict.get" (rM C mH):=λjn s σ H x xs v us Q I rx rs h=>by
 let⟨φ,h,p,ps,rh,rp,ka,po⟩:=h;unfold mH at po;split at po
 ·rename_i n y z;let⟨a,rfl,ha⟩:=rp;cases rx
  let⟨yv,zv,rfl,ry,rz⟩:=ka.two;let⟨yu,zu,rfl,fw,oz⟩:=vals2 rs;split at po
  ·rename_i o e;let⟨o',g,is,val⟩:=oJ rh ha ry e;refine M9 c.hu I g fw oz λw' s' I' r'=>⟨o'.getD zv,H,I',r',?_⟩;cases o with
   |some p2=>let⟨w2,rfl,UI⟩:=val p2 rfl;show P_ UI
   |none=>
    cases o' with
    |none=>exact P_ rz
    |some z=>cases is
  ·show po.elim
 ·show po.elim
def Nc:MtG C k X "dict" bR "dict.get" mH:=λc=>⟨Ke c,qD c⟩
def qG{kvs:B_ (Key×PV)}(e:h[n]?=a_ (.dK kvs)):mH (.ref n) [.str x,z] h=.ok ((Y2<|.inr x).getD z) h:=by unfold mH Ae;simp only[oI,e]
abbrev hZ(f:Str)(p:PV):B_ (Str×PV)->B_ (Str×PV)
 |[]=>[(f,p)]
 |(g,x)::r=>if g=f then(g,p)::r else(g,x)::hZ f p r
abbrev lG(x:PV)(h:PH):C_ (Nat×Str×B_ (Str×PV)):=match x with
 |.ref n=>match h[n]? with
  |some (.ins c fs)=>a_ (n,c,fs)
  |_=>b_
 |_=>b_
abbrev aQ(f:Str):PV->PH->Rs PV:=λx h=>match lG x h with
 |some (_,_,fs)=>match fs.lookup f with
  |some p=>.ok p h
  |none=>.bad
 |none=>.bad
abbrev qH(f:Str)(x y:PV)(h:PH):C_ PH:=match lG x h with
 |some (n,c,fs)=>if fs.length<1000 then a_ (ZO<|.ins c<|hZ f y fs) else b_
 |none=>b_
def Hy{fs:B_ (Str×PV)}{ks:B_ (Str×V)}(r:Zi fs ks)(f:Str)(rv:D_ p v):Zi (hZ f p fs) (jJ f v ks):=by
 unfold RKv at r⊢
 induction r with
 |nil=>exact .cons ⟨rfl,rv⟩ .nil
 | @cons a b as bs h t ih=>
  let⟨a1,a2⟩:=a;let⟨b1,b2⟩:=b;let e:a1=b1:=h.1;subst e;unfold hZ jJ;by_cases z:a1=f
  ·rw[if_pos z,if_pos z];show .cons ⟨rfl,rv⟩ t
  ·rw[if_neg z,if_neg z];show .cons h ih
def oR{fs:B_ (Str×PV)}{ks:B_ (Str×V)}(r:Zi fs ks)(f:Str):(fs.lookup f=b_/\ks.lookup f=b_)\/∃p v,fs.lookup f=a_ p/\ks.lookup f=a_ v/\D_ p v:=by
 unfold RKv at r
 induction r with
 |nil=>exact .inl ⟨rfl,rfl⟩
 | @cons a b as bs h t ih=>
  let⟨a1,a2⟩:=a;let⟨b1,b2⟩:=b;let e:a1=b1:=h.1;subst e;simp only[VF];cases z:(f == a1) with
  |true=>exact .inr ⟨a2,b2,rfl,rfl,h.2⟩
  |false=>exact ih
set_option tactic.hygienic true in
def qI{x:PV}{c:Str}{fs:B_ (Str×PV)}(rh:I_ h)(rv:D_ x v)(e:lG x h=a_ (n,c,fs)):
  ∃a ca dx ks,x=.ref n/\v=.ref a/\φ[n]?=a_ a/\h[n]?=a_ (.ins c fs)/\C.cl c=a_ ca/\H a=a_ (.ins ca dx ks)/\Zi fs ks:=by
 unfold lG at e;cases x with
 |ref m=>
  let⟨a,rfl,ha⟩:=rv;dsimp only at e;split at e
  ·rename_i c' Sm q;cases e
   let⟨ca,dx,ks,h1,h2,h3⟩:=rh.at' _ a _ ha q;show⟨a,ca,dx,ks,rfl,rfl,ha,q,h1,h2,h3⟩
  ·cases e
 |_=>cases e
abbrev Hz(C:MC)(f:Str):Prop:=∀c a,C.cl c=a_ a->Cls C.K a/\jZ C.K a f
variable{h3:PH}{mv:Me}{value:z_}
section
variable{o:z_}{f:Str}{ql:Pos}
def PP{k:Nat}(hF:Hz C f)(he:G_ e m)(hb:Xf e f X.env (U_ 0)=U_ 0:=by rfl):G_ (.Attribute e f pos) (mUn (aQ f) m):=λc=>
 (LS (he c) hb).imp λσ H Q h=>by
  let⟨φ,δ,h,rh,re,p⟩:=h;refine⟨φ,δ,h,rh,re,(post.bind p).imp ?_⟩;rintro v H1 ⟨φ1,x,h1,p1,t1,aa,ab,q1⟩;unfold aQ at q1;cases ei:lG x h1 with
  |none=>rw[ei]at q1;show q1.elim
  |some z=>
   let⟨n,cn,fs⟩:=z;rw[ei]at q1;dsimp only at q1;let⟨a,ca,dx,ks,rfl,rfl,ha,hh,hc,hH,rk⟩:=qI aa ab ei;let⟨cl,na⟩:=hF cn ca hc;rcases oR rk f with⟨l1,_⟩|⟨y,u,l1,l2,ru⟩
   ·rw[l1]at q1;show q1.elim
   ·rw[l1]at q1;show⟨a,ca,dx,ks,u,rfl,hH,by rw[c.K];show cl,by rw[c.K];show na,l2,q1.val aa ru⟩
abbrev iX(f:Str)(mo mv:Me):Ms:=λδ h=>(mv δ h).fl λy h1=>(mo δ h1).fl λx h2=>match qH f x y h2 with
 |some h3=>.nx δ h3
 |none=>.bad
set_option tactic.hygienic true in
def Kf{k:Nat}{x y:PV}{u:V}{D:Ends}{σ:St}(c:Y5 X)(hF:Hz C f)(rh:I_ h)(re:Y8 0)(rx:D_ x v)(ry:D_ y u)(es:qH f x y h=a_ h3)(q:bU C φ H (.nx δ h3) D):
  ∃a ca dx ks,v=.ref a/\H a=a_ (.ins ca dx ks)/\Cls X.K ca/\jZ X.K ca f/\ks.length<1000/\D.nx σ (R_ a<|.ins ca dx<|jJ f u ks)/\∃n cn fs,lG x h=a_ (n,cn,fs)/\C.cl cn=a_ ca:=by
 unfold qH at es;cases ei:lG x h with
 |none=>rw[ei]at es;cases es
 |some z=>
  let⟨n,cn,fs⟩:=z;rw[ei]at es;dsimp only at es;split at es
  ·rename_i hl;cases es
   let⟨a,ca,dx,ks,rfl,rfl,ha,hh,hc,hH,rk⟩:=qI rh rx ei;let⟨cl,na⟩:=hF cn ca hc;let kp:ZA (R_ a<|.ins ca dx<|jJ f u ks):=Kp.upd (by rw[hH];trivial);refine⟨a,ca,dx,ks,rfl,hH,by rw[c.K];show cl,by rw[c.K];show na,by rw[<-VX rk];show hl,?_⟩;refine⟨q φ σ _ Vb kp (rh.write ha (by rw[hH];trivial) ⟨ca,dx,_,hc,aK,?_⟩)<|re.mono Vb kp,n,cn,fs,rfl,hc⟩;show(Hy rk f ry).mono Vb kp
  ·cases es
def PQ{k:Nat}(hF:Hz C f)(hv:G_ value mv)(ho:G_ o mo)(hs:YI value (a_<|.Attribute o f pos') pos.line X.env=pure false:=by rfl):ZL (.Assign [.Attribute o f pos'] value pos) (iX f mo mv):=λc=>
 (LU (ho c) (hv c) hs).imp λD σ H h=>by
  let⟨φ,δ,h,rh,re,p⟩:=h;refine⟨φ,δ,h,rh,re,(post.fl p).imp ?_⟩;rintro u H1 ⟨φ1,y,h1,p1,t1,aa,ab,q1⟩;refine⟨φ1,δ,h1,aa,S2 0,(post.fl q1).imp ?_⟩;rintro v H2 ⟨φ2,x,h2,p2,t2,ah,c7,q2⟩;cases es:qH f x y h2 with
  |none=>rw[es]at q2;show q2.elim
  |some h3=>rw[es]at q2;let⟨a,ca,dx,ks,g1,g2,g3,g4,g5,g6,_⟩:=Kf c hF ah ((S2 0).mono p2 t2) c7 (ab.mono p2 t2) es q2;show⟨a,ca,dx,ks,g1,g2,g3,g4,g5,g6⟩
end
abbrev Au(C:MC)(X:Cx)(k:Nat)(m:Str)(n:Nat)(tb:Str->C_ Fn):Prop:=∀c a f,C.cl c=a_ a->tb c=a_ f->
 ∃g fd ps j,Cls C.K a/\Cj C.K a m g/\j<=k/\M_ g fd ps (spM C (n+1) f)/\Binds C.K fd ps []
def Nd{k:Nat}{m:Str}:Au C X k m n (λ_=>b_):=λ_ _ _ _ h=>nomatch h
def Kg{k:Nat}{m c:Str}{g:t_}{f:Fn}{tb:Str->C_ Fn}(hc:C.cl c=a_ a)(hC:Cls C.K a)(me:Cj C.K a m g)(hj:j<=k)(G:M_ g fd ps (spM C (n+1) f))(B:Binds C.K fd ps [])(r:Au C X k m n tb):
  Au C X k m n (λz=>if z=c then a_ f else tb z):=λc' a' f' h1 h2=>by
 let fj:(if c'=c then a_ f else tb c')=a_ f':=h2;by_cases e:c'=c
 ·subst e;rw[hc]at h1;cases h1
  rw[YX 0]at fj;cases fj
  show⟨g,fd,ps,j,hC,me,hj,G,B⟩
 ·rw[Zs 0]at fj;show r c' a' f' h1 fj
abbrev bH(m:Str)(n:Nat)(tb:Str->C_ Fn)(mo:Me)(ms:Ma):Me:=λδ h=>(mo δ h).bind λx h1=>match lG x h1 with
 |some (_,c,fs)=>match tb c,fs.lookup m with
  |some f,b_=>(ms δ h1).bind λps h2=>if ps.length=n then f (x::ps) h2 else .bad
  |_,_=>.bad
 |none=>.bad
section
variable{o:z_}{m:Str}{tb:Str->C_ Fn}{pl:Sem Bool}
def Nf{k:Nat}(hM:Au C X k m n tb)(ho:G_ o mo)(ha:SA C k X (e::es) ms)(cg:Vl (e::es) X.env=(false,U_ 0)::W_ 0:=by rfl)(a7:(Y1 (W_ 0)).any (·.1)=false:=by rfl)(ht:eval (.Call (.Attribute o m apos) (e::es) [] pos) X.env=(do
   let ov <-ZT 0
   standAt apos.atName
   let (f,first) <-holding [ov] (getMethod ov m pl)
   callWith pos f first (Y1 (Vl (e::es) X.env)) (backToKw pos (keywordEach [] X.env))):=by rfl):
  G_ (.Call (.Attribute o m apos) (e::es) [] pos) (bH m n tb mo ms):=λc jn s σ H Q I h=>by
 let⟨φ,δ,h,rh,re,p⟩:=h
 refine PySem.W.methodCall_KW (pl:=pl) (thn (ho c jn s σ H _ I ⟨φ,δ,h,rh,re,post.bind p⟩) λu s1 hh=>?_) ht
 let⟨v,H1,I1,ru,φ1,x,h1,p1,t1,aa,ab,q1⟩:=hh
 cases ei:lG x h1 with
 |none=>rw[ei]at q1;exact q1.elim
 |some z=>
  let⟨n',cn,fs⟩:=z
  rw[ei]at q1
  dsimp only at q1
  let⟨a,ca,dx,ks,rfl,rfl,hφ,hh,hc,hH,rk⟩:=qI aa ab ei
  cases et:tb cn with
  |none=>rw[et]at q1;exact q1.elim
  |some f=>
   rw[et]at q1
   rcases oR rk m with⟨l1,l2⟩|⟨y,u',l1,_⟩
   ·rw[l1]at q1
    dsimp only at q1
    let⟨g,fd,ps,j,cl,me,hj,F,bd⟩:=hM cn ca f hc et
    have y6:Cls X.K ca:=by rw[c.K];exact cl
    have uo:Cj X.K ca m g:=by rw[c.K];exact me
    have F':L_ CX0 j g fd ps (spM C (n+1) f):=by rw[c.K];exact F
    have oh:ZE []:=by rw[c.K];exact bd
    cases ru
    refine uH I1 hH y6 uo l2 ?_
    refine PySem.W.callWith_K (first:=[.ref a]) (h₀:=X.base) I.ok.mod.kin uo.kp (thn (ha c pos jn s1 σ H1 _ I1 ⟨φ1,δ,h1,aa,S2 0,postA.bind q1⟩) λus s2 h2=>?_) cg a7
    let⟨vs,H2,I2,r2,φ2,zs,h3,p2,t2,ah,c7,q2⟩:=h2
    let⟨hl,q2⟩:=q2.ite
    refine⟨I2.kIn,?_⟩
    exact zW (us:=.ref a::us) (vs:=.ref a::vs) F' (c.room.mono hj) oh .nil yI I2 (.cons rfl r2) ⟨φ2,h3,.ref n'::zs,ah,⟨⟨a,rfl,dN p2 hφ⟩,(by show RVs C φ2 H2 zs<|vs++[];rw[Wy];exact c7)⟩,by simp[hl],q2⟩
   ·rw[l1]at q1;exact q1.elim
def Kh{k:Nat}(hM:Au C X k m 0 tb)(ho:G_ o mo)(ht:eval (.Call (.Attribute o m apos) [] [] pos) X.env=(do
   let ov <-ZT 0
   standAt apos.atName
   let (f,first) <-holding [ov] (getMethod ov m pl)
   callWith pos f first (Y1 (Vl [] X.env)) (backToKw pos (keywordEach [] X.env))):=by rfl):
  G_ (.Call (.Attribute o m apos) [] [] pos) (bH m 0 tb mo aC):=λc jn s σ H Q I h=>by
 let⟨φ,δ,h,rh,re,p⟩:=h
 refine PySem.W.methodCall_KW (pl:=pl) (thn (ho c jn s σ H _ I ⟨φ,δ,h,rh,re,post.bind p⟩) λu s1 hh=>?_) ht
 let⟨v,H1,I1,ru,φ1,x,h1,p1,t1,aa,ab,q1⟩:=hh
 cases ei:lG x h1 with
 |none=>rw[ei]at q1;exact q1.elim
 |some z=>
  let⟨n',cn,fs⟩:=z
  rw[ei]at q1
  dsimp only at q1
  let⟨a,ca,dx,ks,rfl,rfl,hφ,hh,hc,hH,rk⟩:=qI aa ab ei
  cases et:tb cn with
  |none=>rw[et]at q1;exact q1.elim
  |some f=>
   rw[et]at q1
   rcases oR rk m with⟨l1,l2⟩|⟨y,u',l1,_⟩
   ·rw[l1]at q1
    dsimp only at q1
    let⟨g,fd,ps,j,cl,me,hj,F,bd⟩:=hM cn ca f hc et
    have y6:Cls X.K ca:=by rw[c.K];exact cl
    have uo:Cj X.K ca m g:=by rw[c.K];exact me
    have F':L_ CX0 j g fd ps (spM C (0+1) f):=by rw[c.K];exact F
    have oh:ZE []:=by rw[c.K];exact bd
    cases ru
    refine uH I1 hH y6 uo l2 ?_
    have q2:post C φ1 H1 (f [.ref n'] h1) Q:=q1
    exact PySem.W.callWith_K0 (first:=[.ref a]) I1.kIn uo.kp<|zW (us:=[.ref a]) (vs:=[.ref a]) F' (c.room.mono hj) oh .nil yI I1 (.cons rfl .nil) ⟨φ1,h1,[.ref n'],aa,⟨⟨a,rfl,hφ⟩,trivial⟩,rfl,q2⟩
   ·rw[l1]at q1;exact q1.elim
end
abbrev mI(cn:Str)(n:Nat)(f:Fn)(ms:Ma):Me:=λδ h=>(ms δ h).bind λps h1=>if ps.length=n then(f (.ref h1.length::ps) (h1++[.ins cn []])).bind λv h2=>(match v with
 |.non=>.ok (.ref h1.length) h2
 |_=>.bad) else .bad
variable{ca:t_}{cn:Str}{fn:Fn}
def Ee{Q:VK}(hc:C.cl cn=a_ ca)(rh:I_ h)(rv:E_ zs vs)(q:P2 (if zs.length=n then(fn (.ref h.length::zs)<|h++[.ins cn []]).bind λv h2=>(match v with|.non=>Rs.ok (.ref h.length) h2|_=>.bad) else .bad) Q):
  ∀y dx,H y=b_->H dx=b_->dx≠y->spM C (n+1) fn (.ref y::(vs++[])) (upd (R_ dx<|.own y) y<|.ins ca dx []) (λv H2=>v=.non/\Q (.ref y) H2) E0:=λy dx hy hd ne=>by
 let⟨hl,q⟩:=q.ite;let jk:(R_ dx<|.own y) y=b_:=by rw[aH<|Wx ne];show hy
 let k1:ZA (R_ dx<|.own y):=Kp.new hd;let k2:Kp (R_ dx<|.own y) (upd (R_ dx<|.own y) y<|.ins ca dx []):=Kp.new jk;let ah:RH C (φ++[y]) (upd (R_ dx<|.own y) y<|.ins ca dx []) (h++[.ins cn []]):=(rh.aside hd).new jk ⟨ca,dx,[],hc,aK,.nil⟩;let Sn:RV C (φ++[y]) (upd (R_ dx<|.own y) y<|.ins ca dx []) (.ref h.length) (.ref y):=⟨y,rfl,by rw[<-rh.len];simp⟩;refine⟨φ++[y],h++[.ins cn []],.ref h.length::zs,ah,⟨Sn,by rw[Wy];show rv.mono (VA _ _)<|k1.trans k2⟩,by simp[hl],?_⟩;refine(post.bind<|post.weak (VA _ [y]) (k1.trans k2) q).imp ?_;rintro v H2 ⟨φ2,pv,h2,p2,t2,ay,rv3,q3⟩;cases pv with
 |non=>cases rv3;show⟨rfl,q3.val ay<|Sn.mono p2 t2⟩
 |_=>exact q3.elim
def Ng{k:Nat}{f:t_}{p:Pos}(hc:C.cl cn=a_ ca)(M:Mk C.K ca f)(F:M_ f fd ps (spM C (n+1) fn))(hm:X.mg x=c_ ca)(bd:Binds C.K fd ps [])(ha:SA C k X (e::es) ms)(hj:j+1<=k:=by decide)(hg:Gl X x:=by rfl)(cf:(x == ("__debug__" : Str))=false:=by decide)(he:Vl (e::es) X.env=(false,U_ 0)::W_ 0:=by rfl)(a7:(Y1<|W_ 0).any (·.1)=false:=by rfl):
  G_ (.Call (.Name x p) (e::es) [] pos) (mI cn n fn ms):=λc=>by
 let M':Mk X.K ca f:=by rw[c.K];show M
 let F':L_ CX0 j f fd ps (spM C (n+1) fn):=by rw[c.K];show F
 let oh:ZE []:=by rw[c.K];show bd
 refine(Jj M' F' (c.room.mono hj) hg hm oh .nil yI (ha c) cf he a7).imp λσ H Q h=>?_;let⟨φ,δ,h,rh,re,po⟩:=h;refine⟨φ,δ,h,rh,re,(postA.bind po).imp ?_⟩;rintro vs H1 ⟨φ1,zs,h1,p1,t1,aa,ab,q1⟩;show Ee hc aa ab q1
def Ki{k:Nat}{f:t_}{p:Pos}(hc:C.cl cn=a_ ca)(M:Mk C.K ca f)(F:M_ f fd ps (spM C (0+1) fn))(hm:X.mg x=c_ ca)(bd:Binds C.K fd ps [])(hj:j+1<=k:=by decide)(hg:Gl X x:=by rfl)(cf:(x == ("__debug__" : Str))=false:=by decide):G_ (.Call (.Name x p) [] [] pos) (mI cn 0 fn aC):=λc=>by
 let M':Mk X.K ca f:=by rw[c.K];show M
 let F':L_ CX0 j f fd ps (spM C (0+1) fn):=by rw[c.K];show F
 let oh:ZE []:=by rw[c.K];show bd
 refine(Gp M' F' (c.room.mono hj) hg hm oh .nil yI cf).imp λσ H Q h=>?_;let⟨φ,δ,h,rh,re,po⟩:=h;show Ee (zs:=[]) hc rh trivial po
abbrev fT(x y v:PV)(h:PH):C_ PH:=match x,y with
 |.ref n,.int i=>match bV h n with
  |some xs=>match ixN xs.length i with
   |some j=>a_ (ZO<|.lst<|xs.set j v)
   |none=>b_
  |none=>rJ x y v h
 |_,_=>rJ x y v h
abbrev gM(mv mo mi:Me):Ms:=λδ h=>(mv δ h).fl λv h1=>(mo δ h1).fl λx h2=>(mi δ h2).fl λy h3=>match fT x y v h3 with
 |some h4=>.nx δ h4
 |none=>.bad
set_option tactic.hygienic true in
def Dh{k:Nat}{h':PH}{pv:PV}{x:V}(c:Y5 X)(rh:I_ h)(rx:D_ px x)(ry:D_ py y)(rv:D_ pv v)(e:fT px py pv h=a_ h'){σ:St}{Q:j_ Unit}(I:P1 s)(m8:ZI xu)(fw:RelV y yu)(jh:ZJ vu)(q:∀s' H',i_ H' s'->ZA H'->RH C φ H' h'->Q () s'):wpAny (h_ X) X.A (setItem xu yu vu) Q X.xe s:=by
 unfold fT at e;split at e
 ·rename_i n i;split at e
  ·rename_i xs el;split at e
   ·rename_i j ej;cases e
    let⟨a,rfl,ha⟩:=rx;cases ry
    let⟨ws,hH,cx⟩:=YZ<|fP el;refine thn (set_list jn s σ H (.ref a) (.int i) v xu yu vu (λH'=>H'=R_ a (.lst<|ws.set j v)) I m8 fw jh ⟨a,ws,i,j,rfl,rfl,hH,by rw[<-cx.length];show ej,rfl⟩) ?_;rintro _ s' ⟨H',I',rfl⟩;refine q s' _ I' (Kp.lst hH) (rh.write ha (by rw[hH];trivial) ⟨_,aK,(RVs.set rv j cx).mono Vb<|Kp.lst hH⟩)
   ·cases e
  ·show zC c rh rx ry rv e I m8 fw jh q
 ·show zC c rh rx ry rv e I m8 fw jh q
def Nh{k:Nat}{o i:z_}{mi:Me}(hv:G_ value mv)(ho:G_ o mo)(hi:G_ i mi)(hs:YI value (a_<|.Subscript o i pos') pos.line X.env=pure false:=by rfl):
  ZL (.Assign [.Subscript o i pos'] value pos) (gM mv mo mi):=λc jn s σ H D I ⟨φ,δ,h,rh,re,p⟩=>by
 refine wpAny_Assign_Subscript (thn (hv c jn s σ H _ I ⟨φ,δ,h,rh,re,post.fl p⟩) ?_) hs;rintro vu s1 ⟨v,H1,I1,jh,φ1,pv,h1,p1,t1,aa,ab,q1⟩;refine thn (ho c jn s1 σ H1 _ I1 ⟨φ1,δ,h1,aa,S2 0,post.fl q1⟩) ?_;rintro xu s2 ⟨x,H2,I2,m8,φ2,px,h2,p2,t2,ah,c7,q2⟩;refine thn (hi c jn s2 σ H2 _ I2 ⟨φ2,δ,h2,ah,(S2 0).mono p2 t2,post.fl q2⟩) ?_;rintro yu s3 ⟨y,H3,I3,fw,φ3,py,h3,p3,t3,ay,rv3,q3⟩;cases e:fT px py pv h3 with
 |none=>rw[e]at q3;show q3.elim
 |some h4=>rw[e]at q3;show Dh c ay (c7.mono p3 t3) rv3 ((ab.mono p2 t2).mono p3 t3) e I3 m8 fw jh λs' H' I' kp bp=>⟨σ,H',I',q3 φ3 σ H' Vb kp bp<|(((S2 0).mono p2 t2).mono p3 t3).mono Vb kp⟩
def vV{c:Str}{fs:B_ (Str×PV)}(e:h[n]?=a_ (.ins c fs)):lG (.ref n) h=a_ (n,c,fs):=by simp[lG,e]
def dO{c f:Str}{fs:B_ (Str×PV)}(e:h[n]?=a_ (.ins c fs))(l:fs.lookup f=a_ p):aQ f (.ref n) h=.ok p h:=by simp[aQ,vV e,l]
def eK{c f:Str}{fs:B_ (Str×PV)}(e:h[n]?=a_ (.ins c fs))(l:fs.length<1000):qH f (.ref n) p h=a_ (ZO<|.ins c<|hZ f p fs):=by simp[qH,vV e,l]
@[simp]theorem Ni{E:FE}{f:Str}:(iX f mo mv δ h).W E=(mv δ h).W λy h1=>(mo δ h1).W λx h2=>∃h3,qH f x y h2=a_ h3/\E.nx δ h3:=by
 unfold iX;rw[D0];congr 1;funext y h1;rw[D0];congr 1;funext x h2;cases e:qH f x y h2 <;> simp
@[simp]theorem eL{f:Fn}:mI cn n f ms δ h=(ms δ h).bind λps h1=>if ps.length=n then(f (.ref h1.length::ps)<|h1++[.ins cn []]).bind λv h2=>(match v with|.non=>.ok (.ref h1.length) h2|_=>.bad) else .bad:=(rfl)
def aN(mm:Str)(n:Nat)(tb:Str->C_ Fn)(ms:Ma)(δ:Ev)(h:PH)(mo:Me)(f:Fn){k:Nat}{c:Str}{fs:B_ (Str×PV)}(e:mo δ h=.ok (.ref k) h1)(g:h1[k]?=a_ (.ins c fs))(t:tb c=a_ f)(l:fs.lookup mm=b_):
  bH mm n tb mo ms δ h=(ms δ h1).bind λps h2=>if ps.length=n then f (.ref k::ps) h2 else .bad:=by
 unfold bH;rw[e,Rs.bind_ok,vV g];simp only[t,l]
@[simp]theorem Rr{E:FE}{mi:Me}:(gM mv mo mi δ h).W E=(mv δ h).W λv h1=>(mo δ h1).W λx h2=>(mi δ h2).W λy h3=>∃h4,fT x y v h3=a_ h4/\E.nx δ h4:=by
 unfold gM;rw[D0];congr 1;funext v h1;rw[D0];congr 1;funext x h2;rw[D0];congr 1;funext y h3;cases e:fT x y v h3 <;> simp
def boot_reversed:Xt "reversed" = a_ (.type "reversed"):=by first|rfl|decide +kernel|kernel_rfl
abbrev sU:PV->PH->Rs PV:=λx h=>match dI x h with
 |some xs=>.ok (.ref h.length) (h++[.lst xs.reverse])
 |none=>.bad
def FF(h:ItemsOf (GN items) acc items.size):acc.toList=items.toList.reverse:=by
 apply Wr;intro i;by_cases hi:i<acc.size
 ·let e1:acc[i]?=a_ acc[i]:=by simp[hi]
  let h2:=h.2 i _ e1;let vg:i<items.size:=by rw[<-h.1];show hi
  rw[V4,e1,List.getElem?_reverse<|l_ vg,X5,V4];show h2.symm
 ·let ak:¬ i<items.size:=by rw[<-h.1];show hi
  rw[V4,VP ⋯,XC (by simp;omega)]
variable{bz:Pos}
def FG{k:Nat}{p:Pos}(he:G_ e me)(Uh:("list" : Str)∈C.bs)(U4:("reversed" : Str)∈C.bs)(S3:Gl X "list" := by rfl)(Tc:Gl X "reversed" := by rfl)(cg:Vl [e] X.env=(false,U_ 0)::Vl [] X.env:=by rfl)(a7:(backTo bz<|Vl [] X.env).any (·.1)=false:=by rfl)(r9:Vl [.Call (.Name "reversed" p2) [e] [] bz] X.env=(false,eval (.Call (.Name "reversed" p2) [e] [] bz) X.env)::Vl [] X.env:=by rfl)(yp:(Y1<|Vl [] X.env).any (·.1)=false:=by rfl):
  G_ (.Call (.Name "list" p) [.Call (.Name "reversed" p2) [e] [] bz] [] pos) (mUn sU me):=λc jn s σ H Q I h=>by
 refine Wh<|jB I S3 (c.bn _ Uh) PyProof.Rows.Boot.«list» ?_ nofun nofun;refine Wm ?_ r9 yp;rw[r9]
 change u_ (spliced ((false,eval (.Call (.Name "reversed" p2) [e] [] bz) X.env)::Y1 (Vl [] X.env))) _ _ s
 refine Calls.spliced_cons ?_;refine Wh<|jB I Tc (c.bn _ U4) boot_reversed ?_ nofun nofun;let⟨φ,δ,h,rh,re,po⟩:=h;refine Wm (thn (nA (he c) qT cg bz jn s σ H (λvs H1=>∃x,vs=[x]/\r1 C sU x H1 Q) I ⟨φ,δ,h,rh,re,(post.bind po).imp ?_⟩) λus s1 hh=>?_) cg a7
 ·rintro v H1 ⟨φ1,x,h1,p1,t1,aa,ab,q1⟩;show⟨v,rfl,φ1,h1,x,aa,ab,q1⟩
 let⟨vs,H1,I1,rv,x,rfl,φ1,h1,px,aa,rx,q1⟩:=hh;let⟨u,rfl,ru⟩:=vals1 rv;unfold sU at q1;cases es:dI px h1 with
 |none=>rw[es]at q1;show q1.elim
 |some xs=>
  rw[es]at q1;let⟨a,ws,rfl,sa,ra⟩:=fQ aa rx es;cases ru
  let gv:SqL X.K H1 a ws:=by rw[c.K];show sa
  let⟨its,cx,pl,hz⟩:=I1.list gv;refine call_reversed_list pl.isList ?_
  change u_ (spliced<|Y1<|Vl [] X.env) _ _ _
  refine Calls.spliced_nil ?_;let hsz:its.toArray.size=its.length:=by simp
  let u3:a<(e_ s1):=let ⟨o,ho,_⟩:=pl.isList;Vd ho;let hit:(s1.heap.push<|revObj a<|(its.toArray.size:Int)-1).IsRevIter (e_ s1) a ((its.toArray.size:Int)-1):=⟨_,Zc 0,rfl,rfl⟩;let cw:(s1.heap.push<|revObj a<|(its.toArray.size:Int)-1).IsList a its.toArray:=let ⟨o,ho,r⟩:=pl.isList;⟨o,Zp ho,r⟩;refine xK (s:={s1 with heap:=s1.heap.push (revObj a<|(its.toArray.size:Int)-1)}) (I.ok.hd c.calm) hit cw (Vh u3) (by rw[hsz,<-cx.length];show hz) λh' tk cj c' hk hS aw=>?_;let ea:=FF aw;let fr:(e_ s1)<=(s1.heap.push<|revObj a<|(its.toArray.size:Int)-1).objs.size:=by rw[Xi];show YD _
  let kp:∀b o,s1.heap.get? b=a_ o->Zf 0=a_ o:=λb o e=>hk b o (Vh (Vd e)) (Zp e);let I2:=I1.laid (a:=(s1.heap.push (revObj a ((its.toArray.size:Int)-1))).objs.size) (t':=tk) (o:=.lst ws.reverse) kp fr ⟨by rw[Yd];show hz,cj.toList,c',by
   rw[ea];let hr:∀{vs:B_ V}{us:ZQ 0},aJ vs us->aJ vs.reverse us.reverse:=by
    intro vs us r
    induction r with
    |nil=>exact .nil
    |cons a t ih=>simp only[List.reverse_cons];show aJ.append ih<|.cons a .nil
   simpa using hr cx,by rw[Array.toArray_toList];show hS⟩
  show⟨.ref (s1.heap.push<|revObj a<|(its.toArray.size:Int)-1).objs.size,_,I2,rfl,q1.lnew aa ra.reverse<|I1.hok.fresh fr⟩
def FH(e:h[n]?=a_ (.lst xs)):sU (.ref n) h=.ok (.ref h.length) (h++[.lst xs.reverse]):=by simp[sU,dI,aM,e]
def FI{es:Array Xw}(hT:s.TypeIs (.ref dc) "dict")(hd:(dc == Wi)=false)(h1:Zv 0=a_ oc)(h2:oc.data=.dict es ep)(q:Q (.ref<|e_ s) {s with heap:=s.heap.push {cls:=.type "dict_keyiterator",data:=.fields #[.ref dc,.int 0 0,.int es.size 0,.int ep 0]} }):k_ (pyIter<|.ref dc) Q E s:=by
 refine XZ hT F.slot_dict_iter<|VD F.slot_dict_iter hT F.entry_dict_iter ?_<|F.args_dict_iter_1 _;unfold Builtin.«dict.__iter__»;refine SB ?_;unfold Builtin.Dict.dictSlotNone;refine SB<|XA hT ?_
 change u_ (pure<|Vu dc) _ _ s
 refine SL ?_
 change u_ (W8 dc >>= _) _ _ s
 unfold W8;rw[if_neg (by rw[hd];show Vj)];refine SB<|SL ?_;refine SB<|Ws h1 h2 ?_;refine SB<|W7 h1 h2 ?_;refine SB<|Vo<|SL ⟨_,rfl,"dict_keyiterator",_,⟨_,Zc 0,rfl⟩,WJ.lookup,?_⟩;simpa[rawInt] using q
def HA{es:Array Xw}{Q:C_ s_->td->Prop}(hI:s.heap.IsKeyIter it dc i es.size ep)(h1:Zv 0=a_ oc)(h2:oc.data=.dict es ep)(ag:i<es.size)(q:∀h',h'.IsKeyIter it dc (i+1) es.size ep->WD it s.heap h'->Q (a_ es[i].key) {s with heap:=h'}):k_ (pyNext<|.ref it) Q E s:=by
 let⟨oi,g1,g2,g3⟩:=id hI;unfold pyNext;refine SB<|W0<|VC (name:=Vg "__next__") hI.typeIs WJ<|VD WJ hI.typeIs F.entry_dict_keyiterator_next ?_<|F.args_dict_keyiterator_next_1 _;refine SB<|SL<|SB<|SB ?_
 first|refine SB (Xe hI.typeIs<|SL ?_)|refine SB (X3 hI.typeIs<|SL ?_)
 refine SB<|W1 g1 g3 ?_;rw[show VR "dict_keyiterator" = false by decide];simp only[VV,if_false]
 change u_ (if(Vu dc == Vn)=true then _ else _) _ _ s
 rw[if_neg<|show ¬ ((Vu dc == Vn)=true) from Vj]
 refine SB<|SL<|SB<|Ws h1 h2 ?_;rw[if_neg<|show ¬ _ by simp];refine SB<|SL<|SB<|W7 h1 h2 ?_;rw[if_neg<|show ¬ _ by simp];refine SL ?_;simp only[show ¬ ((i:Int)<0) by omega,if_false,Xl,Vq ag];refine SB ?_
 first|refine SB (Xe hI.typeIs<|SL ?_)|refine SB (X3 hI.typeIs<|SL ?_)
 refine SB (wpAny_isOneOf_keyiter hI.typeIs<|show u_ (YL (.ref it) 1 (rawInt<|(i:Int)+1) >>= _) _ _ s from SB (XH g1 g3 (by simp) ?_))
 let jx:(q0b (W2 (·.setIfInBounds 1 (rawInt<|(i:Int)+1)))).IsKeyIter it dc (i+1) es.size ep:=⟨_,VU _ g1<|XB<|Xa g3 _,(Obj.cls_mapFields ..).trans g2,by rw[Xa g3];simp[rawInt]⟩;let lu:({s with heap:=q0b (W2 (·.setIfInBounds 1 (rawInt<|(i:Int)+1)))}:td).TypeIs (.ref it) "dict_keyiterator" := jx.typeIs;refine SB<|VO<|SB<|wpAny_isOneOf_keyiter lu ?_
 change u_ (pure es[i].key) _ _ _
 show SL<|SL ⟨_,rfl,SL<|q _ jx<|Vz ..⟩
def HB{es:Array Xw}{Q:C_ s_->td->Prop}(hh:A.handled=b_)(hI:s.heap.IsKeyIter it dc i es.size ep)(h1:Zv 0=a_ oc)(h2:oc.data=.dict es ep)(kh:es.size<=i)(q:∀h',q0n 0->Q b_ {s with heap:=h'}):k_ (pyNext<|.ref it) Q E s:=by
 let⟨oi,g1,g2,g3⟩:=id hI;unfold pyNext;refine SB<|W0<|VC (name:=Vg "__next__") hI.typeIs WJ<|VD WJ hI.typeIs F.entry_dict_keyiterator_next ?_<|F.args_dict_keyiterator_next_1 _;refine SB<|SL<|SB<|SB ?_
 first|refine SB (Xe hI.typeIs<|SL ?_)|refine SB (X3 hI.typeIs<|SL ?_)
 refine SB<|W1 g1 g3 ?_;rw[show VR "dict_keyiterator" = false by decide];simp only[VV,if_false]
 change u_ (if(Vu dc == Vn)=true then _ else _) _ _ s
 rw[if_neg<|show ¬ ((Vu dc == Vn)=true) from Vj]
 refine SB<|SL<|SB<|Ws h1 h2 ?_;rw[if_neg<|show ¬ _ by simp];refine SB<|SL<|SB<|W7 h1 h2 ?_;rw[if_neg<|show ¬ _ by simp];refine SL ?_;simp only[show ¬ ((i:Int)<0) by omega,if_false,Xl,VP kh];refine SB ?_
 first|refine SB (Xe hI.typeIs<|SL ?_)|refine SB (X3 hI.typeIs<|SL ?_)
 refine(show u_ (YL (.ref it) 0 .none >>= _) _ _ s from SB (XH g1 g3 (by simp) ?_))
 refine(show u_ (newExc (.type "StopIteration") [] >>= _) _ _ _ from SB ?_);simp only[newExc,newTuple]
 refine SB (Vo (SB (m:=W3 _ _)<|Xd (a:=Vn) (by first|rfl|(simp only[W3];rfl))<|Vo ?_<|by size_fits)<|by size_fits)
 simp only[raiseNew];refine SB<|wpAny_handled ?_;rw[show A.in1.handled=b_ from hh]
 refine SB<|SL<|wpAny_throw ?_;refine SB<|Wn (T:="StopIteration") (b:=true) ⟨_,Zc 0,rfl⟩ isSubtype_stop ?_;show SL<|q _<|((Vz ..).extBut.push _).push _
section
variable{k:Nat}
abbrev vW:Y6 0->C_ (Zg 0)
 |[]=>a_ []
 |.str x::r=>(vW r).map (x::·)
 |_::_=>b_
abbrev jnd(sep:Str):Zg 0->Str
 |[p]=>p
 |l=>YR sep l
abbrev Kj(sep:Str)(l:Zg 0):Nat:=l.toArray.foldl (·+·.length+sep.length) 0
abbrev Kk(x:PV)(_:PH):Bool:=match x with
 |.str _=>true
 |_=>false
abbrev vX:PV->Y6 0->PH->Rs PV:=λx ps h=>match x,ps with
 |.str sep,[.ref n]=>match bV h n with
  |some ys=>match vW ys with
   |some zs=>if Kj sep zs<=Ve/\(jnd sep zs).length<=Ve then .ok (.str<|jnd sep zs) h else .bad
   |none=>.bad
  |none=>.bad
 |_,_=>.bad
def zK{φ:B_ t_}{H:Hp}:∀{ys:Y6 0}{zs:Zg 0}{vs:B_ V}{us:ZQ 0},vW ys=a_ zs->E_ ys vs->aJ vs us->∃l:B_ (Str×Tok),us=strValues l/\l.map (·.1)=zs
 |[],zs,[],us,e,_,ru=>by cases ru;cases e;show⟨[],rfl,rfl⟩
 |p::ys,zs,v::vs,us,e,r,ru=>by
  cases ru with
  | @cons _ u _ us' h t=>
   cases p with
   |str x=>
    unfold vW at e;cases e2:vW ys with
    |none=>rw[e2]at e;cases e
    |some zs'=>
     rw[e2]at e;cases e
     let⟨l,rfl,rfl⟩:=zK e2 r.2 t;let e1:v=.str x:=r.1;subst e1;let⟨tk,rfl⟩:=h;show⟨(x,tk)::l,rfl,rfl⟩
   |_=>cases e
 |[],_,_::_,_,_,r,_=>r.elim
 |_::_,_,[],_,_,r,_=>r.elim
set_option tactic.hygienic true in
def Kl(c:Y5 X):MtR X "str.join" (rM C vX):=λjn s σ H x xs v us Q I rx rs h=>by
 let⟨φ,h,p,ps,rh,rp,ka,po⟩:=h;unfold vX at po;split at po
 ·rename_i sep n;split at po
  ·rename_i ys hl;split at po
   ·rename_i zs hz;split at po
    ·rename_i hlen;let e1:x=.str sep:=rp;subst e1;let⟨tk,rfl⟩:=rx;let⟨v1,rfl,ab⟩:=ka.one;let⟨a,rfl,ha⟩:=ab;let⟨u,rfl,ru⟩:=vals1 rs;cases ru
     let hk:h[n]?=a_ (.lst ys):=by
      unfold bV at hl;split at hl
      ·rename_i q;cases hl;show q
      ·cases hl
     let⟨vs,hH,iq⟩:=YZ hk;let⟨_,its,m,il,_,hx⟩:=I.lstM hH;let⟨l,rfl,el⟩:=zK hz iq il;let hq:Q (.str<|jnd sep zs) H:=P_ rfl;let Uq:Builtin.Str.tooLong ((l.map (·.1)).toArray.foldl (·+·.length+sep.length) 0)=false:=by
      rw[el]
      change decide (Kj sep zs>Ve)=false
      show decide_eq_false (by have:=hlen.1;omega)
     let UU:s.heap.IsList a (strValues l).toArray:=⟨_,hx,rfl,m,rfl⟩;refine call_meets PySem.F.slot_str_join (typeIs_str s sep tk) PySem.F.entry_str_join (PySem.F.args_str_join_2 _ _) (meets_str_join_list sep tk a l Uq) ⟨UU,?_⟩;subst el;let cw:=hlen.2
     match l,hq,cw with
     |[],hq,cw=>exact⟨cw,.str _,H,Z3 0,⟨_,rfl⟩,hq⟩
     |[p],hq,cw=>exact⟨.str _,H,I,⟨_,rfl⟩,hq⟩
     |p::q::r,hq,cw=>exact⟨cw,.str _,H,Z3 0,⟨_,rfl⟩,hq⟩
    ·show po.elim
   ·show po.elim
  ·show po.elim
 ·show po.elim
def Nj:MtG C k X "str" Kk "str.join" vX:=λc=>⟨Kl c,λjn s σ H φ h p x v I rh rv r e=>by
 cases p with
 |str z=>have e1:x=.str z:=rv;subst e1;let⟨t,rfl⟩:=r;show⟨typeIs_str s z t,λa e=>nomatch e⟩
 |_=>cases e⟩
end
section
variable{k:Nat}{o:Obj}{its:YY 0}{ps:Y6 0}
abbrev Lk:PV->C_ V
 |.non=>a_ .non
 |.bl b=>a_ (.bl b)
 |.int i=>d_ i
 |.str z=>a_ (.str z)
 |_=>b_
abbrev Av:Y6 0->C_ (B_ V)
 |[]=>a_ []
 |p::r=>match Lk p,Av r with
  |some v,a_ vs=>a_ (v::vs)
  |_,_=>b_
def Km(e:Lk p=a_ v):D_ p v:=by cases p <;> first|(cases e;rfl)|cases e
set_option tactic.hygienic true in
def BM{φ:B_ t_}{H:Hp}:∀{ps:Y6 0}{vs:B_ V},Av ps=a_ vs->E_ ps vs
 |[],vs,e=>by cases e;trivial
 |p::ps,vs,e=>by
  unfold Av at e;split at e
  ·rename_i v ws e1 e2;cases e
   show⟨Km e1,BM e2⟩
  ·cases e
abbrev PR(K:UF)(a:t_)(ps:Y6 0):Prop:=∃(o:Obj)(its:YY 0)(n:Nat)(vs:B_ V),K.lookup a=a_ o/\o.cls=.type "tuple" /\ o.data=.seq its n/\its.size<=Ve/\aJ vs its.toList/\o.dict=b_/\Av ps=a_ vs
def Nk(hm:X.mg x=c_ a)(g:PR C.K a ps)(hg:Gl X x:=by rfl)(hd:(x == ("__debug__" : Str))=false:=by decide):G_ (.Name x pos) (mC<|.tup ps):=λc=>(DL (v:=.ref a) hg hm rfl hd).imp λσ H Q h=>by let⟨φ,δ,h,rh,re,p⟩:=h;let⟨o,its,n,vs,g1,g2,g3,g4,g5,g6,g7⟩:=g;show p φ (.ref a) H Vb (Kp.refl _) rh ⟨a,vs,rfl,.inr ⟨o,its,n,g1,g2,g3,g4,g5,g6⟩,BM g7⟩
end
def tX(e:bB h n=a_ kvs)(hk:(PV.tup xs).ky 6=true)(hl:kvs.length<16777216):fT (.ref n) (.tup xs) z h=a_ (ZO<|.dD<|bM kvs (.tup xs) z):=by
 change rJ (.ref n) (.tup xs) z h=_
 show Dg e hk hl
def Aw{kvs:B_ (Key×PV)}(e:h[n]?=a_ (.dK kvs))(hl:kvs.length<16777216):fT (.ref n) (.str x) z h=a_ (ZO<|.dK<|bM kvs (.inr x) z):=by
 change rJ (.ref n) (.str x) z h=_
 show E9 e hl
abbrev HC:HO->Prop
 |.tup _=>False
 |.own _=>False
 |.tbl _=>False
 |_=>True
section
variable{σ:St}
def Inv.swap{d:t_}{u u':HO}(I:P1 s)(hd:H d=a_ u)(hu:HC u)(hz:∀o z,X.H₀ d≠a_ (.frz o z))(new:Zl (R_ d u') s.heap d u'):i_ (R_ d u') s:=by
 let nn:∀b,H b=b_->b≠d:=λb n z=>by rw[z,hd]at n;cases n
 let nt:∀b xs,H b=a_ (.tup xs)->b≠d:=λb xs n z=>by rw[z,hd]at n;cases n;show hu
 let no:∀b y,H b=a_ (.own y)->b≠d:=λb xs n z=>by rw[z,hd]at n;cases n;show hu
 let nb:∀b y,H b=a_ (.tbl y)->b≠d:=λb xs n z=>by rw[z,hd]at n;cases n;show hu
 refine⟨I.ok,I.os,I.bare,⟨I.base.keep,I.base.slot,λb o e n hx=>?_,I.base.there,λb xs e=>?_,λb o xs e=>?_,λb ps e=>?_⟩,I.loc,I.cell,?_,λx c e=>?_,λp hp=>?_,λb o e=>?_,I.len⟩
 ·have:=I.base.free b o e n hx;rw[aH<|nn b this];show this
 ·have:=I.base.tups b xs e;rw[aH<|nt b xs this];show this
 ·have:=I.base.frzs b o xs e;let ne:b≠d:=λz=>hz o xs<|z▸e;rw[aH ne];show this
 ·let⟨m,e1⟩:=I.base.tbls b ps e;show⟨m,by rw[aH<|nb b _ e1];show e1⟩
 ·rw[aH<|nn _ I.free];show I.free
 ·have:=I.freeC x c e;rw[aH<|nn _ this];show this
 ·let⟨e,n,r⟩:=I.pin p hp;show⟨e,by rw[aH<|nn _ n];show n,r⟩
 ·by_cases hb:b=d
  ·subst hb;rw[aK]at e;cases e;show new
  ·rw[aH hb]at e;show(I.hok b o e).stay (λc v _ q=>q) (λc q=>by rw[aH<|no c b q];show q) λc xs q=>by rw[aH<|nt c xs q];show q
def Inv.nofrz{d:t_}(I:P1 s)(hd:∀o z,H d≠a_ (.frz o z)):∀o z,X.H₀ d≠a_ (.frz o z):=λo z e=>hd o z<|I.base.frzs d o z e
def Inv.freeze{d:t_}{u:HO}(I:P1 s)(hd:H d=a_ u)(hu:HC u)(hf:∀o z,u≠.frz o z)(ho:s.heap.get? d=a_ oc):i_ (R_ d<|.frz oc u) s:=by
 let nt:∀b xs,H b=a_ (.tup xs)->b≠d:=λb xs n z=>by rw[z,hd]at n;cases n;show hu
 let no:∀b y,H b=a_ (.own y)->b≠d:=λb xs n z=>by rw[z,hd]at n;cases n;show hu
 refine I.swap hd hu (I.nofrz λo z e=>?_) ⟨ho,(I.hok d u hd).stay (λc v _ q=>q) (λc q=>by rw[aH<|no c d q];show q) λc xs q=>by rw[aH<|nt c xs q];show q⟩;rw[hd]at e;show hf o z<|Vv e
def Inv.thaw{d:t_}{u:HO}(I:P1 s)(hd:H d=a_ (.frz oc u))(hz:∀o z,X.H₀ d≠a_ (.frz o z)):i_ (R_ d u) s:=by
 let nt:∀b xs,H b=a_ (.tup xs)->b≠d:=λb xs n z=>by rw[z,hd]at n;cases n
 let no:∀b y,H b=a_ (.own y)->b≠d:=λb xs n z=>by rw[z,hd]at n;cases n
 let⟨_,q⟩:=I.hok d _ hd;show I.swap hd trivial hz (q.stay (λc v _ q=>q) (λc q=>by rw[aH<|no c d q];show q) λc xs q=>by rw[aH<|nt c xs q];show q)
end
abbrev ItI(dc:t_)(oc:Obj)(u:HO)(ks:B_ (V×V)):It:=⟨λi H=>H dc=a_ (.frz oc u)/\i<ks.length,λi H x H'=>∃t kv,H t=b_/\ks[i]?=a_ kv/\x=.ref t/\H'=R_ t (.tup [kv.1,kv.2]),λi H=>H dc=a_ (.frz oc u)/\ks.length<=i⟩
abbrev ItK(dc:t_)(oc:Obj)(u:HO)(ks:B_ V):It:=⟨λi H=>H dc=a_ (.frz oc u)/\i<ks.length,λi H x H'=>H'=H/\ks[i]?=a_ x,λi H=>H dc=a_ (.frz oc u)/\ks.length<=i⟩
variable{elts:B_ z_}{x1:Nat}
def Di(it dc:t_)(oc:Obj)(u:HO)(es:Array Xw)(ep:Nat)(h2:oc.data=.dict es ep)(ks:B_ (V×V))(hl:ks.length=es.size)(hk:∀(i:Nat)(hi:i<es.size),∃kv,ks[i]?=a_ kv/\RelV kv.1 es[i].key/\RelV kv.2 es[i].val):Turn P w K (.Tuple elts x1 pos) (ItI dc oc u ks) [it] it (λi h=>∃ok ov,IsItemIter h it dc i es.size ep ok ov) where
 mem:=by simp
 obj:=λi h ⟨ok,ov,st⟩ b hb=>by
  let e:b=it:=by simpa using hb
  subst e;show⟨_,st,λv z=>by cases z⟩
 keep:=λi h h' ⟨ok,ov,st⟩ k=>⟨ok,ov,k it (by simp) _ st⟩
 item:=by
  intro X hP hw hK hc i jn s σ H E I hf ⟨ok,ov,st⟩ ⟨hg,hi⟩;subst hP hw hK;let ak:i<es.size:=⋯;let⟨kv,i8,r1,r2⟩:=hk i ak;let⟨f0,f1,f2,f3,f4,f5⟩:=hf it (by simp);let je:Zv 0=a_ oc:=(I.hok dc _ hg).1;refine next_item st je h2 ak λh' out gt kp=>⟨_,rfl,?_⟩;refine wpAny_letOwnedTupleGo_items (s:={s with heap:=h'}) out λko hI same=>?_;let fr:H (e_ s)=b_:=I.hok.fresh<|U6 _;let ne:(e_ s)≠it:=WR<|Vd st;let T6:ko.get? (e_ s)=a_ {cls:=.type "tuple",data:=.seq #[es[i].key,es[i].val]}:=(same.2 _ ne).trans gt;let qa:∀(b:t_)(o:Obj),b≠it->N_ 0=a_ o->ko.get? b=a_ o:=λb o hb e=>(same.2 b hb).trans<|kp b o hb e;let sy:∀b u,H b=a_ u->b≠it:=λb u e z=>by rw[z,f0]at e;cases e
  let ue:∀b u,H b=a_ u->b≠(e_ s):=λb u e z=>by rw[z,fr]at e;cases e
  refine⟨.ref<|e_ s,R_ (e_ s)<|.tup [kv.1,kv.2],?_,rfl,⟨_,kv,fr,i8,rfl,rfl⟩,⟨_,_,hI⟩,λb hb=>?_⟩
  ·refine Inv.step (s:=s) (h':=ko) (H:=H) (g':=s.gens) (d':=s.drawn) (t':=s.toks) (ch:=[it]) I (λb hb=>?_) (λb o _ _ hc e _=>qa b o (λz=>hc<|by simp[z]) e) (λb o _ _ hc e _=>⟨o.slots,qa b o (λz=>hc<|by simp[z]) e⟩) (λb o hc e n=>?_)
    (λb o hc e=>⟨o,qa b o (λz=>hc<|by simp[z]) e⟩) (λb xs e=>by rw[aH<|ue _ _ e];show e) (λb o u e=>by rw[aH<|ue _ _ e];show e) (λb ps e=>⟨#[],by rw[aH<|ue _ _ e,e];simp⟩) (λm hm=>?_) (λb u e=>?_) I.bare
   ·let e:b=it:=by simpa using hb
    subst e;show⟨f3,f1,f4,f5⟩
   ·rw[aH<|Vh<|Vd e];show n
   ·let⟨o,es,ep,ho,r⟩:=hm;show⟨o,es,ep,qa _ o (Wx f1) ho,r⟩
   ·by_cases hb:b=(e_ s)
    ·subst hb;rw[aK]at e;cases e
     show⟨by change 2<=Ve;rw[gY];decide,[es[i].key,es[i].val],.cons r1<|.cons r2 .nil,_,T6,rfl,⟨_,rfl⟩,rfl⟩
    ·rw[aH hb]at e;refine(I.hok b u e).stay (λc v hc q=>qa c v ?_ q) (λc q=>by rw[aH<|ue _ _ q];show q) λc xs q=>by rw[aH<|ue _ _ q];show q
     rcases hc with z|z
     ·rw[z];show sy b u e
     ·show sy c _ z
  ·let e:b=it:=by simpa using hb
   subst e;rw[aH<|Wx ne];show f0
 done:=by intro X hP hw hK hc i jn s σ H E I hf ⟨ok,ov,st⟩ ⟨hg,hi⟩;subst hP hw hK;let⟨f0,f1,f2,f3,f4,f5⟩:=hf it (by simp);let je:Zv 0=a_ oc:=(I.hok dc _ hg).1;show F7 (I.ok.hd hc) st je h2 ⋯ λh' eb=>⟨rfl,I.turned (t':=s.toks) (λb o hb e=>eb b o hb e) f0 f1 f3 f4 f5⟩
 self:=λ_ _ _ _ _ ⟨_,_,st⟩ h=>CH st h
def FJ(it dc:t_)(oc:Obj)(u:HO)(es:Array Xw)(ep:Nat)(h2:oc.data=.dict es ep)(ks:B_ V)(hl:ks.length=es.size)(hk:∀(i:Nat)(hi:i<es.size),∃kv,ks[i]?=a_ kv/\RelV kv es[i].key):Turn P w K tg (ItK dc oc u ks) [it] it (λi h=>h.IsKeyIter it dc i es.size ep) where
 mem:=by simp
 obj:=λi h st b hb=>by
  let e:b=it:=by simpa using hb
  subst e;let⟨o,e,c,d⟩:=st;show⟨o,e,λv z=>by rw[d]at z;cases z⟩
 keep:=λi h h' st k=>st.at λo e=>k it (by simp) o e
 item:=by
  intro X hP hw hK hc i jn s σ H E I hf st ⟨hg,hi⟩;subst hP hw hK;let ak:i<es.size:=⋯;let⟨kv,i8,r1⟩:=hk i ak;let⟨f0,f1,f2,f3,f4,f5⟩:=hf it (by simp);let je:Zv 0=a_ oc:=(I.hok dc _ hg).1;refine HA st je h2 ak λh' bu sb=>?_;let I1:P1 {s with heap:=h'}:=I.turned (t':=s.toks) (λb o hb e=>(sb.2 b hb).trans e) f0 f1 f3 f4 f5;let⟨o,e,c,d⟩:=id bu;show⟨_,rfl,B1 (s:={s with heap:=h'}) e c d nofun ⟨kv,H,I1,r1,⟨rfl,i8⟩,bu,λb hb=>(hf b hb).1⟩⟩
 done:=by intro X hP hw hK hc i jn s σ H E I hf st ⟨hg,hi⟩;subst hP hw hK;let⟨f0,f1,f2,f3,f4,f5⟩:=hf it (by simp);let je:Zv 0=a_ oc:=(I.hok dc _ hg).1;show HB (I.ok.hd hc) st je h2 ⋯ λh' eb=>⟨rfl,I.turned (t':=s.toks) (λb o hb e=>eb b o hb e) f0 f1 f3 f4 f5⟩
 self:=λ_ _ _ _ _ st h=>wpAny_pyIter_keyiter st h
abbrev kK:MO->C_ (Y6 0)
 |.dK kvs=>a_ (kvs.map λkv=>.tup [kP kv.1,kv.2])
 |.dD kvs=>a_ (kvs.map λkv=>.tup [kv.1,kv.2])
 |_=>b_
abbrev BN:MO->C_ (Y6 0)
 |.dK kvs=>a_ (kvs.map λkv=>kP kv.1)
 |.dD kvs=>a_ (kvs.map (·.1))
 |_=>b_
abbrev tO:C_ MO->Bool
 |some (.dK _)=>true
 |some (.dD _)=>true
 |_=>false
abbrev wkI(b:Bool)(x:PV)(h:PH):C_ (Nat×MO×Y6 0):=match x with
 |.ref n=>match h[n]? with
  |some (.vw 0 d)=>if b then(h[d]?).bind λo=>(kK o).map λxs=>(d,o,xs) else b_
  |some o=>(BN o).map λxs=>(n,o,xs)
  |none=>b_
 |_=>b_
abbrev mJ(b:Bool)(m:Me):Mi:=λδ h=>(m δ h).bind λx h1=>match wkI b x h1 with
 |some (d,o,xs)=>.ok ⟨xs,λ_=>true⟩ (h1.set d<|.fz o)
 |none=>.bad
section
variable{k:Nat}{σ:St}
def Nl{k:Key}{v:s_}(h:uE k v=true):RelV (kV k) v:=by
 rcases bP h with⟨i,t,rfl,rfl⟩|⟨x,t,rfl,rfl⟩
 ·show⟨t,rfl⟩
 ·show⟨t,rfl⟩
def rQ{α β:Type}{F:α->β->Prop}:∀{l:B_ α}{m:B_ β},Paired F l m->∀{i:Nat}{a:α},l[i]?=a_ a->∃b,m[i]?=a_ b/\F a b
 |_,_,.nil,i,a,e=>by simp at e
 |_,_,.cons (a:=x) (b:=y) r t,0,a,e=>by
  have:x=a:=by simpa using e
  subst this;show⟨y,rfl,r⟩
 |_,_,.cons r t,i+1,a,e=>by
  let⟨b,h1,h2⟩:=rQ t (i:=i) (a:=a)<|l_ e;show⟨b,l_ h1,h2⟩
def oS{α β:Type}{F:α->β->Prop}:∀{l:B_ α}{m:B_ β},Paired F l m->∀{i:Nat}{b:β},m[i]?=a_ b->∃a,l[i]?=a_ a/\F a b
 |_,_,.nil,i,a,e=>by simp at e
 |_,_,.cons (a:=x) (b:=y) r t,0,b,e=>by
  have:y=b:=by simpa using e
  subst this;show⟨x,rfl,r⟩
 |_,_,.cons r t,i+1,b,e=>by
  let⟨a,h1,h2⟩:=oS t (i:=i) (b:=b)<|l_ e;show⟨a,l_ h1,h2⟩
def Ef(a:Key):D_ (kP a) (kV a):=by cases a <;> rfl
def HE{kvs:B_ (Key×PV)}{ks:B_ (Key×V)}(rk:Zi kvs ks):E_ (kvs.map λkv=>kP kv.1) ((ks.map λq=>(kV q.1,q.2)).map (·.1)):=by
 unfold RKv at rk
 induction rk with
 |nil=>trivial
 | @cons p q ps qs e t ih=>exact⟨by change D_ (kP p.1) (kV q.1);rw[e.1];show Ef q.1,ih⟩
def HF(rk:q0c 0):E_ (kvs.map (·.1)) ((ks.map λq=>(V.ref q.2.1,q.2.2)).map (·.1)):=by
 unfold RKd at rk
 induction rk with
 |nil=>trivial
 | @cons p q ps qs e t ih=>exact⟨e.2.2.1,ih⟩
structure PU(C:MC)(φ:B_ t_)(H:Hp)(s:td)(b:t_)(o:MO)(ks:B_ (V×V))(u:HO)(oc:Obj)(es:Array Xw)(ep:Nat):Prop where
 at':H b=some u
 nf:HC u
 nz:∀o z,u≠.frz o z
 nt:pT (some u)
 get:s.heap.get? b=some oc
 cls:oc.cls=.type "dict"
 data:oc.data=.dict es ep
 nsys:(b == Wi)=false
 fz:∀φ' H',φ<+:φ'->H' b=some (.frz oc u)->Kp H H'->RO C φ' H' b (.fz o)
 len:ks.length=es.size
 ent:∀(i:Nat)(hi:i<es.size),∃kv,ks[i]?=some kv/\RelV kv.1 es[i].key/\RelV kv.2 es[i].val
 keys:∀xs,BN o=some xs->RVs C φ H xs (ks.map (·.1))
 items:∀xs,kK o=some xs->xs.length=ks.length/\∀(i:Nat) p,xs[i]?=some p->∃p1 p2 kv,p=.tup [p1,p2]/\ks[i]?=some kv/\RV C φ H p1 kv.1/\RV C φ H p2 kv.2
def HG{d:Nat}{b:t_}(c:Y5 X)(I:P1 s)(rh:I_ h)(hb:φ[d]?=a_ b)(ho:h[d]?=a_ o)(hd:tO (a_ o)=true):∃ks u oc es ep,PU C φ H s b o ks u oc es ep:=by
 cases o with
 |dK kvs=>
  let⟨ks,hH,rk⟩:=rh.at' d b _ hb ho;let⟨z,hm,vs,rel,dd⟩:=uK I.hok hH;let⟨oc,es,ep,g1,g2,g3,g4,g5,g6⟩:=dd;let l1:ks.length=vs.length:=VX rel;let l2:es.size=vs.length:=by have:=vN g5;have:=congrArg List.length this;simpa using this
  refine⟨ks.map λq=>(kV q.1,q.2),_,oc,es,ep,hH,trivial,(λ_ _ e=>by cases e),trivial,g1,g2.1,g3,hm,λφ' H' p e t=>⟨oc,ks,e,rk.mono p t⟩,by rw[U5,l1,l2],λi hi=>?_,λxs hx=>?_,λxs hx=>?_⟩
  ·let hv:vs[i]?=a_ (vs[i]'⋯):=by simp[show i<vs.length by omega]
   let he:es.toList[i]?=a_ es[i]:=by simp[hi]
   let⟨q1,q2⟩:=g5.get? he hv;let⟨kv,i8,qo⟩:=oS rel hv;refine⟨(kV kv.1,kv.2),by rw[Vk,i8];rfl,?_,?_⟩
   ·change RelV (kV kv.1) es[i].key
    rw[qo.1];show Nl q1
   ·change RelV kv.2 es[i].val
    rw[q2];show qo.2
  ·cases hx
   show HE rk
  ·cases hx
   let lk:kvs.length=ks.length:=VX rk;refine⟨by rw[U5,U5,lk],λi p e=>?_⟩;rw[Vk]at e;let⟨kv,e1,rfl⟩:=Vr.mp e;let⟨q,e2,r2⟩:=rQ rk e1;show⟨_,_,(kV q.1,q.2),rfl,by rw[Vk,e2];rfl,by change D_ (kP kv.1) (kV q.1);rw[r2.1];show Ef q.1,r2.2⟩
 |dD kvs=>
  let⟨ks,hH,rk⟩:=rh.at' d b _ hb ho;let hO:Zl H s.heap b (dDO C.w b ks):=I.hok b _ hH;let⟨⟨hz,hm,xs,rx,oc,es,ep,g1,g2,g3,g4,g5⟩,_⟩:=hO;let l1:ks.length=xs.length:=VX rx;let l2:es.size=xs.length:=by have:=congrArg List.length g4;simpa using this
  refine⟨ks.map λq=>(V.ref q.2.1,q.2.2),_,oc,es,ep,hH,trivial,(λ_ _ e=>by cases e),trivial,g1,g2.1,g3,hm,λφ' H' p e t=>⟨oc,ks,e,rk.mono p t⟩,by rw[U5,l1,l2],λi hi=>?_,λxs hx=>?_,λxs hx=>?_⟩
  ·let hv:xs[i]?=a_ (xs[i]'⋯):=by simp[show i<xs.length by omega]
   let he:es.toList[i]?=a_ es[i]:=by simp[hi]
   rw[g4,Vk,hv]at he;let jt:=Vv he;let⟨kv,i8,qo⟩:=oS rx hv;refine⟨(V.ref kv.2.1,kv.2.2),by rw[Vk,i8];rfl,?_,?_⟩
   ·change RelV (V.ref kv.2.1) es[i].key
    rw[<-jt,qo.2.1];rfl
   ·change RelV kv.2.2 es[i].val
    rw[<-jt];show qo.2.2
  ·cases hx
   show HF rk
  ·cases hx
   let lk:kvs.length=ks.length:=VX rk;refine⟨by rw[U5,U5,lk],λi p e=>?_⟩;rw[Vk]at e;let⟨kv,e1,rfl⟩:=Vr.mp e;let⟨q,e2,r2⟩:=rQ rk e1;show⟨_,_,(V.ref q.2.1,q.2.2),rfl,by rw[Vk,e2];rfl,r2.2.2.1,r2.2.2.2⟩
 |_=>cases hd
def HH(h:BN o=a_ xs):tO (a_ o)=true:=by cases o <;> first|rfl|cases h
def FK(h:kK o=a_ xs):tO (a_ o)=true:=by cases o <;> first|rfl|cases h
set_option tactic.hygienic true in
def Kn{x:PV}{d:Nat}(e:wkI b x h=a_ (d,o,xs)):∃n,x=.ref n/\((h[n]?=a_ (.vw 0 d)/\b=true/\h[d]?=a_ o/\kK o=a_ xs)\/(h[n]?=a_ o/\n=d/\BN o=a_ xs)):=by
 unfold wkI at e;split at e
 ·rename_i n;refine⟨n,rfl,?_⟩;split at e
  ·rename_i d' hv;split at e
   ·rename_i hb;cases e1:h[d']? with
    |none=>rw[e1]at e;cases e
    |some o'=>
     rw[e1]at e;cases e2:kK o' with
     |none=>simp[e2]at e
     |some ys=>simp[e2]at e;let⟨rfl,rfl,rfl⟩:=e;show .inl ⟨hv,hb,e1,e2⟩
   ·cases e
  ·rename_i o' _ hv;cases e2:BN o' with
   |none=>rw[e2]at e;cases e
   |some ys=>rw[e2]at e;simp at e;let⟨rfl,rfl,rfl⟩:=e;show .inr ⟨hv,rfl,e2⟩
  ·cases e
 ·cases e
abbrev walk2(b:Bool)(x:PV)(h1:PH):Rs Wk:=match wkI b x h1 with
 |some (d,o,xs)=>.ok ⟨xs,λ_=>true⟩ (h1.set d<|.fz o)
 |none=>.bad
def Np(b:Bool)(hb:b=true->∃elts x1 pos,tg=.Tuple elts x1 pos)(h:G_ iter m):SI C k X tg iter (mJ b m):=λc=>by
 intro jn s σ H R I q;let⟨φ,δ,hh,rh,re,p⟩:=q;let key:rd C m σ H λv H1=>∃φ1 x h1,φ<+:φ1/\ZA H1/\Zk 0/\RV C φ1 H1 x v/\eG C φ1 H1 (walk2 b x h1) R:=by
  refine⟨φ,δ,hh,rh,re,?_⟩;unfold mJ at p;cases e:m δ hh with
  |ok x h1=>
   rw[e]at p;intro φ' v H' p' t' bp az;refine⟨φ',x,h1,p',t',bp,az,?_⟩
   change eG C φ' H' (walk2 b x h1) R
   let p0:eG C φ H (walk2 b x h1) R:=p;cases e2:walk2 b x h1 with
   |ok w h2=>rw[e2]at p0;show λφ2 H2 J p2 t2=>p0 φ2 H2 J (p'.trans p2) (t'.trans t2)
   |exc z h2=>rw[e2]at p0;show λφ2 H2 p2 t2=>p0 φ2 H2 (p'.trans p2) (t'.trans t2)
   |bad=>rw[e2]at p0;show p0
  |exc x h1=>rw[e]at p;show p
  |bad=>rw[e]at p;show p
 refine thn (h c jn s σ H _ I key) λv s1 z9=>?_;let⟨x,H1,I1,r1,φ1,x',h1,p1,t1,aa,ab,q1⟩:=z9;unfold walk2 at q1;cases e:wkI b x' h1 with
 |none=>rw[e]at q1;show q1.elim
 |some t=>
  let⟨d,o,xs⟩:=t;rw[e]at q1;dsimp only at q1;let⟨n,rfl,qz⟩:=Kn e;let⟨a,rfl,ha⟩:=ab;cases r1
  -- the frozen heap
  let fin:∀{bb:t_}{ks:B_ (V×V)}{u:HO}{oc:Obj}{es:Array Xw}{ep:Nat}(lp:φ1[d]?=a_ bb)(W:PU C φ1 H1 s1 bb o ks u oc es ep)(ob:Obj)(J:It)(tn:Nat->w_->Prop),(∀φ2 H2 h2,φ1<+:φ2->Kp (upd H1 bb (.frz oc u)) H2->RH C φ2 H2 h2->∀i:Nat,
    (i<xs.length->J.go i H2/\∀x H',J.yld i H2 x H'->(∃p,xs[i]?=a_ p/\RV C φ2 H' p x)/\Kp H2 H'/\RH C φ2 H' h2)/\(xs.length<=i->J.stop i H2))->
    Turn X.prog X.w X.K tg J [(e_ s1)] (e_ s1) tn->tn 0 (s1.heap.push ob)->PIE X jn σ tg R (.ref<|e_ s1) {s1 with heap:=s1.heap.push ob}:=λ{bb ks u oc es ep} lp W ob J tn hJ hT h0=>by
   let I2:=I1.freeze W.at' W.nf W.nz W.get;let nt:pT (H1 bb):=by rw[W.at'];show W.nt
   refine⟨(e_ s1),[(e_ s1)],tn,J,upd H1 bb<|.frz oc u,rfl,I2.kept (t':=s1.toks) λb o e=>Zp e,hT,h0,λb hb=>?_,?_⟩
   ·let e:b=(e_ s1):=by simpa using hb
    subst e;show I2.fpOk (U6 _)<|I2.hok.fresh<|U6 _
   ·show q1 φ1 _ J Vb (Kp.upd nt) (aa.write lp nt<|W.fz φ1 _ Vb aK<|Kp.upd nt) λφ2 H2 h2 p2 t2 ah _ i=>hJ φ2 H2 h2 p2 t2 ah i
  rcases qz with⟨hv,hbt,ho,hx⟩|⟨ho,rfl,hx⟩
  ·let⟨bb,lp,hH⟩:=aa.at' n a _ ha hv;let⟨ks,u,oc,es,ep,W⟩:=HG c I1 aa lp ho<|FK hx;let⟨elts,x1,pos,rfl⟩:=hb hbt;let qd:s1.heap.IsItemsView a bb:=(I1.hok a _ hH).1;let⟨lx,ex⟩:=W.items xs hx;refine CG qd W.get W.data<|fin lp W _ (ItI bb oc u ks) _ (λφ2 H2 h2 p2 t2 ah i=>⟨λhi=>⟨⟨t2.2 _ _ _ aK,⋯⟩,λx H' y=>?_⟩,λhi=>⟨t2.2 _ _ _ aK,⋯⟩⟩) (Di _ bb oc u es ep W.data ks W.len W.ent) ⟨.none,.none,Zc 0⟩;let⟨t,kv,ht,i8,rfl,rfl⟩:=y;let⟨p1,p2',kv',UT,qp,UN,yt⟩:=ex i xs[i] (by simp[hi]);rw[i8]at qp;cases qp
   let nt:pT (H1 bb):=by rw[W.at'];show W.nt
   let T:Kp H1 (upd H2 t<|.tup [kv.1,kv.2]):=(Kp.upd nt).trans<|t2.trans<|Kp.new ht;refine⟨⟨xs[i],by simp[hi],?_⟩,Kp.new ht,ah.aside ht⟩;rw[UT];show⟨t,[kv.1,kv.2],rfl,.inl<|.inl aK,UN.mono p2 T,yt.mono p2 T,trivial⟩
  ·let⟨ks,u,oc,es,ep,W⟩:=HG c I1 aa ha ho<|HH hx;let rk:=W.keys xs hx;let lx:=rk.length;rw[U5]at lx;refine FI ⟨oc,W.get,W.cls⟩ W.nsys W.get W.data (fin ha W _ (ItK a oc u (ks.map (·.1))) _ (λφ2 H2 h2 p2 t2 ah i=>⟨λhi=>⟨⟨t2.2 _ _ _ aK,by rw[U5];omega⟩,λx H' y=>?_⟩,λhi=>⟨t2.2 _ _ _ aK,by rw[U5];omega⟩⟩) (FJ _ a oc u es ep W.data (ks.map (·.1)) (by rw[U5];show W.len) λi hi=>?_) ⟨_,Zc 0,rfl,rfl⟩)
   ·let⟨rfl,ey⟩:=y;let nt:pT (H1 a):=by rw[W.at'];show W.nt
    let⟨p,iu,rp⟩:=rk.get ey;show⟨⟨p,iu,rp.mono p2<|(Kp.upd nt).trans t2⟩,Kp.refl _,ah⟩
   ·let⟨kv,i8,r1,_⟩:=W.ent i hi;show⟨kv.1,by rw[Vk,i8];rfl,r1⟩
def RH.writeQ(r:I_ h){u:HO}(e:φ[n]?=a_ a)(t:Kq H (R_ a u))(q:RO C φ (R_ a u) a o):RH C φ (R_ a u) (ZO o):=by
 refine⟨by rw[Wz];show r.len,r.nd,λm b ob h1 h2=>?_⟩;by_cases hm:n=m
 ·subst hm;rw[e]at h1;cases h1;let hl:n<h.length:=by rw[<-r.len];show(SC.mp e).1
  rw[VZ hl]at h2;cases h2
  show q
 ·rw[VH hm]at h2;let hb:b≠a:=λz=>by subst z;show hm ((List.getElem?_inj (SC.mp e).1 r.nd).mp<|e.trans h1.symm)
  show(r.at' m b ob h1 h2).stayQ Vb t (aH hb)
abbrev iK(d:Nat)(h:PH):C_ PH:=match h[d]? with
 |some (.fz o)=>a_ (h.set d o)
 |_=>b_
set_option tactic.hygienic true in
def jS{d:Nat}(rh:I_ h)(hd:tO h[d]?=true)(p:φ<+:φ')(t:ZA H')(ah:Zj h2)(e:iK d h2=a_ h3):
  ∃a oc u,H' a=a_ (.frz oc u)/\(∀o z,H a≠a_ (.frz o z))/\ZA (upd H' a u)/\RH C φ' (upd H' a u) h3/\Kq H' (upd H' a u):=by
 unfold iK at e;split at e
 ·rename_i o ho;cases e
  cases e0:h[d]? with
  |none=>rw[e0]at hd;cases hd
  |some o0=>
   rw[e0]at hd;let⟨a,ha,r0⟩:=rh.get e0;let nf:∀o z,H a≠a_ (.frz o z):=λo z q=>by
    cases o0 with
    |dK kvs=>let⟨ks,q2,_⟩:=r0;rw[q]at q2;cases q2
    |dD kvs=>let⟨ks,q2,_⟩:=r0;rw[q]at q2;cases q2
    |_=>cases hd
   let ha':=dN p ha;let r1:=ah.at' d a _ ha' ho;let gen:∀oc u,H' a=a_ (.frz oc u)->(∀xs,u≠.tup xs)->(∀xs,u≠.lst xs)->ZA (upd H' a u)/\Kq H' (upd H' a u):=λoc u q nt nl=>by
    let kq:Kq H' (upd H' a u):=⟨λb xs z=>by
     let ne:b≠a:=by
      rintro rfl;rcases z with z|⟨ob,z⟩
      ·rw[q]at z;cases z
      ·rw[q]at z;cases z;show nt _ rfl
     unfold Rd;rw[aH ne];show z,λb ob xs z=>by
     let ne:b≠a:=by rintro rfl;rw[q]at z;cases z;show nl _ rfl
     rw[aH ne];show z⟩
    refine⟨⟨λb xs z=>kq.1 b xs<|t.1 b xs z,λb ob z q2=>?_⟩,kq⟩;let ne:b≠a:=λz2=>nf ob z<|z2▸q2;rw[aH ne];show t.2 b ob z q2
   cases o with
   |dK kvs=>let⟨oc,ks,q,r⟩:=r1;let⟨k1,k2⟩:=gen oc _ q (λ_ z=>by cases z) (λ_ z=>by cases z);show⟨a,oc,_,q,nf,k1,ah.writeQ ha' k2 ⟨ks,aK,r.monoQ Vb k2⟩,k2⟩
   |dD kvs=>let⟨oc,ks,q,r⟩:=r1;let⟨k1,k2⟩:=gen oc _ q (λ_ z=>by cases z) (λ_ z=>by cases z);show⟨a,oc,_,q,nf,k1,ah.writeQ ha' k2 ⟨ks,aK,r.monoQ Vb k2⟩,k2⟩
   |_=>exact r1.elim
 ·cases e
abbrev wkD(b:Bool)(m:Me)(δ:Ev)(h:PH):C_ Nat:=match m δ h with
 |.ok x h1=>match wkI b x h1 with
  |some (d,_,_)=>if tO h[d]?=true then a_ d else b_
  |none=>b_
 |_=>b_
set_option tactic.hygienic true in
def HJ{d:Nat}(e:wkD b m δ h=a_ d):tO h[d]?=true:=by
 unfold wkD at e;split at e
 ·split at e
  ·split at e
   ·rename_i hd;cases e
    show hd
   ·cases e
  ·cases e
 ·cases e
abbrev rR(b:Bool)(m me:Me):Me:=λδ h=>match wkD b m δ h with
 |some d=>(me δ h).bind λp h2=>match iK d h2 with
  |some h3=>.ok p h3
  |none=>.bad
 |none=>.bad
def Nq(b:Bool)(m:Me)(he:G_ e me):G_ e (rR b m me):=λc=>by
 intro jn s σ H Q I q;let⟨φ,δ,h,rh,re,p⟩:=q;unfold rR at p;cases ed:wkD b m δ h with
 |none=>rw[ed]at p;show p.elim
 |some d=>
  rw[ed]at p;dsimp only at p;let hd:=HJ ed;refine thn (he c jn s σ H (λv H2=>∃a oc u,H2 a=a_ (.frz oc u)/\(∀o z,H a≠a_ (.frz o z))/\Q v (upd H2 a u)) I ⟨φ,δ,h,rh,re,?_⟩) ?_
  ·cases em:me δ h with
   |bad=>rw[em]at p;show p.elim
   |exc x h2=>rw[em]at p;show p
   |ok p2 h2=>
    rw[em]at p;let p0:P2 (match iK d h2 with|some h3=>.ok p2 h3|none=>.bad) Q:=p
    intro φ' v H' pp tt bp az;cases et:iK d h2 with
    |none=>rw[et]at p0;show p0.elim
    |some h3=>rw[et]at p0;let⟨a,oc,u,q,nf,k1,ay,k2⟩:=jS rh hd pp tt bp et;show⟨a,oc,u,q,nf,p0 φ' v _ pp k1 ay<|az.monoQ Vb k2⟩
  ·rintro v s1 ⟨x,H2,I2,r,a,oc,u,q,nf,hq⟩;show⟨x,_,I2.thaw q<|I.nofrz nf,r,hq⟩
def RE.monoQ{σ:St}(t:Kq H H')(h:Y8 0):RE C φ H' δ σ:=⟨h.1,λi x e=>let ⟨v,q,r⟩:=h.2 i x e;⟨v,q,r.monoQ Vb t⟩⟩
abbrev oA(d:Nat):Fl->Fl
 |.nx δ h=>match iK d h with
  |some h3=>.nx δ h3
  |none=>.bad
 |.rt p h=>match iK d h with
  |some h3=>.rt p h3
  |none=>.bad
 |.bk δ h=>match iK d h with
  |some h3=>.bk δ h3
  |none=>.bad
 |.ct δ h=>match iK d h with
  |some h3=>.ct δ h3
  |none=>.bad
 |.exc x h=>.exc x h
 |.bad=>.bad
abbrev oT(b:Bool)(m:Me)(ms:Ms):Ms:=λδ h=>match wkD b m δ h with
 |some d=>oA d (ms δ h)
 |none=>.bad
abbrev Eg(H:Hp)(P:Hp->Prop)(H2:Hp):Prop:=∃a oc u,H2 a=a_ (.frz oc u)/\(∀o z,H a≠a_ (.frz o z))/\P (upd H2 a u)
def Nr{ms:Ms}(b:Bool)(m:Me)(he:ZL st ms):ZL st (oT b m ms):=λc=>by
 intro jn s σ H D I q;let⟨φ,δ,h,rh,re,p⟩:=q;unfold oT at p;cases ed:wkD b m δ h with
 |none=>rw[ed]at p;show p.elim
 |some d=>
  rw[ed]at p;dsimp only at p;let hd:=HJ ed;refine thn (he c jn s σ H { nx:=λσ=>Eg H<|D.nx σ,rt:=λv=>Eg H<|D.rt v,bk:=λσ=>Eg H<|D.bk σ,ct:=λσ=>Eg H (D.ct σ)} I ⟨φ,δ,h,rh,re,?_⟩) ?_
  ·cases em:ms δ h with
   |bad=>rw[em]at p;show p.elim
   |exc x h2=>rw[em]at p;show p
   |nx δ2 h2=>
    rw[em]at p;intro φ' v H' pp tt bp az;cases et:iK d h2 with
    |none=>simp only[oA,et]at p;show p.elim
    |some h3=>simp only[oA,et]at p;let⟨a,oc,u,q,nf,k1,ay,k2⟩:=jS rh hd pp tt bp et;show⟨a,oc,u,q,nf,p φ' v _ pp k1 ay<|RE.monoQ k2 az⟩
   |rt x h2=>
    rw[em]at p;intro φ' v H' pp tt bp az;cases et:iK d h2 with
    |none=>simp only[oA,et]at p;show p.elim
    |some h3=>simp only[oA,et]at p;let⟨a,oc,u,q,nf,k1,ay,k2⟩:=jS rh hd pp tt bp et;show⟨a,oc,u,q,nf,p φ' v _ pp k1 ay<|az.monoQ Vb k2⟩
   |bk δ2 h2=>
    rw[em]at p;intro φ' v H' pp tt bp az;cases et:iK d h2 with
    |none=>simp only[oA,et]at p;show p.elim
    |some h3=>simp only[oA,et]at p;let⟨a,oc,u,q,nf,k1,ay,k2⟩:=jS rh hd pp tt bp et;show⟨a,oc,u,q,nf,p φ' v _ pp k1 ay<|RE.monoQ k2 az⟩
   |ct δ2 h2=>
    rw[em]at p;intro φ' v H' pp tt bp az;cases et:iK d h2 with
    |none=>simp only[oA,et]at p;show p.elim
    |some h3=>simp only[oA,et]at p;let⟨a,oc,u,q,nf,k1,ay,k2⟩:=jS rh hd pp tt bp et;show⟨a,oc,u,q,nf,p φ' v _ pp k1 ay<|RE.monoQ k2 az⟩
  ·intro f s1 hf;cases f with
   |next=>let⟨σ',H2,I2,a,oc,u,q,nf,hq⟩:=hf;show⟨σ',_,I2.thaw q<|I.nofrz nf,hq⟩
   |brk=>let⟨σ',H2,I2,a,oc,u,q,nf,hq⟩:=hf;show⟨σ',_,I2.thaw q<|I.nofrz nf,hq⟩
   |cont=>let⟨σ',H2,I2,a,oc,u,q,nf,hq⟩:=hf;show⟨σ',_,I2.thaw q<|I.nofrz nf,hq⟩
   |ret w=>let⟨v,σ',H2,I2,r,a,oc,u,q,nf,hq⟩:=hf;show⟨v,σ',_,I2.thaw q<|I.nofrz nf,r,hq⟩
abbrev cZ:PV->Y6 0->PH->Rs PV:=λx ps h=>match x,ps with
 |.ref n,[]=>if tO h[n]?=true then .ok (.ref h.length) (h++[.vw 0 n]) else .bad
 |_,_=>.bad
set_option tactic.hygienic true in
def HK:MtG C k X "dict" bR "dict.items" cZ:=λc=>⟨λjn s σ H x xs v us Q I rx rs h=>by
 let⟨φ,h,p,ps,rh,rp,ka,po⟩:=h;unfold cZ at po;split at po
 ·rename_i n;split at po
  ·rename_i hd;let⟨a,rfl,ha⟩:=rp;have:xs=[]:=by cases xs <;> first|rfl|exact ka.elim
   subst this;cases rx
   cases rs
   cases ho:h[n]? with
   |none=>rw[ho]at hd;cases hd
   |some o=>
    rw[ho]at hd;let⟨ks,u,oc,es,ep,W⟩:=HG c I rh ha ho hd;let hT:s.TypeIs (.ref a) "dict" := ⟨oc,W.get,W.cls⟩;refine call_meetsIn PySem.F.slot_dict_items hT PySem.F.entry_dict_items (PySem.F.args_dict_items_1 _) (Bf a W.nsys) ⟨hT,?_⟩;let fr:H (e_ s)=b_:=I.fresh;refine⟨.ref<|e_ s,_,I.laid (t':=s.toks) (o:=GY 0 (e_ s) a) (λb u e=>Zp e) (U6 _) ?_,rfl,?_⟩
    ·show⟨⟨_,Zc 0,rfl,rfl⟩,⟨_,Zc 0⟩,λh1 h2 ⟨o,e,p⟩ k=>⟨o,k o e,p⟩⟩
    ·show po (φ++[(e_ s)]) (.ref _) _ (VA _ _) (Kp.new fr) (rh.new fr ⟨a,dN (VA _ _) ha,aK⟩) ⟨_,rfl,by rw[<-rh.len];simp⟩
  ·show po.elim
 ·show po.elim,qD c⟩
end
def vY(e:h[n]?=a_ o)(hd:tO (a_ o)=true):cZ (.ref n) [] h=.ok (.ref h.length) (h++[.vw 0 n]):=by simp only[cZ,e,hd,if_true]
def BO{d:Nat}(e:h[n]?=a_ (.vw 0 d))(e2:h[d]?=a_ o)(hx:kK o=a_ xs):wkI true (.ref n) h=a_ (d,o,xs):=by simp[wkI,e,e2,hx]
def HL{x:PV}{d:Nat}(e:m δ h=.ok x h1)(ew:wkI b x h1=a_ (d,o,xs))(hd:tO h[d]?=true):wkD b m δ h=a_ d:=by simp[wkD,e,ew,hd]
def BP{x:PV}{d:Nat}(e:m δ h=.ok x h1)(ew:wkI b x h1=a_ (d,o,xs)):mJ b m δ h=.ok ⟨xs,λ_=>true⟩ (h1.set d<|.fz o):=by simp[mJ,e,ew]
def BQ{d:Nat}{l:B_ MO}(e:h1[d]?=a_ o):iK d (h1.set d (.fz o)++l)=a_ (h1++l):=by
 let hl:d<h1.length:=(SC.mp e).1;let e1:(h1.set d (.fz o)++l)[d]?=a_ (.fz o):=by rw[VT (by rw[Wz];show hl),VZ hl]
 unfold iK;rw[e1];dsimp only;congr 1;rw[List.set_append_left _ _ (by rw[Wz];show hl),List.set_set];congr 1;apply Wr;intro i;by_cases hi:d=i
 ·subst hi;rw[VZ hl,e]
 ·rw[VH hi]
def FL{α:Type}{x:PV}{d:Nat}{tg:Mg}{ys:B_ α}{emb:α->PV}(f:α->C_ PV)(e:m δ h=.ok x h1)(ew:wkI b x h1=a_ (d,o,ys.map emb))(hd:tO h[d]?=true)(ho:h1[d]?=a_ o)(hz:ys.length<=16777216)(step:∀y∈ys,∃δ1,tg (emb y) (dB js δ)=a_ δ1/\∀h,match f y with
   |none=>tst δ1 h=.ok false h
   |some p=>tst δ1 h=.ok true h/\elt δ1 h=.ok p h):rR b m (bG js (mJ b m) tg tst elt) δ h=.ok (.ref h1.length) (h1++[.lst (ys.filterMap f)]):=by
 let hc:=jQ (js:=js) (tg:=tg) (tst:=tst) (elt:=elt) (δ:=δ) (h:=h) (g:=λ_=>true) f (BP e ew) (λ_ _=>rfl) hz λy hy=>let ⟨δ1,a,b⟩:=step y hy;⟨δ1,a,λh _=>b h⟩;unfold rR;rw[HL e ew hd];dsimp only;rw[hc,Rs.bind_ok,BQ ho];rw[Wz]
def Ax{α:Type}{x:PV}{d:Nat}{tg:Mg}{ys:B_ α}{emb:α->PV}(f:α->C_ PV)(e:m δ h=.ok x h1)(ew:wkI b x h1=a_ (d,o,ys.map emb))(hd:tO h[d]?=true)(ho:h1[d]?=a_ o)(hz:ys.length<=16777216)(step:∀y∈ys,∃δ1,tg (emb y) (dB js δ)=a_ δ1/\∀h,match f y with
   |none=>tst δ1 h=.ok false h
   |some p=>tst δ1 h=.ok true h/\elt δ1 h=.ok p h):oT b m (aP i (bG js (mJ b m) tg tst elt)) δ h=.nx (δ.set i (c_ h1.length)) (h1++[.lst (ys.filterMap f)]):=by
 let hc:=jQ (js:=js) (tg:=tg) (tst:=tst) (elt:=elt) (δ:=δ) (h:=h) (g:=λ_=>true) f (BP e ew) (λ_ _=>rfl) hz λy hy=>let ⟨δ1,a,b⟩:=step y hy;⟨δ1,a,λh _=>b h⟩;unfold oT;rw[HL e ew hd];dsimp only;let hs:aP i (bG js (mJ b m) tg tst elt) δ h=.nx (δ.set i<|c_ h1.length) (h1.set d (.fz o)++[.lst<|ys.filterMap f]):=by unfold aP;rw[hc,Wz];rfl
 rw[hs];simp only[oA,BQ ho]
open PySem.SeqAt
section
variable{σ:St}
def vZ(I:P1 s):∀{ds es:B_ D}{vs:B_ V},Y0 0<=40->dH X.K H ds vs->dH X.K H es vs->ds=es
 |[],[],[],_,_,_=>rfl
 |d::ds,e::es,v::vs,h,⟨a,b⟩,⟨a',b'⟩=>by
  let hh:D.depths (d::ds)=max d.depth (Y0 0):=by simp[D.depths]
  let h1:d.depth<=40:=⋯;let h2:Y0 0<=40:=⋯;rw[nB I 40 d e v h1 a a',vZ I h2 b b']
 |[],_::_,vs,_,h,h'=>by
  cases vs with
  |nil=>exact h'.elim
  |cons _ _=>exact h.elim
 |_::_,[],vs,_,h,h'=>by
  cases vs with
  |nil=>exact h.elim
  |cons _ _=>exact h'.elim
def Rt(I:P1 s){ds es:B_ D}{x:V}{v:s_}(hd:Y0 0<=40)(hu:A.units+42<cLine)(hx:F2 X.K H ds x)(hy:F2 X.K H es y)(rx:ZI v)(ry:RelV y u):EqAt A s v u (gO ds es):=by
 let⟨a,vs,rfl,q,r⟩:=hx;let⟨b,jl,rfl,q',r'⟩:=hy;cases rx;cases ry;refine eZ (λprog w E Q hq=>?_) (λe=>?_) (λf t z=>by cases z)
 ·let⟨its,rv,p,_⟩:=I.list q;let⟨its',az,p',_⟩:=I.list q';let l1:=r.length;let l2:=r'.length;let l3:=rv.length;let l4:=az.length;by_cases hl:ds.length=es.length
  ·refine eq_listAt p.isList p'.isList (by simp;omega) ⋯ (uQ (I:=I) r r' rv az hd ⋯) ?_;let e1:its.toArray.size=ds.length:=by simp;omega
   rw[e1,yR hl];show hq
  ·refine eq_list_lengthsAt p.isList p'.isList (by simp;omega) ⋯ ?_;let e:gO ds es=false:=by
    cases h:gO ds es with
    |false=>rfl
    |true=>exact absurd (Bb h) hl
   rw[e]at hq;show hq
 ·cases e
  let ev:=I.list_inj q q';subst ev;let e2:=vZ I hd r r';subst e2;have:=jL<|.tup ds;simpa[eqD] using this
end
open PySem.SeqAt PySem.W
abbrev hdk:PV->C_ Nat
 |.tup (.int _::_)=>a_ 0
 |.tup (.str _::_)=>a_ 1
 |.tup (.tup _::_)=>a_ 2
 |_=>b_
def Inv.drn{σ:St}(I:P1 s)(d:Drawn):P1 { s with drawn:=d}:=⟨I.ok,I.os,I.bare,I.base,I.loc,I.cell,I.free,I.freeC,I.pin,I.hok,I.len⟩
abbrev HM(w:x_)(a:t_)(ks:Z9 0):HO:=.ext λh=>iU w h a ks
abbrev ddI(ns:Z9 0):Z9 0:=ns.foldl step_dedup []
abbrev sortI(ns:Z9 0):Z9 0:=ns.mergeSort<|λa b=>decide (a<=b)
def BR(ns:Z9 0):firstMet (λi=>ns.getD i 0) ns.length=ddI ns:=by
 unfold firstMet ddI;congr 1;apply YB
 ·simp
 ·intro i h1 h2;simp at h1;simp[h1]
def HN:∀(ns acc:Z9 0),(ns.foldl step_dedup acc).length<=acc.length+ns.length
 |[],acc=>by simp
 |n::ns,acc=>by refine VS (HN ns _) ?_;unfold step_dedup;split <;> simp <;> omega
def Ko(ns:Z9 0):(ddI ns).length<=ns.length:=by have:=HN ns [];simpa[ddI] using this
def sortI_perm(ns:Z9 0):(sortI ns).Perm ns:=List.mergeSort_perm ..
def HP(ns:Z9 0):(sortI ns).Pairwise (·<=·):=by have:=List.pairwise_mergeSort (le:=λa b:Int=>decide (a<=b)) (λa b c h1 h2=>by simp at *;omega) (λa b=>by simp;omega) ns;show this.imp (λh=>by simpa using h)
def BS:∀{l m:Z9 0},l.Perm m->l.Pairwise (·<=·)->m.Pairwise (·<=·)->l=m
 |[],m,p,_,_=>by simpa using p.symm.eq_nil
 |x::l,m,p,h1,h2=>by
  cases m with
  |nil=>simpa using p.eq_nil
  |cons y m=>
   let hx:x=y:=by
    let a1:=(Vt.mp h1).1;let a2:=(Vt.mp h2).1;let m1:=p.mem_iff.mp<|UV (a:=x) (l:=l);let m2:=p.mem_iff.mpr<|UV (a:=y) (l:=m);rcases U9.mp m1 with e|e
    ·show e
    ·rcases U9.mp m2 with e2|e2
     ·show e2.symm
     ·have:=a2 _ e;have:=a1 _ e2;omega
   subst hx;rw[BS (p.cons_inv) (Vt.mp h1).2 (Vt.mp h2).2]
def FM{vs:ZQ 0}(h:IntsAre vs ns)(h0:0<vs.length):keyKind' vs.toArray=pure oneType':=by
 cases h with
 |nil=>simp at h0
 |cons n t r=>
  cases r with
  |nil=>
   rw[keyKind'_eq,List.mapM_toArray,mapM_first_ints<|.cons n t .nil];simp only[map_pure,pure_bind];rw[if_neg<|by simp,if_neg<|by simp,oneTypeOnly'_eq];simp;rw[show typeOf (Wt n t)=pure (WV "int") from rfl]
   simp
  |cons m u r=>exact keyKind_ints<|.cons n t<|.cons m u r
def sV{vs:ZQ 0}(h:IntsAre vs ns):vs.length=ns.length/\∀i,i<vs.length->∃t,Zn 0=Wt (ns.getD i 0) t:=by
 induction h with
 |nil=>exact⟨rfl,λi h=>by simp at h⟩
 |cons n t r ih=>
  refine⟨by simp[ih.1],λi h=>?_⟩;cases i with
  |zero=>exact⟨t,rfl⟩
  |succ i=>simpa using ih.2 i (l_ h)
def qJ{vs:ZQ 0}{ns:Z9 0}(h:IntsAre vs ns):∀{q:B_ Nat},(∀i∈q,i<vs.length)->aJ ((q.map λi=>ns.getD i 0).map V.int) (q.map λi=>Zn 0)
 |[],_=>.nil
 |i::q,hq=>by let⟨t,e⟩:=(sV h).2 i<|hq i UV;simp only[Vi,e];show .cons ⟨t,rfl⟩<|qJ h λj hj=>hq j (U8 _ hj)
def BU{ks:Z9 0}{R:ZQ 0->td->Prop}(hh:A.handled=b_)(hS:iU w s.heap a ks)(hz:ks.length<=Ve)
  (h:∀h' d tk vs ms,(∀b o,N_ 0=a_ o->Zf 0=a_ o)->IntsAre vs ms->ms.Perm ks->R vs {s with heap:=h',drawn:=d,toks:=tk}):k_ (collect<|.ref a) R E s:=by
 let⟨o,es,ep,t,ho,hx,hd,ht,hf,n9,hp⟩:=hS
 have hlen:es.size=ks.length:=by have:=hp.length_eq;simpa using this
 unfold collect
 refine SB<|wpAny_runValue<|Xo PyProof.Rows.entry_proto_collect' ?_
 rw[WQ F.plain_proto_collect]
 refine(show u_ (newObj _ _ >>= _) _ _ _ from SB (Vo<|SL ⟨X8 F.plain_list_iadd _,Xo PyProof.Rows.entry_list_iadd' ?_⟩))
 rw[WQ F.plain_list_iadd]
 have SV:(s.heap.push {cls:=.type "list",data:=.seq #[]}).get? (e_ s)=a_ {cls:=.type "list",data:=.seq #[]}:=U7 s.heap rfl
 have d0:(s.heap.push {cls:=.type "list",data:=.seq #[]}).get? a=a_ o:=Zp ho
 refine(show u_ (V1 (.ref<|e_ s) (.ref a)<|.ref<|e_ s) _ _ _ from ?_)
 refine CL (R:=λr s'=>match r with|.ok (.ret v)=>k_ (match v with|Vu a=>(do let o <-load a;match o.data with|Data.seq xs epoch=>pure xs.toList|x=>unsupported "internal:collect")|x=>unsupported "internal:collect") R E s'|.ok _=>False|.error e=>E e s') (s:={s with heap:=s.heap.push {cls:=.type "list",data:=.seq #[]} }) hh d0 hx hd ht hf ⋯ (e_ s) (WR<|Vd ho) _ 0 SV λh' d tk acc c' kp jw pe=>?_
 refine(show u_ (load (e_ s) >>= _) _ _ _ from SB (wpAny_load jw<|SL ?_))
 have all:∀(l:ZQ 0),(∀v∈l,∃k tk,v=Wt k tk)->∃ms,IntsAre l ms/\ms=l.map λv=>uZ (0,v):=by
  intro l
  induction l with
  |nil=>intro _;exact⟨[],.nil,rfl⟩
  |cons v l ih=>
   intro hv
   let⟨k,tk,rfl⟩:=hv v UV
   let⟨ms,i,e⟩:=ih λv h=>hv v<|U8 _ h
   exact⟨k::ms,.cons k tk i,by rw[e];rfl⟩
 let⟨ms,i,e⟩:=all acc.toList λv hv=>by
  let⟨x,hx,rfl⟩:=Vp.mp<|pe.mem_iff.mp hv
  let⟨k,tk,rfl⟩:=n9 x hx
  exact⟨k,tk,rfl⟩
 refine h h' d tk acc.toList ms (λb o e=>kp b o (Vh<|Vd e)<|Zp e) i ?_
 rw[e]
 refine(pe.map _).trans ?_
 rw[VJ]
 exact(show es.toList.map (λx=>uZ (0,x.2))=es.toList.map uZ from WC λx _=>rfl)▸hp
section
variable{k:Nat}
def FN(hc:X.calm=true):cO X (.type "set") (λxs H Q=>∃l ns,xs=[.ref l]/\SqL X.K H l (ZS 0)/\ns.length<64/\∀a,H a=b_->Q (.ref a) (R_ a<|HM X.w a<|ddI ns)):=by
 intro jn s σ H xs us Q I r h;let⟨l,ns,rfl,hq,dh,q⟩:=h;let⟨u,rfl,ru⟩:=vals1 r;cases ru
 let⟨its,rv,pl,hz⟩:=I.list hq;let hlen:=rv.length;rw[U5]at hlen;refine Fc (I.ok.hd hc) pl.isList (ns:=ns) (by simpa using intsAre_of rv) (by simp[scanBound];omega) λh' tk hS kp=>?_
 let hn:(Xy its).size=ns.length:=by simpa using hlen.symm
 rw[hn,BR]at hS;have:∃o,h'.get? (e_ s)=a_ o:=let ⟨o,_,_,_,e,_⟩:=hS;⟨o,e⟩;show⟨.ref<|e_ s,_,I.laid (t':=tk) (o:=HM X.w (e_ s)<|ddI ns) kp (U6 _) ⟨hS,this,λh1 h2 p k=>iU.kept p k⟩,rfl,q _ I.fresh⟩
def Dj(hc:X.calm=true):cO X (.builtin "sorted") (λxs H Q=>∃a ks,xs=[.ref a]/\H a=a_ (HM X.w a ks)/\ks.length<64/\∀l,H l=b_->Q (.ref l) (R_ l<|.lst<|(sortI ks).map V.int)):=by
 intro jn s σ H xs us Q I r h;let⟨a,ks,rfl,hH,dh,q⟩:=h;let⟨u,rfl,ru⟩:=vals1 r;cases ru
 let hS:iU X.w s.heap a ks:=(I.hok a _ hH).1;refine yW (κ:=oneType') (λits s1=>∃ms,P1 s1/\IntsAre its ms/\ms.Perm ks) (BU (I.ok.hd hc) hS (by rw[VQ];omega) λh' d tk vs ms kp i pe=>⟨ms,(I.drn d).kept (t':=tk) kp,i,pe⟩) ?_;rintro its s1 ⟨ms,I1,i,pe⟩;let⟨l1,g⟩:=sV i;let l2:=pe.length_eq;refine⟨⋯,λi j=>decide (ms.getD i 0<ms.getD j 0),λi j k hi hj hk h1 h2=>by simp only[decide_eq_false_iff_not] at *;omega,λi j _ _ h=>by simp only[decide_eq_true_eq,decide_eq_false_iff_not] at *;omega,λA' s' kp h0 Q' E' hq=>?_,λs' kp i j hi hj Q' hq=>?_,λp h' e a1 a2 kp he=>?_⟩
 ·rw[FM i h0];show SL hq
 ·let⟨t,e1⟩:=g i hi;let⟨u,e2⟩:=g j hj;rw[e1,e2];show W.kat_lt_int hq
 ·let cp:∀i∈p,i<its.length:=λi hi=>by
   have:=a1.mem_iff.mp hi
   rwa[Xh]at this
  let hz:(p.map λi=>ms.getD i 0)=sortI ks:=by
   refine BS ?_ ?_<|HP ks
   ·refine List.Perm.trans ?_ (sortI_perm ks).symm;refine List.Perm.trans ?_ pe;refine(a1.map _).trans ?_;have:(Vm its.length).map (λi=>ms.getD i 0)=ms:=by
     apply YB
     ·simp[l1]
     ·intro i h1 h2;simp at h1;simp[h2]
    rw[this]
   ·rw[V2];refine a2.imp λh=>?_;simp only[decide_eq_false_iff_not]at h;omega
  let rv:=qJ i cp;rw[hz]at rv;refine⟨.ref<|e_ s1,_,I1.laid (t':=s1.toks) (o:=.lst<|(sortI ks).map V.int) kp (U6 _) ⟨?_,_,e,rv,he⟩,rfl,q _ I1.fresh⟩;rw[U5,(sortI_perm ks).length_eq,VQ];omega
abbrev fU:PV->PH->Rs PV:=λx h=>match x with
 |.ref n=>match aM h n with
  |some ys=>match vL ys with
   |some ns=>if ns.length<64 then .ok (.ref h.length) (h++[.lst<|(sortI<|ddI ns).map PV.int]) else .bad
   |none=>.bad
  |none=>.bad
 |_=>.bad
def BV{φ:B_ t_}{H:Hp}:∀(ns:Z9 0),E_ (Zw 0) (ZS 0)
 |[]=>trivial
 |_::ns=>⟨rfl,BV ns⟩
set_option tactic.hygienic true in
def FO{p:Pos}(he:G_ e me)(hb:("sorted" : Str)∈C.bs)(kj:("set" : Str)∈C.bs)(hg:Gl X "sorted" := by rfl)(TZ:Gl X "set" := by rfl)(SQ:Vl [e] X.env=(false,U_ 0)::Vl [] X.env:=by rfl)(xb:(backTo bz<|Vl [] X.env).any (·.1)=false:=by rfl)(gf:Vl [.Call (.Name "set" p2) [e] [] bz] X.env=(false,eval (.Call (.Name "set" p2) [e] [] bz) X.env)::Vl [] X.env:=by rfl)(rn:(Y1<|Vl [] X.env).any (·.1)=false:=by rfl):
  G_ (.Call (.Name "sorted" p) [.Call (.Name "set" p2) [e] [] bz] [] pos) (mUn fU me):=λc=>
 (B6 (Dj c.calm) hg (c.bn _ hb) PyProof.Rows.Boot.«sorted» (nA (yF (FN c.calm) TZ (c.bn _ kj) PyProof.Rows.Boot.«set» (nA (he c) qT SQ) nofun nofun SQ xb) qT gf) nofun nofun gf rn).imp λσ H Q h=>by
  let⟨φ,δ,h,rh,re,p⟩:=h;refine⟨φ,δ,h,rh,re,(post.bind p).imp ?_⟩;rintro v H1 ⟨φ1,x,h1,p1,t1,aa,ab,q1⟩;unfold fU at q1;split at q1
  ·rename_i n;let⟨a,rfl,ha⟩:=ab;split at q1
   ·rename_i ys ey;split at q1
    ·rename_i ns en;let⟨dh,q1⟩:=q1.ite;let⟨a',vs,ha',sq,iq⟩:=bN aa ey;rw[ha]at ha';cases ha'
     rw[Am iq en]at sq;refine⟨a,ns,rfl,by rw[c.K];show sq,dh,λb hb=>?_⟩;refine⟨b,ddI ns,rfl,aK,Nat.lt_of_le_of_lt (Ko ns) dh,λl hl=>?_⟩;let hK:Kp H1 (upd H1 b<|HM X.w b<|ddI ns):=Kp.new hb;let q2:post C φ1 (upd H1 b<|HM X.w b<|ddI ns) (.ok (.ref h1.length)<|h1++[.lst<|(sortI<|ddI ns).map PV.int]) Q:=λφ' v H' p t rh rv=>q1 φ' v H' p (hK.trans t) rh rv;show q2.lnew (aa.same<|Cv.upd hb) (BV _) hl
    ·show q1.elim
   ·show q1.elim
  ·show q1.elim
end
open PySem.SeqAt
abbrev eqL(f:PV->PV->C_ Bool):Y6 0->Y6 0->C_ Bool
 |x::xs,y::ys=>match f x y,eqL f xs ys with
  |some b,a_ c=>a_ (b&&c)
  |_,_=>b_
 |[],[]=>a_ true
 |_,_=>a_ false
set_option tactic.hygienic true in
def HQ{f:PV->PV->C_ Bool}:∀{xs ys:Y6 0}{b:Bool},eqL f xs ys=a_ b->
  ∃g:Nat->Bool,(∀(j:Nat)(x y:PV),xs[j]?=a_ x->ys[j]?=a_ y->f x y=a_ (g j))/\b=((Vm<|min xs.length ys.length).all g&&xs.length == ys.length)
 |[],[],b,e=>⟨λ_=>true,λj x y h=>(by simp at h),by cases e;rfl⟩
 |[],y::ys,b,e=>⟨λ_=>true,λj x y h=>(by simp at h),by cases e;simp⟩
 |x::xs,[],b,e=>⟨λ_=>true,λj x y _ h=>(by simp at h),by cases e;simp⟩
 |x::xs,y::ys,b,e=>by
  unfold eqL at e;split at e
  ·rename_i b' c e1 e2;cases e
   let⟨g,h1,h2⟩:=HQ e2;refine⟨λj=>match j with|0=>b'|j+1=>g j,λj x y hx hy=>?_,?_⟩
   ·cases j with
    |zero=>simp at hx hy;subst hx hy;show e1
    |succ j=>exact h1 j x y (l_ hx)<|l_ hy
   ·rw[h2];let e3:min (x::xs).length (y::ys).length=min xs.length ys.length+1:=by simp only[VN];omega
    rw[e3,Yg,Yq,List.all_map,Bool.and_assoc];simp[YO]
  ·cases e
set_option tactic.hygienic true in
def Ay{f:PV->PV->C_ Bool}{R:PV->V->Prop}(hf:∀x y v b,f x y=a_ b->R x v->R y v->b=true):∀{xs ys:Y6 0}{vs:B_ V}{b:Bool},(∀(j:Nat)(x:PV),xs[j]?=a_ x->∃v,vs[j]?=a_ v/\R x v)->(∀(j:Nat)(x:PV),ys[j]?=a_ x->∃v,vs[j]?=a_ v/\R x v)->xs.length=ys.length->eqL f xs ys=a_ b->b=true
 |[],[],_,b,_,_,_,e=>by cases e;rfl
 |[],_::_,_,_,_,_,h,_=>by simp at h
 |_::_,[],_,_,_,_,h,_=>by simp at h
 |x::xs,y::ys,vs,b,h1,h2,h,e=>by
  unfold eqL at e;split at e
  ·rename_i b' c e1 e2;cases e
   let⟨v,hv,rx⟩:=h1 0 x rfl;let⟨v',o9,ry⟩:=h2 0 y rfl;rw[hv]at o9;cases o9
   rw[hf x y v b' e1 rx ry,Ay hf (vs:=vs.tail) (λj z hz=>by simpa using h1 (j+1) z hz) (λj z hz=>by simpa using h2 (j+1) z hz) (l_ h) e2]
   rfl
  ·cases e
abbrev eqF:Nat->PV->PV->PH->C_ Bool
 |0,x,y,h=>iH x y h
 |n+1,x,y,h=>match iH x y h with
  |some b=>a_ b
  |none=>match x,y with
   |.tup xs,.tup ys=>eqL (λa b=>eqF n a b h) xs ys
   |x,y=>match dI x h,dI y h with
    |some xs,a_ ys=>eqL (λa b=>eqF n a b h) xs ys
    |_,_=>b_
abbrev FP:PV->PV->PH->Rs PV:=λx y h=>ofB (eqF 3 x y h) h
section
variable{k:Nat}{σ:St}
def oU:∀{xs:Y6 0}{vs:B_ V},ZV 0->xs.length=vs.length/\∀(j:Nat)(x:PV),xs[j]?=a_ x->∃v,vs[j]?=a_ v/\D_ x v
 |[],[],_=>⟨rfl,λj x h=>by simp at h⟩
 |x::xs,v::vs,r=>by
  let⟨l,q⟩:=oU r.2;refine⟨by simp[l],λj y hy=>?_⟩;cases j with
  |zero=>simp at hy;subst hy;show⟨v,rfl,r.1⟩
  |succ j=>simpa using q j y (l_ hy)
 |[],_::_,r=>r.elim
 |_::_,[],r=>r.elim
def zL(I:P1 s)(hK:X.K=C.K)(rh:I_ h){x y:PV}{w:V}(e:iH x y h=a_ b)(rx:D_ x w)(ry:D_ y w):b=true:=by
 rcases oH rh rx ry e with⟨d,e',q1,q2,q3,rfl⟩|⟨d,e',⟨a,vs,hw,sa,ra⟩,⟨a',us,hw',gv,ra'⟩,q3,rfl⟩
 ·rw[<-hK]at q1 q2;rw[nB I 40 d e' w q3 q1 q2];show jL _
 ·rw[<-hK]at sa gv ra ra';subst hw;cases hw'
  let ev:=I.list_inj sa gv;subst ev;let e2:=vZ I q3 ra ra';subst e2;have:=jL<|.tup d;simpa[eqD] using this
set_option tactic.hygienic true in
def HU(I:P1 s)(hK:X.K=C.K)(rh:I_ h):∀(n:Nat)(x y:PV)(w:V)(b:Bool),eqF n x y h=a_ b->D_ x w->D_ y w->b=true:=by
 intro n
 induction n with
 |zero=>intro x y w b e rx ry;show zL I hK rh e rx ry
 |succ n ih=>
  intro x y w b e rx ry;unfold eqF at e;split at e
  ·rename_i b' e2;cases e
   show zL I hK rh e2 rx ry
  ·split at e
   ·rename_i xs ys _;let⟨a,vs,rfl,q,r⟩:=rx;let⟨a',us,hw,q',r'⟩:=ry;cases hw
    rw[<-hK]at q q';let ev:=I.tuple_inj q q';subst ev;let⟨l1,a1⟩:=oU r;let⟨l2,a2⟩:=oU r';show Ay (R:=RV C φ H) (λx y v b=>ih x y v b) a1 a2 ⋯ e
   ·split at e
    ·rename_i xs ys h1 h2;let⟨a,vs,rfl,sa,ra⟩:=fQ rh rx h1;let⟨a',us,hw,sb,rb⟩:=fQ rh ry h2;cases hw
     rw[<-hK]at sa sb;let ev:=I.list_inj sa sb;subst ev;let⟨l1,a1⟩:=oU ra;let⟨l2,a2⟩:=oU rb;show Ay (R:=RV C φ H) (λx y v b=>ih x y v b) a1 a2 ⋯ e
    ·cases e
def BW(hn:∀(A:v_)(x y:PV)(v u:V)(i j:s_)(b:Bool),A.units+42+n<cLine->eqF n x y h=a_ b->D_ x v->D_ y u->ZJ i->RelV u j->EqAt A s i j b){us:B_ V}{is js:ZQ 0}(hu:A.units+42+n<cLine)(e:eqL (λa b=>eqF n a b h) xs ys=a_ b)(r:ZV 0)(r':E_ ys us)(rv:aJ vs is)(cx:aJ us js):
  ∃g:Nat->Bool,is.toArray.size=xs.length/\js.toArray.size=ys.length/\(∀(j:Nat)(h1:j<is.toArray.size)(h2:j<js.toArray.size),EqAt A s is.toArray[j] js.toArray[j]<|g j)/\b=((Vm<|min is.toArray.size js.toArray.size).all g&&is.toArray.size == js.toArray.size):=by
 let⟨g,hg,hb⟩:=HQ e;let⟨l1,a1⟩:=oU r;let⟨l2,a2⟩:=oU r';let l3:=rv.length;let l4:=cx.length;let z1:is.toArray.size=xs.length:=by simp;omega
 let z2:js.toArray.size=ys.length:=by simp;omega
 refine⟨g,z1,z2,λj h1 h2=>?_,by rw[z1,z2];show hb⟩;let k1:j<xs.length:=⋯;let k2:j<ys.length:=⋯;let⟨v,hv,q1⟩:=a1 j xs[j]<|VM k1;let⟨u,yx,q2⟩:=a2 j ys[j]<|VM k2;let⟨i,hi,q3⟩:=rv.get hv;let⟨i',ak,q4⟩:=cx.get yx;let e1:is.toArray[j]=i:=by have:=(SC.mp hi).2;simpa using this
 let e2:js.toArray[j]=i':=by have:=(SC.mp ak).2;simpa using this
 rw[e1,e2];show hn A _ _ v u i i' (g j) hu (hg j _ _ (VM k1)<|VM k2) q1 q2 q3 q4
set_option tactic.hygienic true in
def Dk(I:P1 s)(hK:X.K=C.K)(rh:I_ h)(n:Nat)(hn:∀(A:v_)(x y:PV)(v u:V)(i j:s_)(b:Bool),A.units+42+n<cLine->eqF n x y h=a_ b->D_ x v->D_ y u->ZJ i->RelV u j->EqAt A s i j b)
  (A:v_) (x y:PV) (v u:V) (i j:s_) (b:Bool) (hu:A.units+43+n<cLine) (e2:iH x y h=b_) (e:eqF (n+1) x y h=a_ b) (rx:D_ x v) (ry:D_ y u) (r1:ZJ i) (r2:RelV u j):
  RcAt A s i j b/\RcNeAt A s i j (!b)/\∃a a',i=.ref a/\j=.ref a'/\v=.ref a/\u=.ref a':=by
 unfold eqF at e;rw[e2]at e;simp only at e;split at e
 ·rename_i xs ys;let⟨a,vs,rfl,q,r⟩:=rx;let⟨a',us,rfl,q',r'⟩:=ry;cases r1;cases r2;rw[<-hK]at q q';let⟨its,rv,p,_⟩:=I.tuple q;let⟨its',az,p',_⟩:=I.tuple q';let⟨g,z1,z2,el,hb⟩:=BW hn (A:=A.in1) (by change A.units+1+42+n<cLine;omega) e r r' rv az;rw[hb];show⟨RcAt.tuples p p' ⋯ el,RcNeAt.tuples p p' ⋯ el,a,a',rfl,rfl,rfl,rfl⟩
 ·split at e
  ·rename_i xs ys h1 h2;let⟨a,vs,rfl,sa,ra⟩:=fQ rh rx h1;let⟨a',us,rfl,sb,rb⟩:=fQ rh ry h2;cases r1;cases r2;rw[<-hK]at sa sb;let⟨its,rv,p,_⟩:=I.list sa;let⟨its',az,p',_⟩:=I.list sb;let⟨g,z1,z2,el,hb⟩:=BW hn (A:=A.in1) (by change A.units+1+42+n<cLine;omega) e ra rb rv az;refine⟨?_,?_,a,a',rfl,rfl,rfl,rfl⟩
   all_goals by_cases hl:its.toArray.size=its'.toArray.size
   all_goals first
    |rw[hb,<-hl,Nat.min_self,beq_self_eq_true,Bool.and_true]
    |rw[hb,beq_eq_false_iff_ne.mpr hl,Bool.and_false]
   ·intro prog w E Q hq;show eq_listAt p.isList p'.isList hl ⋯ el hq
   ·intro prog w E Q hq;show eq_list_lengthsAt p.isList p'.isList (l_ hl) ⋯ hq
   ·show RcNeAt.lists p.isList p'.isList hl ⋯ el
   ·show RcNeAt.lists_lengths p.isList p'.isList (l_ hl) ⋯
  ·cases e
def HV(I:P1 s)(hK:X.K=C.K)(rh:I_ h):∀(n:Nat)(A:v_)(x y:PV)(v u:V)(i j:s_)(b:Bool),A.units+42+n<cLine->eqF n x y h=a_ b->D_ x v->D_ y u->ZJ i->RelV u j->EqAt A s i j b:=by
 let base:∀(A:v_)(x y:PV)(v u:V)(i j:s_)(b:Bool),A.units+42<cLine->iH x y h=a_ b->D_ x v->D_ y u->ZJ i->RelV u j->EqAt A s i j b:=by
  intro A x y v u i j b hu e rx ry r1 r3;rcases oH rh rx ry e with⟨d,e',q1,q2,q3,rfl⟩|⟨d,e',q1,q2,q3,rfl⟩
  ·show Mn I (n:=40) q3 ⋯ (by rw[hK];show q1) (by rw[hK];show q2) r1 r3
  ·show Rt I q3 hu (by rw[hK];show q1) (by rw[hK];show q2) r1 r3
 intro n
 induction n with
 |zero=>intro A x y v u i j b hu e;show base A x y v u i j b ⋯ e
 |succ n ih=>
  intro A x y v u i j b hu e rx ry r1 r2;cases e2:iH x y h with
  |some b'=>
   unfold eqF at e;rw[e2]at e;cases e
   show base A x y v u i j b ⋯ e2 rx ry r1 r2
  |none=>
   let⟨h1,_,a,a',rfl,rfl,rfl,rfl⟩:=Dk I hK rh n ih A x y v u i j b ⋯ e2 e rx ry r1 r2;refine eZ h1 (λz=>?_) (λf t z=>by cases z);cases z
   show HU I hK rh (n+1) x y _ b e rx ry
set_option tactic.hygienic true in
def HW{x y:PV}(e:eqF 3 x y h=a_ b):iH x y h=a_ b\/iH x y h=b_:=by
 unfold eqF at e;split at e
 ·rename_i b' e2;cases e
  show .inl e2
 ·show .inr (by assumption)
def Nt:Y3 (VG .Eq) FP:=λc=>by
 intro jn s σ H x y v u Q I rx ry hq;let⟨φ,h,p,q,rh,rp,rq,po⟩:=hq;let⟨b,e,po⟩:=po.ofB;let hu:=c.hu64;rcases HW e with e2|e2
 ·refine Mz c jn s σ H x y v u Q I rx ry ⟨φ,h,p,q,rh,rp,rq,?_⟩;unfold vEq;rw[e2];show po
 ·show(Dk I c.K rh 2 (HV I c.K rh 2) X.A p q x y v u b ⋯ e2 e rp rq rx ry).1 X.prog X.w X.xe _ ⟨.bl _,H,I,rfl,P_ rfl⟩
end
abbrev rvX(n i:Nat):Int:=if i<n then((n-1-i:Nat):Int) else -1
abbrev Nu(K:UF)(l:t_)(n:Nat):It:=⟨λi H=>∃vs v,ZW l vs/\vs.length=n/\vs.reverse[i]?=a_ v,λi H x H'=>H'=H/\∀vs,ZW l vs->vs.reverse[i]?=a_ x,λi _=>n<=i⟩
def HX(a it:t_)(n:Nat):Turn P w K tg (Nu K a n) [it] it (λi h=>h.IsRevIter it a<|rvX n i) where
 mem:=by simp
 obj:=λi h st b hb=>by
  let e:b=it:=by simpa using hb
  subst e;let⟨o,e,c,d⟩:=st;show⟨o,e,λv z=>by rw[d]at z;cases z⟩
 keep:=λi h h' st k=>st.at λo e=>k it (by simp) o e
 item:=by
  intro X hP hw hK hc i jn s σ H E I hf st hg;subst hP hw hK;let⟨xs,x,hq,hn,hx⟩:=hg;let⟨its,rv,p,hz⟩:=I.list hq;let hi:=(SC.mp hx).1;rw[Yd]at hi;let de:xs[n-1-i]?=a_ x:=by rw[List.getElem?_reverse hi]at hx;rw[<-hn];show hx
  let⟨u,hu,ru⟩:=rv.get de;let⟨f0,f1,f2,f3,f4,f5⟩:=hf it (by simp);let st:s.heap.IsRevIter it a (rvX n i):=st;rw[show rvX n i=((n-1-i:Nat):Int) from if_pos ⋯]at st
  refine wpAny_pyNext_rev_item st p.isList (x:=u) (l_ hu) λh' bu sb=>?_;let I1:P1 {s with heap:=h'}:=I.turned (t':=s.toks) (λb o hb e=>(sb.2 b hb).trans e) f0 f1 f3 f4 f5;let⟨o,e,c,d⟩:=id bu;rw[show((n-1-i:Nat):Int)-1=rvX n (i+1) by unfold rvX;split <;> omega]at bu;show⟨u,rfl,B1 (s:={s with heap:=h'}) e c d nofun ⟨x,H,I1,ru,⟨rfl,λys hy=>by rw[I.list_inj hy hq];show hx⟩,bu,λb hb=>(hf b hb).1⟩⟩
 done:=by
  intro X hP hw hK hc i jn s σ H E I hf st hg;subst hP hw hK;let hg:n<=i:=hg;let⟨f0,f1,f2,f3,f4,f5⟩:=hf it (by simp);let st:s.heap.IsRevIter it a (rvX n i):=st;rw[show rvX n i=-1 from if_neg ⋯]at st
  show wpAny_pyNext_rev_end (I.ok.hd hc) st λh' eb=>⟨rfl,I.turned (t':=s.toks) (λb o hb e=>eb b o hb e) f0 f1 f3 f4 f5⟩
 self:=λ_ _ _ _ _ st h=>wpAny_pyIter_revIter st h
abbrev iRv(X:Cx)(ta:TA):TI:=λσ H R=>ta σ H λvs H1=>∃l xs,vs=[.ref l]/\SqL X.K H1 l xs/\R (Nu X.K l xs.length) H1
def Nv{a:z_}{ta:TA}{p:Pos}(hg:Gl X "reversed")(hm:X.mg "reversed" = b_)(ha:PA X [a] ta)(hs:Vl [a] X.env=[(false,eval a X.env)]:=by rfl):
  PI X tg (.Call (.Name "reversed" p) [a] [] pos) (iRv X ta):=by
 intro jn s σ H R I h;refine Call_<|jB I hg hm boot_reversed<|Wm (thn (ZK 0) λus s1 z9=>?_) hs rfl;let⟨vs,H1,I1,r1,q1⟩:=z9;let⟨l,xs,e,hq,q⟩:=q1;subst e;cases r1 with
 |cons r rr=>
  cases rr
  cases r
  let⟨its,rv,pl,hz⟩:=I1.list hq;refine call_reversed_list pl.isList ?_;let st:(s1.heap.push<|revObj l<|(its.toArray.size:Int)-1).IsRevIter (e_ s1) l ((its.toArray.size:Int)-1):=⟨_,Zc 0,rfl,rfl⟩;refine wpAny_pyIter_revIter st ?_;let hl:=rv.length;let e0:((its.toArray.size:Nat):Int)-1=rvX xs.length 0:=by rw[Va,<-hl];unfold rvX;split <;> omega
  rw[e0]at st⊢;refine⟨(e_ s1),[(e_ s1)],_,_,H1,rfl,I1.kept (t':=s1.toks) λb o e=>Zp e,HX l _ xs.length,st,λb hb=>?_,q⟩;let e:b=(e_ s1):=by simpa using hb
  subst e;show I1.fpOk (U6 _)<|I1.hok.fresh<|U6 _
abbrev rvI:Y6 0->PH->Rs Wk:=λps h=>match ps with
 | [.ref n]=>(match aM h n with
   |some xs=>.ok ⟨xs.reverse,tL n xs⟩ h
   |none=>.bad)
 |_=>.bad
abbrev HY(ms:Ma):Mi:=λδ h=>(ms δ h).bind rvI
set_option tactic.hygienic true in
def PY{k:Nat}{x:z_}{p:Pos}(ha:SA C k X [x] ms)(hb:("reversed" : Str)∈C.bs:=by decide)(hg:Gl X "reversed" := by rfl)(hs:Vl [x] X.env=[(false,eval x X.env)]:=by rfl):
  SI C k X tg (.Call (.Name "reversed" p) [x] [] pos) (HY ms):=λc=>
 (Nv hg (c.bn _ hb) (ha c) hs).imp λσ H R h=>by
  let⟨φ,δ,h,rh,re,p⟩:=h;refine⟨φ,δ,h,rh,re,(postA.bindI p).imp ?_⟩;rintro vs H1 ⟨φ1,xs,h1,p1,t1,aa,ab,q1⟩;unfold rvI at q1;split at q1
  ·rename_i n;let⟨v,rfl,rx⟩:=ab.one;let⟨a,rfl,ha'⟩:=rx;cases e:aM h1 n with
   |none=>rw[e]at q1;show q1.elim
   |some xs=>
    rw[e]at q1;let⟨a2,us,aj,sa,ra⟩:=bN aa e;rw[ha']at aj;cases aj;rw[<-c.K]at sa;refine⟨a,us,rfl,sa,q1 φ1 H1 (Nu X.K a us.length) Vb (Kp.refl H1) aa λφ2 H2 h2 p2 t2 ah hg i=>?_⟩;let hg:(match aM h2 n with|some ys=>PV.beqs ys xs|none=>false)=true:=hg
    cases e2:aM h2 n with
    |none=>rw[e2]at hg;cases hg
    |some ys=>
     rw[e2]at hg;let uc:=PV.beqs_eq hg;subst uc;let⟨a3,sj,sm,su,ru⟩:=bN ah e2;rw[dN p2 ha']at sm;cases sm;rw[<-c.K]at su;let hl:=ru.length;let e5:sj.length=us.length:=by rw[<-hl,ra.length]
     change(i<ys.reverse.length->_)/\(ys.reverse.length<=i->_)
     rw[Yd];refine⟨λhi=>?_,λhi=>by change us.length<=i;omega⟩;let lj:i<sj.reverse.length:=by rw[Yd];omega
     refine⟨⟨sj,sj.reverse[i],su,e5,by rw[VM lj]⟩,λy H' yl=>?_⟩;let⟨rfl,hy⟩:=yl;let⟨pp,ep,rp⟩:=ru.reverse.get<|hy sj su;show⟨⟨pp,ep,rp⟩,Kp.refl _,ah⟩
  ·show q1.elim
abbrev kL:PV->Y6 0->PH->Rs PV:=λx ps h=>match x,ps with
 |.ref n,[.ref m]=>match bV h n,bV h m with
  |some xs,a_ ys=>if xs.length+ys.length<=Ve then .ok .non (ZO<|.lst<|xs++ys) else .bad
  |_,_=>.bad
 |_,_=>.bad
set_option tactic.hygienic true in
def FQ:MtR X "list.extend" (rM C kL):=MtR.imp (show MtR X "list.extend" DR from ES) λx xs H Q h=>by
 let⟨φ,h,p,ps,rh,rx,rs,po⟩:=h;unfold kL at po;split at po
 ·rename_i n m;let⟨a,rfl,ha⟩:=rx;let⟨v,rfl,rv⟩:=rs.one;let⟨b,rfl,hb⟩:=rv;cases e1:bV h n with
  |none=>rw[e1]at po;show po.elim
  |some us=>
   cases e2:bV h m with
   |none=>rw[e1,e2]at po;show po.elim
   |some ws=>rw[e1,e2]at po;let⟨vs,h1,r1⟩:=YZ<|fP e1;let⟨UJ,h2,r2⟩:=rh.at' m b _ hb<|fP e2;let⟨hz,po⟩:=po.ite;show⟨a,b,vs,UJ,rfl,rfl,h1,h2,by rw[<-r1.length,<-r2.length];show hz,po.lset rh ha h1 (r1.append r2) rfl⟩
 ·show po.elim
def HZ{k:Nat}:MtS C k X "list" isL "list.extend" kL:=λc=>⟨FQ,λφ H h p x rh rv e=>CW rh rv e⟩
def FS{m:Nat}(e1:h[n]?=a_ (.lst xs))(e2:h[m]?=a_ (.lst ys))(c:xs.length+ys.length<=16777216):kL (.ref n) [.ref m] h=.ok .non (ZO<|.lst<|xs++ys):=by
 let a1:bV h n=a_ xs:=by simp[bV,e1]
 let a2:bV h m=a_ ys:=by simp[bV,e2]
 unfold kL;simp only[a1,a2];rw[if_pos (by rw[VQ];show c)]
abbrev Az(f:Fn):Me:=λ_ h=>f [] h
def Kr{k:Nat}{p:Pos}{f:Fn}(D:Def C.K X.mg x st a fd ps)(G:M_ a fd ps (spM C 0 f))(hj:j<=k:=by decide)(hg:Gl X x:=by rfl)(cf:(x == ("__debug__" : Str))=false:=by decide):G_ (.Call (.Name x p) [] [] pos) (Az f):=λc=>by
 let e1:=c.K;let D':Def X.K X.mg x st a fd ps:=by rw[e1];show D
 let G':L_ CX0 j a fd ps (spM C 0 f):=by rw[e1];show G
 refine(Gn G' (c.room.mono hj) hg D'.mg D'.fn.kp D'.bd .nil yI cf).imp λσ H Q h=>?_;let⟨φ,δ,h,rh,re,p⟩:=h;show⟨φ,h,[],rh,trivial,rfl,p⟩
@[simp]theorem NY{f:Fn}:Az f δ h=f [] h:=(rfl)
abbrev GEs(P:Params):B_ (Str×Str)->B_ Xw->Prop
 |[],[]=>True
 |kv::r,e::es=>e.hash=PyData.keyHash P kv.1/\(∃t,e.key=.str kv.1 t)/\(∃t,e.val=.str kv.2 t)/\GEs P r es
 |_,_=>False
abbrev PZ(C:MC)(a:t_)(kvs:B_ (Str×Str)):Prop:=(a == Wi)=false/\(kvs.map λkv=>(Wd kv.1:Key)).Nodup/\∃es ep,C.K.lookup a=a_ ⟨.type "dict",b_,.dict es ep,#[]⟩/\GEs C.w.params kvs es.toList
abbrev sW:B_ (Str×Str)->Str->C_ Str
 |[],_=>b_
 |kv::r,z=>if kv.1=z then a_ kv.2 else sW r z
abbrev gdV(o:C_ Str):PV:=match o with
 |some v=>.str v
 |none=>.non
abbrev vGd(kvs:B_ (Str×Str)):PV->PH->Rs PV:=λp h=>match p with
 |.str z=>.ok (gdV<|sW kvs z) h
 |_=>.bad
def zM{P:y_}{w:x_}:∀{kvs:B_ (Str×Str)}{es:B_ Xw},GEs w.params kvs es->∃vs:B_ (Key×s_),Pairs (aZ P w) es vs/\vs.map (·.1)=(kvs.map λkv=>(Wd kv.1:Key))/\(∀e∈es,∃k,(aZ P w).is k e.key=true/\e.hash=(aZ P w).hash k)/\
  ∀z:Str,match sW kvs z with
   |some v=>∃t,valueAt vs (Wd z:Key)=a_ (.str v t)
   |none=>valueAt vs (Wd z:Key)=b_
 |[],[],_=>⟨[],.nil,rfl,(λ_ h=>nomatch h),λz=>rfl⟩
 |kv::r,e::es,⟨h1,⟨t1,h2⟩,⟨t2,h3⟩,h4⟩=>by
  let⟨vs,p,q,s,v⟩:=zM (P:=P) h4;let hi:(aZ P w).is (Wd kv.1:Key) e.key=true:=by rw[h2];show sE P w _ _
  refine⟨((Wd kv.1:Key),e.val)::vs,.cons hi rfl p,by rw[Vi,Vi,q],λx hx=>?_,λz=>?_⟩
  ·rcases U9.mp hx with rfl|hx
   ·show⟨_,hi,h1⟩
   ·show s x hx
  ·let hv:=v z;unfold valueAt at hv⊢;unfold sW;rw[W5];by_cases c:kv.1=z
   ·subst c;simp;show⟨t2,h3⟩
   ·let c2:¬ (Wd kv.1:Key)=Wd z:=λq=>c<|Sum.inr.inj q;simp only[if_neg c,decide_eq_false c2];show hv
 |[],_::_,h=>h.elim
 |_::_,[],h=>h.elim
def Ks{k:Nat}{kvs:B_ (Str×Str)}{p:Pos}(hm:X.mg x=c_ a)(g:PZ C a kvs)(he:G_ e m)(hg:Gl X x:=by rfl)(hd:(x == ("__debug__" : Str))=false:=by decide)(au:Xf (.Name x p) "get" X.env (eval (.Name x p) X.env)=eval (.Name x p) X.env:=by rfl)(fb:((backTo ae (Vl [e] X.env)).all (λx=>!x.1)&&(backToKw ae (keywordEach [] X.env)).all (λx=>x.1.isSome)
   && decide (([e]:B_ z_).length+([]:B_ Keyword).length+(if([]:B_ Keyword).isEmpty then 0 else 1)<30))=true:=by rfl)(aq:(apos.endLine == ae.line)=true:=by rfl)(hs:backTo ae (Vl [e] X.env)=[(false,U_ 0)]:=by rfl):G_ (.Call (.Attribute (.Name x p) "get" apos) [e] [] ae) (mUn (vGd kvs) m):=λc jn s σ H Q I q=>by
 let⟨φ,δ,h,rh,re,po⟩:=q;let⟨g1,g2,es,ep,g3,g4⟩:=g;rw[<-c.w]at g4;rw[<-c.K]at g3;let⟨vs,p1,p2,p3,p4⟩:=zM (P:=X.prog) g4;let dd:∀{H' s'},i_ H' s'->s'.heap.DictOf (aZ X.prog X.w) a vs:=λI'=>⟨_,es,ep,I'.bk _ _<|I'.mod.kin _ _ g3,⟨rfl,rfl,rfl⟩,rfl,λx hx=>p3 x<|l_ hx,p1,by rw[p2];show g2⟩;refine wpAny_Call_method au fb aq Xg Xx PySem.F.type_dict_get<|thn (DL (v:=.ref a) hg hm rfl hd jn s σ H (λv H'=>v=.ref a/\H'=H) I ⟨rfl,rfl⟩) λu s1 z9=>?_;let⟨x,H1,I1,rx,ex,eH⟩:=z9;subst ex eH;obtain rfl:u=Vu a:=rx;refine⟨(dd I1).typeIs,λb eb=>?_,?_⟩
 ·cases eb
  show⟨_,I1.bk _ _<|I1.mod.kin _ _ g3,rfl⟩
 rw[hs];refine Xp rfl<|Calls.evalArgs_plain<|Calls.spliced_cons<|thn (he c jn s1 σ H1 _ I1 ⟨φ,δ,h,rh,re,post.bind po⟩) ?_;rintro iv s2 ⟨y,H2,I2,ry,φ2,py,h2,p22,t2,ah,c7,q2⟩;refine Calls.spliced_nil ?_;cases py with
 |str z=>
  obtain rfl:y=.str z:=c7;let q2:post C φ2 H2 (.ok (gdV<|sW kvs z) h2) Q:=q2;let Uv:RelV (kV (Wd z:Key)) iv:=ry;refine call_meetsIn Xx (dd I2).typeIs PySem.F.entry_dict_get (PySem.F.args_dict_get_2 _ _) (meets_dict_get (aZ X.prog X.w) a (nW Uv) g1) ⟨_,(dd I2).mapOf,?_⟩;let hz:=p4 z;cases e1:sW kvs z with
  |none=>rw[e1]at hz q2;rw[hz];show⟨.non,H2,I2.tok _,rfl,q2.val ah rfl⟩
  |some v=>rw[e1]at hz q2;let⟨t,hz⟩:=hz;rw[hz];show⟨.str v,H2,I2.tok _,⟨t,rfl⟩,q2.val ah rfl⟩
 |_=>exact q2.elim
abbrev FT:PV->PV->PH->Rs PV:=λx y h=>ofB (eqF 9 x y h) h
set_option tactic.hygienic true in
def I0{x y:PV}(e:eqF 9 x y h=a_ b):iH x y h=a_ b\/iH x y h=b_:=by
 unfold eqF at e;split at e
 ·rename_i b' e2;cases e
  show .inl e2
 ·show .inr (by assumption)
def Nw{k:Nat}:Y3 (VG .Eq) FT:=λc=>by
 intro jn s σ H x y v u Q I rx ry hq;let⟨φ,h,p,q,rh,rp,rq,po⟩:=hq;let⟨b,e,po⟩:=po.ofB;let hu:=c.hu64;rcases I0 e with e2|e2
 ·refine Mz c jn s σ H x y v u Q I rx ry ⟨φ,h,p,q,rh,rp,rq,?_⟩;unfold vEq;rw[e2];show po
 ·show(Dk I c.K rh 8 (HV I c.K rh 8) X.A p q x y v u b ⋯ e2 e rp rq rx ry).1 X.prog X.w X.xe _ ⟨.bl _,H,I,rfl,P_ rfl⟩
abbrev Ia(x y:PV)(n:Nat)(h:PH):Rs PV:=match x,h[n]? with
 |.str z,a_ (.dK kvs)=>if kvs.length<Ve then .ok (.ref n) (ZO<|.dK<|bM kvs (.inr z) y) else .bad
 |_,_=>.bad
abbrev oV(mk mv:Me):Me:=λδ h=>(mk δ<|h++[.dK []]).bind λx h2=>(mv δ h2).bind λy h3=>Ia x y h.length h3
variable{mk:Me}
set_option tactic.hygienic true in
def Kt{k:Nat}{ke:z_}{ve:z_}(hk:G_ ke mk)(hv:G_ ve mv):G_ (.Dict [a_ ke] [ve] pos) (oV mk mv):=λc jn s σ H Q I ⟨φ,δ,h,rh,re,p⟩=>by
 refine wpAny_Dict_any rfl rfl (λz=>Zq 0) (by change 1<=15;decide) ?_;let fr:H (e_ s)=b_:=I.fresh;let I1:i_ (R_ (e_ s)<|.dK []) {s with heap:=s.heap.push {cls:=.type "dict",data:=.dict #[]} }:=I.laid (a:=(e_ s)) (o:=.dK []) (t':=s.toks) (λ_ _ q=>Zp q) (U6 _)<|B9 s.heap I.big;let aa:RH C (φ++[(e_ s)]) (R_ (e_ s)<|.dK []) (h++[.dK []]):=rh.new fr ⟨[],aK,.nil⟩;let ou:=re.mono (VA φ [(e_ s)])<|Kp.new (o:=.dK []) fr;let o5:(φ++[(e_ s)])[h.length]?=a_ (e_ s):=by rw[<-rh.len];simp
 let p1:post C (φ++[(e_ s)]) (R_ (e_ s)<|.dK []) (oV mk mv δ h) Q:=post.weak (VA _ _) (Kp.new fr) p;generalize (e_ s)=d at*;generalize φ++[d]=φ0 at*;refine evalPairs_cons<|thn (hk c jn _ σ _ _ I1 ⟨φ0,δ,_,aa,ou,post.bind p1⟩) ?_;rintro ku s1 ⟨x,H1,I1',rku,φ1,px,h1,pf1,t1,ah,rx,q1⟩;refine SB<|thn (hv c jn s1 σ H1 _ I1' ⟨φ1,δ,h1,ah,ou.mono pf1 t1,post.bind q1⟩) ?_;rintro vu s2 ⟨y,H2,I2,jh,φ2,py,h2,pf2,t2,ay,ry,q2⟩;refine SB<|wpAny_standAt<|SL<|evalPairs_nil ?_;unfold Ia at q2;split at q2
 ·rename_i z kvs hz;split at q2
  ·rename_i hl;let aj:φ2[h.length]?=a_ d:=dN pf2<|dN pf1 o5;obtain rfl:x=.str z:=rx;let ym:RelV (kV (Wd z:Key)) ku:=rku;let⟨ks,hH,rk⟩:=ay.at' _ d _ aj hz;let⟨zl,hd,vs,rel,dd⟩:=uK I2.hok hH;let jj:vs.length<=Ve:=by rw[<-rel.length];show zl
   let el:kvs.length=ks.length:=VX rk;unfold storeAll;rw[List.forIn_cons];refine SB<|SB<|wpAny_dictSet_pairs (nW ym) dd (hsz:=jj) λh' gq hs=>SL ?_;let cw:(putK ks (Wd z:Key) y).length<=Ve:=by have:=fN ks (Wd z:Key) y;omega
   let he:∃q,h'.get? d=a_ q:=let ⟨q,_,_,hq,_⟩:=gq;⟨q,hq⟩;refine SL ⟨.ref d,upd H2 d<|.dK<|putK ks (Wd z:Key) y,pQ I2 (by rw[hH];show Wp) hs he<|uL cw hd (rel.put _ jh) gq,rfl,?_⟩;let nt:pT (H2 d):=by rw[hH];show Wp
   show q2 φ2 (.ref d) _ Vb (Kp.upd nt) (ay.write aj nt ⟨_,aK,RKv.mono Vb (Kp.upd nt)<|qC rk (Wd z:Key) ry⟩) ⟨d,rfl,aj⟩
  ·show q2.elim
 ·show q2.elim
@[simp]theorem NZ:oV mk mv δ h=(mk δ<|h++[.dK []]).bind λx h2=>(mv δ h2).bind λy h3=>Ia x y h.length h3:=(rfl)
def Eh{z:Str}{y:PV}{kvs:B_ (Key×PV)}(e:h[n]?=a_ (.dK kvs))(hl:kvs.length<16777216):Ia (.str z) y n h=.ok (.ref n) (ZO<|.dK<|bM kvs (.inr z) y):=by unfold Ia;rw[e];dsimp only;rw[if_pos (by rw[VQ];show hl)]
open PySem.W
abbrev oB:Ms:=λ_ _=>.bad
def Q1{k:Nat}:ZL st oB:=λc _ _ σ H _ I h=>by let⟨φ,δ,h,rh,re,p⟩:=h;show p.elim
def getD_none{α:Type}{o:Array (C_ α)}{x:α}(h:(o.getD j<|a_ x).isNone=true):o[j]?=a_ b_:=by
 by_cases q:j<o.size
 ·let e:o.getD j (a_ x)=o[j]:=by simp[YQ,q]
  rw[e]at h;rw[Vq q,Option.isNone_iff_eq_none.mp h]
 ·let e:o.getD j (a_ x)=a_ x:=by simp[YQ,q]
  rw[e]at h;cases h
end L2
namespace K67
open PySem L2
local macro_rules|`(q_ $x)=>`(mC (.int $x))
noncomputable section
abbrev rS:Ms:=
 (aG (cA (aT (aB vLt (mV 1) (mCB lW (aA (mV 0) aC))))
  (aV<|r_ (mV 0)<|mV 1)
  cG)
 (aV (q_ 0)))
abbrev nI:Fn:=mFn 2 rS
abbrev oW:Ms:=
 (aG (aP 3 (ZY (ZH (ZH (aB Ad (mV 3) (mV 3)) (aB Ad (q_ 48271) (mV 3))) (mV 4)) (q_ 2147483647)))
  (lI (mMt isL (onL cI) (mV 2) (aA (mV 3) aC))))
abbrev wA:Ms:=
 (aG (aP 2 (gW aC))
 (aG (aP 3 (ZH (ZY (mV 0) (q_ 2147483647)) (q_ 48271)))
 (aG (eX (lX (aA (ZH (mV 1) (q_ 1)) aC)) (gN 4) oW)
 (aV (mSl (mV 2) (mP (q_ 1)) jO)))))
abbrev mK:Fn:=mFn 5 wA
abbrev AA:Ms:=
 (aG (aP 2 (mC (.str "abcdefghijklmnopqrstuvwxyz")))
 (aG (aP 3 (bO 2 mK (aA (mV 0) (aA (q_ 10) aC))))
 (aG (aP 4 (mMt Kk vX (mC (.str "")) (aA (bG [b_,a_ 2] (bF (mSl (mV 3) jO (mP (q_ 8)))) (gN 0) eY (r_ (mV 1) (ZY (mV 0) (q_ 26)))) aC)))
 (aG (cA (aT (ZC (ZY (mV 0) (q_ 3)) (q_ 0)))
  (aV<|bG [b_,a_ 4,a_ 3] (lX<|aA (mV 1) aC) (gN 0) eY<|mSl (mV 1) jO<|mP<|ZH (q_ 1)<|ZY (ZH (mV 0)<|r_ (mV 2)<|q_ 8)<|q_ 8)
  cG)
 (aG (aP 4 (mSl (mV 4) jO (mP (ZH (q_ 1) (ZY (r_ (mV 3) (q_ 8)) (q_ 8))))))
 (aG (aP 5 (ZY (r_ (mV 3) (q_ 9)) (mCB lW (aA (mV 4) aC))))
 (aV (bG [b_,a_ 4,a_ 2,a_ 5,a_ 3] (lX (aA (mV 1) aC)) (gN 0) eY (ZH (ZH (mSl (mV 1) jO (mP (mV 3))) (r_ (mV 2) (ZY (ZH (aB CT (r_ (mV 4) (q_ 9)) (q_ 8)) (aB Ad (q_ 5) (mV 0))) (q_ 26)))) (mSl (mV 1) (mP (ZH (mV 3) (q_ 1))) jO))))))))))
abbrev AB:Fn:=mFn 6 AA
abbrev Ib:Ms:=
 (aG (aP 5 (aB nQ (ZY (r_ (mV 0) (q_ 2)) (q_ 3)) (q_ 1)))
 (aG (cA (aT (ZC (ZY (r_ (mV 0) (q_ 3)) (q_ 3)) (q_ 0)))
  (aP 5<|r_ (mV 4)<|ZY (r_ (mV 0)<|q_ 2)<|q_ 2)
  cG)
 (aG (cA (aT (aB vLt (ZY (r_ (mV 0) (q_ 1)) (q_ 8)) (q_ 4)))
  (aV<|aO<|aA (mC<|.str "put")<|aA (aO<|aA (r_ (mV 3)<|q_ 0)<|aA (q_ 2) aC)<|aA (mV 5) aC)
  cG)
 (aG (cA (aT (aB vLt (ZY (r_ (mV 0) (q_ 1)) (q_ 8)) (q_ 6)))
  (aV<|aO<|aA (mC<|.str "take")<|aA (aO<|aA (r_ (mV 3)<|q_ 0)<|aA (q_ 2) aC)<|aA (mV 5) aC)
  cG)
 (aG (cA (aT (ZC (ZY (r_ (mV 0) (q_ 1)) (q_ 8)) (q_ 6)))
  (aG (aP 6 (mCB Bo (aA (q_ 1) (aA (aB nQ (aB nQ (r_ (mV 2) (q_ 1)) (q_ 1)) (ZY (r_ (mV 0) (q_ 2)) (q_ 4))) aC))))
  (aG (cA (aT (ZC (r_ (mV 2) (q_ 0)) (r_ (mV 3) (q_ 0))))
   (aP 6<|mCB Bo<|aA (q_ 3)<|aA (mV 6) aC)
   cG)
  (aV (aO (aA (mC (.str "back")) (aA (mV 6) (aA (ZH (mV 6) (ZY (r_ (mV 0) (q_ 4)) (q_ 4))) aC)))))))
  cG)
 (aV (aO (aA (mC (.str "settle")) aC))))))))
abbrev Ei:Fn:=mFn 7 Ib
abbrev jT:Ms:=(gM (ZY (r_ (mV 6)<|ZH (q_ 5)<|mV 9)<|ZH (mMt bR mH (mV 3)<|aA (r_ (mV 1)<|mV 9)<|aA (q_ 0) aC)<|q_ 1) (mV 8)<|r_ (mV 1)<|mV 9)
abbrev rT:Ms:=
 (aG (aP 6 (bO 2 mK (aA (mV 5) (aA (q_ 9) aC))))
  (aG (aP 7 (r_ (mV 1) (ZY (r_ (mV 6) (q_ 0)) (mCB lW (aA (mV 1) aC)))))
  (aG (aP 8 (oV (r_ (mV 1) (q_ 0)) (ZH (q_ 2) (ZY (r_ (mV 6) (q_ 5)) (aB nQ (r_ (mV 3) (r_ (mV 1) (q_ 0))) (q_ 1))))))
  (aG (eX (vG (aA (q_ 1) (aA (mCB lW (aA (mV 1) aC)) aC))) (gN 9) jT)
  (aG (gM (mMt bR mH (mV 3) (aA (mV 7) (aA (q_ 0) aC))) (mV 8) (mV 7))
  (aG (aP 10 (aO (aA (mV 7) (aA (ZH (r_ (mV 8) (mV 7)) (q_ 1)) aC))))
  (aG (gM (r_ (mV 10) (q_ 1)) (mV 3) (mV 7))
  (aG (cA (aT (ZC (ZY (r_ (mV 6) (q_ 3)) (q_ 3)) (q_ 1)))
   (aP 4<|gW<|aA (r_ (mV 4)<|q_ 1)<|aA (ZH (aB nQ (ZY (mV 5)<|aB nQ (aB Ad (q_ 2)<|aB Bm (q_ 10)<|q_ 40)<|q_ 1)<|aB Bm (q_ 10)<|q_ 40)<|q_ 1) aC)
   cG)
  (aG (aP 11 (mCB oK (aA (bG [b_,a_ 8] (bF (mCB mE (aA (mV 1) aC))) (gN 0) (aT (aB vGt (r_ (mV 1) (mV 0)) (q_ 0))) (aO (aA (mV 0) (aA (r_ (mV 1) (mV 0)) aC)))) aC)))
  (lI (mMt isL (onL cI) (mV 2) (aA (aO (aA (mV 10) (aA (mV 11) (aA (bO 5 Ei (aA (mV 6) (aA (mV 5) (aA (mV 10) (aA (mV 1) (aA (mV 4) aC)))))) aC)))) aC))))))))))))
abbrev AC:Ms:=
 (aG (aP 2 (gW (aA (aO (aA (aO (aA (r_ (mV 1) (q_ 0)) (aA (q_ 1) aC))) (aA (aO aC) (aA (aO (aA (mC (.str "make")) (aA (mC (.str "row")) (aA (aO (aA (mC (.str "")) (aA (q_ 0) aC))) (aA (mC (.str "list")) aC))))) aC)))) aC)))
 (aG (lI (mMt isL (onL cI) (mV 2) (aA (aO (aA (aO (aA (r_ (mV 1) (q_ 0)) (aA (q_ 2) aC))) (aA (aO (aA (aO (aA (r_ (mV 1) (q_ 0)) (aA (q_ 1) aC))) aC)) (aA (aO (aA (mC (.str "make")) (aA (mC (.str "bag")) (aA (aO (aA (r_ (mV 1) (q_ 0)) (aA (q_ 1) aC))) (aA (aO (aA (aO aC) (aA (q_ 1) aC))) aC))))) aC)))) aC)))
 (aG (aP 3 (oV (r_ (mV 1) (q_ 0)) (q_ 2)))
 (aG (aP 4 (gW (aA (aB Bm (q_ 10) (q_ 39)) (aA (aB nQ (q_ 7) (aB Bm (q_ 10) (q_ 40))) aC))))
 (aG (eX (bF (mV 0)) (gN 5) rT)
 (aV (mV 2)))))))
abbrev AD:Fn:=mFn 12 AC
abbrev tY:Ms:=(aV<|ZH (q_ 1)<|mCB Fw<|aA (bG [b_] (bF<|r_ (mV 0)<|q_ 1) (gN 0) eY<|r_ (mV 0)<|q_ 1) aC)
abbrev AE:Fn:=mFn 1 tY
abbrev Dl:Ms:=
 (aG (rF (r_ (mV 0) (q_ 0)) (gTp 2 (gCn (gN 1) (gCn (gN 2) gNl))))
 (aV (aO (aA (bO 1 AE (aA (mV 0) aC)) (aA (mV 1) (aA (mV 2) aC))))))
abbrev Dm:Fn:=mFn 3 Dl
abbrev kM:Ms:=(gM (mV 2) (mV 1)<|r_ (mV 2)<|q_ 0)
abbrev oX:Ms:=
 (aG (aP 1 jC)
 (aG (eX (bF (mV 0)) (gN 2) kM)
 (aV (kJ Dm false (nU bR zE (mV 1))))))
abbrev iL:Fn:=mFn 3 oX
abbrev rU:Ms:=(aV<|r_ (mV 0)<|q_ 0)
abbrev nJ:Fn:=mFn 1 rU
abbrev kN:Ms:=
 (aG (rF (r_ (mV 2) (q_ 2)) (gTp 3 (gCn (gN 3) (gCn (gN 4) (gCn (gN 5) gNl)))))
  (cA (aT (Fo vLe vLe (mV 4) (mV 0) (mV 5)))
   (aV<|r_ (mV 2)<|q_ 0)
   cG))
abbrev oY:Ms:=
 (aG (eX (bF (mV 1)) (gN 2) kN)
 (aV (mC .non)))
abbrev oZ:Fn:=mFn 6 oY
abbrev pA:Ms:=
 (aG (rF (r_ (mV 3) (q_ 0)) (gTp 2 (gCn (gN 4) (gCn (gN 5) gNl))))
  (aG (aP 6 (r_ (r_ (mV 3) (q_ 2)) (q_ 0)))
  (aG (cA (aT (ZC (mV 6) (mC (.str "settle"))))
   (aG (gM (gW aC) (mV 2) (mV 4))
   JN)
   cG)
  (aG (aP 7 (bO 2 oZ (aA (mV 5) (aA (mMt bR mH (mV 2) (aA (mV 4) (aA (gW aC) aC))) aC))))
  (cA (aT (aB lV (mV 7) (mC .non)))
   (gM (mV 7) (mV 1)<|r_ (mV 3)<|q_ 0)
   (cA (aT (ZC (mV 6) (mC (.str "back"))))
    (lI<|mMt isL (onL cI) (mMt bR vU (mV 2)<|aA (mV 4)<|aA (gW aC) aC)<|aA (mV 3) aC)
    cG))))))
abbrev wB:Ms:=
 (aG (aP 1 jC)
 (aG (aP 2 jC)
 (aG (eX (bF (kJ nJ true (mV 0))) (gN 3) pA)
 (aV (mV 1)))))
abbrev wC:Fn:=mFn 8 wB
abbrev pB:Ms:=
 (aG (aP 1 (bO 1 iL (aA (mV 0) aC)))
 (aG (aP 2 (bO 1 wC (aA (mV 1) aC)))
 (aV (bG [b_,a_ 2] (bF (mV 1)) (gN 0) (aT (aB eJ (r_ (mV 0) (q_ 0)) (mV 1))) (mV 0)))))
abbrev iM:Fn:=mFn 3 pB
abbrev Ic:Ms:=(aV<|aB vGe (mMt bR mH (mCB qE<|aA (r_ (mV 0)<|q_ 1) aC)<|aA (r_ (mV 1)<|q_ 0)<|aA (q_ 0) aC)<|r_ (mV 1)<|q_ 1)
abbrev Ej:Fn:=mFn 2 Ic
abbrev rV:Ms:=
 (cA (sO (aT (ZC (r_ (r_ (mV 2) (q_ 2)) (q_ 0)) (mC (.str "take")))) (sO (aT (ZC (r_ (r_ (mV 2) (q_ 2)) (q_ 2)) (r_ (r_ (mV 0) (q_ 2)) (q_ 2)))) (aT (bO 2 Ej (aA (mV 2) (aA (r_ (mV 0) (q_ 0)) aC))))))
   (aV<|mC<|.bl true)
   cG)
abbrev AF:Ms:=
 (aG (eX (bF (mV 1)) (gN 2) rV)
 (aV (mC (.bl false))))
abbrev tZ:Fn:=mFn 3 AF
abbrev kO:Ms:=(aV<|mUn fU<|bG [b_,b_] (bF<|mV 0) (gTp 2<|gCn (gN 0)<|gCn (gN 1) gNl) eY<|mV 1)
abbrev qK:Fn:=mFn 1 kO
abbrev pC:Ms:=(aV<|bO 1 qK<|aA (mUn (aQ "standing")<|mV 0) aC)
abbrev iN:Fn:=mFn 1 pC
abbrev eM:Ms:=
 (aG (cA (aT (ZC (mV 1) (mC (.tup [.str "",.int (0)]))))
  (aV<|mC<|.str "map")
  cG)
 (aV (mIf (aT (aB fR (mV 1) (mUn (aQ "made") (mV 0)))) (r_ (r_ (mUn (aQ "made") (mV 0)) (mV 1)) (q_ 0)) (mC .non))))
abbrev aI:Fn:=mFn 2 eM
abbrev rW:Ms:=(aV<|ZH (mV 0)<|aO<|aA (aO<|aA (q_ 0) aC) aC)
abbrev jU:Fn:=mFn 1 rW
abbrev aR:Str->C_ Fn:=λ(z:Str)=>if z=("Tree" : Str) then a_ aI else(λ_=>b_) z
abbrev jG:Ms:=
 (aG (oT true (nU bR cZ (mUn (aQ "made") (mV 0))) (aP 2 (bG [b_,b_,a_ 1] (mJ true (nU bR cZ (mUn (aQ "made") (mV 0)))) (gTp 2 (gCn (gN 0) (gCn (gN 1) gNl))) (aT (ZC (r_ (mV 1) (q_ 1)) (mV 2))) (aO (aA (r_ (mV 1) (q_ 2)) (aA (mV 0) aC))))))
 (aG (cA (aT (ZC (bH "kind_of" 1 aR (mV 0) (aA (mV 1) aC)) (mC (.str "row"))))
  (aP 2<|bG [b_,b_] (bF<|mV 2) (gTp 2<|gCn (gN 0)<|gCn (gN 1) gNl) eY<|aO<|aA (bO 1 jU<|aA (mV 0) aC)<|aA (mV 1) aC)
  cG)
 (aV (bG [b_,b_] (bF (mCB mF (aA (mV 2) aC))) (gTp 2 (gCn (gN 0) (gCn (gN 1) gNl))) eY (mV 1)))))
abbrev dJ:Fn:=mFn 3 jG
abbrev dU:Str->C_ Fn:=λ(z:Str)=>if z=("Tree" : Str) then a_ dJ else(λ_=>b_) z
abbrev cB:Ms:=
 (aG (aP 3 (nU isL (onL CY) (mV 2)))
  (aG (lI (mMt isL (onL cI) (mV 1) (aA (mV 3) aC)))
  (lI (mMt isL kL (mV 2) (aA (bH "within" 1 dU (mUn (aQ "tree") (mV 0)) (aA (mV 3) aC)) aC)))))
abbrev eO:Ms:=
 (aG (aP 1 (gW aC))
 (aG (aP 2 (gW (aA (mC (.tup [.str "",.int (0)])) aC)))
 (aG (vH 1000000 (aT (mV 2)) cB)
 (aV (mV 1)))))
abbrev cQ:Fn:=mFn 4 eO
abbrev mL:Ms:=(aV<|mIf (aT<|aB fR (mV 1)<|mUn (aQ "made")<|mV 0) (mSl (r_ (mUn (aQ "made")<|mV 0)<|mV 1) (mP<|q_ 1) jO)<|mC .non)
abbrev fV:Fn:=mFn 2 mL
abbrev uA:Str->C_ Fn:=λ(z:Str)=>if z=("Bag" : Str) then a_ iN else(λ_=>b_) z
abbrev qL:Str->C_ Fn:=λ(z:Str)=>if z=("Tree" : Str) then a_ fV else(λ_=>b_) z
abbrev cR:Ms:=
 (aG (aP 3 (bH "kind_of" 1 aR (mUn (aQ "tree") (mV 0)) (aA (mV 1) aC)))
 (aG (cA (aT (aB fR (mV 1) (mUn (aQ "leaves") (mV 0))))
  (aV<|aO<|aA (mV 3)<|aA (bH "told" 0 uA (r_ (mUn (aQ "leaves")<|mV 0)<|mV 1) aC) aC)
  cG)
 (aV (aO (aA (mV 3) (aA (bG [b_,a_ 2,a_ 0] (bF (bH "within" 1 dU (mUn (aQ "tree") (mV 0)) (aA (mV 1) aC))) (gN 0) eY (aO (aA (r_ (bH "held" 1 qL (mUn (aQ "tree") (mV 2)) (aA (mV 0) aC)) (q_ 1)) (aA (mV 0) (aA (r_ (mV 1) (mV 0)) aC))))) aC))))))
abbrev bX:Fn:=mFn 4 cR
abbrev pD:Str->C_ Fn:=λ(z:Str)=>if z=("Folding" : Str) then a_ cQ else(λ_=>b_) z
abbrev pE:Str->C_ Fn:=λ(z:Str)=>if z=("Folding" : Str) then a_ bX else(λ_=>b_) z
abbrev fC:Ms:=(gM (bH "telling" 2 pE (mV 0)<|aA (mV 2)<|aA (mV 1) aC) (mV 1)<|mV 2)
abbrev iO:Ms:=
 (aG (aP 1 jC)
 (aG (eX (HY (aA (bH "hanging" 0 pD (mV 0) aC) aC)) (gN 2) fC)
 (aV (r_ (mV 1) (mC (.tup [.str "",.int (0)]))))))
abbrev cW:Fn:=mFn 3 iO
abbrev gJ:Ms:=
 (aG (iX "made" (mV 0) jC)
 (iX "failed" (mV 0) (gW aC)))
abbrev gK:Fn:=mFn 1 gJ
abbrev pF:Ms:=(iX "standing" (mV 0)<|mCB jP<|aA (mV 1) aC)
abbrev iP:Fn:=mFn 2 pF
abbrev jH:Ms:=(gM (aO<|aA (mV 4)<|aA (mV 5)<|aA (mV 6) aC) (mUn (aQ "made")<|mV 0)<|mV 3)
abbrev mM:Ms:=
 (aG (iX "made" (mV 0) jC)
 (aG (eX (bF (mV 1)) (gTp 4 (gCn (gN 3) (gCn (gN 4) (gCn (gN 5) (gCn (gN 6) gNl))))) jH)
 (iX "failed" (mV 0) (mCB jP (aA (mV 2) aC)))))
abbrev iY:Fn:=mFn 7 mM
abbrev iQ:Ms:=(iX "standing" (mV 0)<|gW aC)
abbrev mN:Fn:=mFn 1 iQ
abbrev nK:Ms:=
 (aG (cA (aT (ZC (mV 0) (mC (.str "count"))))
  oB
  cG)
 (aG (cA (aT (ZC (mV 0) (mC (.str "choice"))))
  oB
  cG)
 (aG (cA (aT (ZC (mV 0) (mC (.str "bag"))))
  (aV<|mI "Bag" 0 mN aC)
  cG)
 (aG (cA (aT (ZC (mV 0) (mC (.str "text"))))
  oB
  cG)
 (aV (mC .non))))))
abbrev jV:Fn:=mFn 1 nK
abbrev cJ:Ms:=
 (aG (aP 3 (bO 1 jV (aA (mV 2) aC)))
 (cA (aT (aB lV (mV 3) (mC .non)))
  (gM (mV 3) (mUn (aQ "leaves")<|mV 0)<|mV 1)
  cG))
abbrev aX:Fn:=mFn 4 cJ
abbrev AG:Str->C_ Fn:=λ(z:Str)=>if z=("Tree" : Str) then a_ iY else(λ_=>b_) z
abbrev dW:Str->C_ Fn:=λ(z:Str)=>if z=("Folding" : Str) then a_ aX else(λ_=>b_) z
abbrev nL:Str->C_ Fn:=λ(z:Str)=>if z=("Bag" : Str) then a_ iP else(λ_=>b_) z
abbrev cX:Ms:=
 (aG (lI (bH "add_leaf" 2 dW (mV 0) (aA (mV 4) (aA (mV 5) aC))))
  (cA (aT (aB fR (mV 4) (mUn (aQ "leaves") (mV 0))))
   (lI<|bH "fill" 1 nL (r_ (mUn (aQ "leaves")<|mV 0)<|mV 4)<|aA (mV 8) aC)
   cG))
abbrev dR:Ms:=
 (aG (rF (mV 1) (gTp 2 (gCn (gN 2) (gCn (gN 3) gNl))))
 (aG (iX "tree" (mV 0) (mI "Tree" 0 gK aC))
 (aG (lI (bH "fill" 2 AG (mUn (aQ "tree") (mV 0)) (aA (bG [b_] (bF (mV 2)) (gN 0) eY (mSl (mV 0) jO (mP (q_ 4)))) (aA (mV 3) aC))))
 (aG (iX "leaves" (mV 0) jC)
 (eX (bF (mV 2)) (gTp 5 (gCn (gN 4) (gCn (gN 5) (gCn (gN 6) (gCn (gN 7) (gCn (gN 8) gNl)))))) cX)))))
abbrev bJ:Fn:=mFn 9 dR
abbrev nM:Str->C_ Fn:=λ(z:Str)=>if z=("Bag" : Str) then a_ iN else(λ(z:Str)=>if z=("Folding" : Str) then a_ cW else(λ_=>b_) z) z
abbrev Dn:Ms:=(aV<|bH "told" 0 nM (mI "Folding" 1 bJ<|aA (mV 0) aC) aC)
abbrev Do:Fn:=mFn 1 Dn
abbrev pG:Ms:=
 (cA (aT (ZC (mV 2) (r_ (mV 1) (q_ 0))))
   (aV<|aB vLe (r_ (mV 1)<|q_ 1)<|mV 3)
   cG)
abbrev wD:Ms:=
 (aG (eX (bF (mV 0)) (gTp 2 (gCn (gN 2) (gCn (gN 3) gNl))) pG)
 (aV (mC (.bl false))))
abbrev jW:Fn:=mFn 4 wD
abbrev kQ:Ms:=
 (aG (rF (mV 1) (gTp 3 (gCn (gN 2) (gCn (gN 3) (gCn (gN 4) gNl)))))
 (cA (aT (ZC (r_ (mV 4) (q_ 0)) (mC (.str "put"))))
  (iX "standing" (mV 0)<|ZH (mUn (aQ "standing")<|mV 0)<|gW<|aA (aO<|aA (mV 2)<|aA (r_ (mV 4)<|q_ 2) aC) aC)
  (cA (aT (ZC (r_ (mV 4) (q_ 0)) (mC (.str "take"))))
   (iX "standing" (mV 0)<|bG [b_,a_ 4,a_ 3] (bF<|mUn (aQ "standing")<|mV 0) (gN 0) (Fp (aT<|aB xQ (r_ (mV 0)<|q_ 1)<|r_ (mV 1)<|q_ 2)<|vE<|aT<|bO 2 jW<|aA (mV 2)<|aA (r_ (mV 0)<|q_ 0) aC)<|mV 0)
   cG)))
abbrev fD:Fn:=mFn 5 kQ
abbrev iA:Ms:=(aV<|ZC (bH "kind_of" 1 aR (mV 0)<|aA (mV 1) aC)<|mIf (aT<|mCB vJ<|aA (mV 2)<|aA (mC<|.ty "str") aC) (mC<|.str "map")<|mC<|.str "row")
abbrev bY:Fn:=mFn 3 iA
abbrev pH:Ms:=
 (aG (rF (mV 0) (gTp 2 (gCn (gN 2) (gCn (gN 3) gNl))))
 (aG (rF (mV 1) (gTp 2 (gCn (gN 4) (gCn (gN 5) gNl))))
 (aV (ZH (mV 2) (aO (aA (aO (aA (mV 3) (aA (mV 4) (aA (mV 5) (aA (q_ 0) aC))))) aC))))))
abbrev wF:Fn:=mFn 6 pH
abbrev kR:Ms:=(aV<|mIf (aT<|mCB vJ<|aA (mV 0)<|aA (mC<|.ty "str") aC) (mV 0)<|bO 2 wF<|aA (mV 0)<|aA (mV 1) aC)
abbrev dS:Fn:=mFn 2 kR
abbrev wG:Str->C_ Fn:=λ(z:Str)=>if z=("Tree" : Str) then a_ bY else(λ_=>b_) z
abbrev fE:Ms:=
 (aG (rF (mV 2) (gTp 4 (gCn (gN 3) (gCn (gN 4) (gCn (gN 5) (gCn (gN 6) gNl))))))
 (aG (cA (vE (aT (bH "takes" 2 wG (mV 0) (aA (mV 5) (aA (mV 6) aC)))))
  oB
  cG)
 (aG (gM (aO (aA (mV 4) (aA (mV 5) (aA (bO 2 dS (aA (mV 6) (aA (mV 1) aC))) aC)))) (mUn (aQ "made") (mV 0)) (mV 1))
 (aV (mC (.str "done"))))))
abbrev fF:Fn:=mFn 7 fE
abbrev kT:Str->C_ Fn:=λ(z:Str)=>if z=("Tree" : Str) then a_ fF else(λ_=>b_) z
abbrev mO:Ms:=
 (aG (rF (mV 1) (gTp 3 (gCn (gN 2) (gCn (gN 3) (gCn (gN 4) gNl)))))
 (aG (cA (aT (ZC (r_ (mV 4) (q_ 0)) (mC (.str "make"))))
  (aV<|bH "hear_make" 2 kT (mV 0)<|aA (mV 2)<|aA (mV 4) aC)
  cG)
 (aG oB
 (aG oB
 oB))))
abbrev fW:Fn:=mFn 5 mO
abbrev iB:Str->C_ Fn:=λ(z:Str)=>if z=("Bag" : Str) then a_ fD else(λ(z:Str)=>if z=("Tree" : Str) then a_ fW else(λ_=>b_) z) z
abbrev dC:Ms:=
 (aG (aP 2 (bH "hear" 1 iB (mUn (aQ "tree") (mV 0)) (aA (mV 1) aC)))
 (aG (aP 3 (r_ (mV 1) (q_ 2)))
 (aG (cA (sO (aT (ZC (r_ (mV 3) (q_ 0)) (mC (.str "make")))) (aT (ZC (mV 2) (mC (.str "done")))))
  (lI<|bH "add_leaf" 2 dW (mV 0)<|aA (r_ (mV 1)<|q_ 0)<|aA (r_ (mV 3)<|q_ 1) aC)
  cG)
 (aV (mV 2)))))
abbrev dG:Fn:=mFn 4 dC
abbrev kU:Ms:=(aV<|mUn (vGd [("add","count"),("choose","choice"),("put","bag"),("take","bag"),("write","text"),("cut","text"),("mark","text"),("clear","text")])<|mV 0)
abbrev fG:Fn:=mFn 1 kU
abbrev kW:Str->C_ Fn:=λ(z:Str)=>if z=("Folding" : Str) then a_ dG else(λ_=>b_) z
abbrev eQ:Ms:=
 (aG (aP 2 (r_ (mV 1) (q_ 2)))
 (aG (cA (aT (aB fR (r_ (mV 2) (q_ 0)) (aO (aA (mC (.str "make")) (aA (mC (.str "move")) (aA (mC (.str "drop")) aC))))))
  (aV<|bH "hear_tree" 1 kW (mV 0)<|aA (mV 1) aC)
  cG)
 (aG (cA (aT (aB eJ (r_ (mV 2) (q_ 0)) (aO (aA (mC (.str "back")) (aA (mC (.str "settle")) aC)))))
  (aG (cA (aT (aB xQ (bH "kind_of" 1 aR (mUn (aQ "tree") (mV 0)) (aA (r_ (mV 2) (q_ 1)) aC)) (bO 1 fG (aA (r_ (mV 2) (q_ 0)) aC))))
   oB
   cG)
  (lI (bH "hear" 1 iB (r_ (mUn (aQ "leaves") (mV 0)) (r_ (mV 2) (q_ 1))) (aA (mV 1) aC))))
  cG)
 (aV (mC (.str "done"))))))
abbrev cE:Fn:=mFn 3 eQ
abbrev jI:Ms:=(aV<|mCB jP<|aA (mUn (aQ "standing")<|mV 0) aC)
abbrev fK:Fn:=mFn 1 jI
abbrev kX:Str->C_ Fn:=λ(z:Str)=>if z=("Bag" : Str) then a_ fK else(λ_=>b_) z
abbrev cY:Ms:=(aV<|mIf (aT<|aB fR (mV 1)<|mUn (aQ "leaves")<|mV 0) (bH "content" 0 kX (r_ (mUn (aQ "leaves")<|mV 0)<|mV 1) aC)<|mC .non)
abbrev bZ:Fn:=mFn 2 cY
abbrev mQ:Ms:=(aV<|r_ (mV 0)<|q_ 0)
abbrev sX:Fn:=mFn 1 mQ
abbrev mR:Ms:=(aV<|kJ sX false<|rR true (nU bR cZ<|mUn (aQ "made")<|mV 0)<|bG [b_,b_] (mJ true<|nU bR cZ<|mUn (aQ "made")<|mV 0) (gTp 2<|gCn (gN 0)<|gCn (gN 1) gNl) eY<|ZH (aO<|aA (mV 0) aC)<|mV 1)
abbrev iZ:Fn:=mFn 1 mR
abbrev mS:Ms:=(aV<|mCB jP<|aA (mUn (aQ "failed")<|mV 0) aC)
abbrev fX:Fn:=mFn 1 mS
abbrev AH:Str->C_ Fn:=λ(z:Str)=>if z=("Tree" : Str) then a_ fX else(λ_=>b_) z
abbrev uB:Str->C_ Fn:=λ(z:Str)=>if z=("Tree" : Str) then a_ iZ else(λ_=>b_) z
abbrev fM:Str->C_ Fn:=λ(z:Str)=>if z=("Folding" : Str) then a_ bZ else(λ_=>b_) z
abbrev iR:Ms:=(aV<|aO<|aA (bG [b_,a_ 0] (bF<|bH "rows" 0 uB (mUn (aQ "tree")<|mV 0) aC) (gN 0) eY<|ZH (mV 0)<|aO<|aA (bH "content_of" 1 fM (mV 1)<|aA (r_ (mV 0)<|q_ 0) aC) aC)<|aA (bH "lost" 0 AH (mUn (aQ "tree")<|mV 0) aC) aC)
abbrev eR:Fn:=mFn 1 iR
abbrev kY:Str->C_ Fn:=λ(z:Str)=>if z=("Bag" : Str) then a_ fD else(λ(z:Str)=>if z=("Tree" : Str) then a_ fW else(λ(z:Str)=>if z=("Folding" : Str) then a_ cE else(λ_=>b_) z) z) z
abbrev AI:Str->C_ Fn:=λ(z:Str)=>if z=("Folding" : Str) then a_ eR else(λ_=>b_) z
abbrev wH:Ms:=(lI<|bH "hear" 1 kY (mV 2)<|aA (mV 3) aC)
abbrev Dp:Ms:=
 (aG (aP 2 (mI "Folding" 1 bJ (aA (mV 0) aC)))
 (aG (eX (bF (bO 1 iL (aA (mV 1) aC))) (gN 3) wH)
 (aV (bH "base" 0 AI (mV 2) aC))))
abbrev Dq:Fn:=mFn 4 Dp
abbrev AJ:Ms:=(aV<|aO<|aA (gW aC)<|aA (gW aC) aC)
abbrev uC:Fn:=mFn 0 AJ
abbrev rX:Ms:=(aV<|bO 1 Do<|aA (bO 2 Dq<|aA (Az uC)<|aA (bO 1 iM<|aA (mV 0) aC) aC) aC)
abbrev nN:Fn:=mFn 1 rX
abbrev qM:Ms:=
 (cA (sO (aT (ZC (r_ (r_ (r_ (mV 4) (mV 6)) (q_ 2)) (q_ 0)) (mC (.str "put")))) (vE (aT (bO 2 tZ (aA (r_ (mV 4) (mV 6)) (aA (mSl (mV 4) (mP (ZH (mV 6) (q_ 1))) jO) aC))))))
   (lI<|mMt isL (onL cI) (mV 5)<|aA (r_ (r_ (r_ (mV 4)<|mV 6)<|q_ 2)<|q_ 2) aC)
   cG)
abbrev Ie:Ms:=
 (aG (aP 1 (bO 2 nI (aA (mV 0) (aA (q_ 0) aC))))
 (aG (aP 2 (bO 2 AB (aA (mV 1) (aA (ZH (q_ 2) (ZY (aB CT (mV 1) (q_ 24)) (q_ 3))) aC))))
 (aG (aP 3 (bO 2 AD (aA (mSl (mV 0) (mP (q_ 1)) (mP (q_ 37))) (aA (mV 2) aC))))
 (aG (aP 4 (bO 1 iM (aA (mV 3) aC)))
 (aG (aP 5 (gW aC))
 (aG (eX (lX (aA (mCB lW (aA (mV 4) aC)) aC)) (gN 6) qM)
 (aG (aP 7 (mCB jP (aA (mV 3) aC)))
 (aG (cA (aT (ZC (ZY (aB CT (mV 1) (q_ 72)) (q_ 2)) (q_ 1)))
  (aP 7<|ZH (mUn sU<|mV 3)<|mSl (mV 3) jO<|mP<|q_ 4)
  cG)
 (aG (aP 8 (mCB jP (aA (mV 7) aC)))
 (aG (aP 9 (bO 1 nN (aA (mV 7) aC)))
 (aG (aP 10 (aO (aA (aO (aA (q_ 1) (aA (r_ (mV 2) (q_ 0)) (aA (q_ 2) (aA (q_ 0) aC))))) aC)))
 (aG (aP 11 (aO (aA (mV 10) (aA (aO (aA (r_ (mV 2) (q_ 0)) (aA (q_ 2) aC))) (aA (aO (aA (mC (.str "bag")) (aA (mUn fU (mV 5)) aC))) aC)))))
 (aV (yY (aB FT (mV 9) (aO (aA (mC (.str "map")) (aA (gW (aA (aO (aA (mC (.str "list")) (aA (aO (aA (r_ (mV 2) (q_ 0)) (aA (q_ 1) aC))) (aA (aO (aA (mC (.str "row")) (aA (gW (aA (mV 11) aC)) aC))) aC)))) aC)) aC)))) (aB FP (mV 7) (mV 8))))))))))))))))
abbrev Ig:Fn:=mFn 12 Ie
end
@[reducible]def Seen:=B_<|Str×Int
abbrev look:Seen->Str->Z7 0
 |[],_=>b_
 |p::r,h=>if p.1=h then a_ p.2 else look r h
def rY(p:Str×Int)(r:Seen)(h:Str):look (p::r) h=if p.1=h then a_ p.2 else look r h:=(rfl)
abbrev dput(kvs:Seen)(h:Str)(n:Int):Seen:=if(look kvs h).isSome then kvs.map (λp=>if p.1=h then(p.1,n) else p) else kvs++[(h,n)]
abbrev emb(kvs:Seen):B_ (Key×PV):=kvs.map λp=>(.inr p.1,.int p.2)
abbrev row(p:Str×Int):Zt 0:=[.inr p.1,.inl p.2]
abbrev sv(S:Seen):PV:=.tup<|S.map λp=>.tup [.str p.1,.int p.2]
def fY(h:Str):∀kvs:Seen,aF (emb kvs) (.inr h)=(look kvs h).map PV.int
 |[]=>rfl
 |p::r=>by
  change aF ((Wd p.1,PV.int p.2)::emb r) (.inr h)=_
  unfold aF look;by_cases e:p.1=h
  ·rw[Z_ 0,if_pos<|by rw[e]];rfl
  ·rw[Zs 0,if_neg<|l_ e];show fY h r
def qN(kvs:Seen)(h:Str)(n:Int):bM (emb kvs) (.inr h) (.int n)=emb (dput kvs h n):=by
 unfold bM dput;rw[fY];cases look kvs h with
 |none=>simp[emb]
 |some m=>
  simp only[YN,YJ,if_true];unfold emb;rw[VJ,VJ];apply WC;intro p _;by_cases e:p.1=h
  ·simp[e]
  ·simp[e]
variable{S:Seen}
def AK{h:Str}{n:Int}:(dput S h n).length<=S.length+1:=by unfold dput;split <;> simp
@[reducible]def BX:Str:="abcdefghijklmnopqrstuvwxyz"
def Ih:BX.cps.toList.length=26:=by decide +kernel
def zN:BX.length=26:=by decide +kernel
def Ii:∀i:Fin 26,BX.cps.toList[i.val]?=a_ (97+i.val):=by decide +kernel
variable{c:Nat}
def Ij{x:Str}:(x++(⟨#[c]⟩:Str)).length=x.length+1:=by rw[Str.length_append];rfl
def Ek{i:Int}(h0:0<=i)(h1:i<26):atI BX.cps.toList i=a_ (97+i.toNat):=by rw[JX h0 (by rw[Ih];show h1)];show Ii ⟨i.toNat,⋯⟩
def app_list(x y:Str):(x++y).cps.toList=x.cps.toList++y.cps.toList:=PySem.W.KT.app_list x y
variable{j:Int}{z:Str}
def BY(h0:0<=j)(h1:j<=z.length):(WI z b_<|a_ j).cps.toList=z.cps.toList.take j.toNat:=by
 let ji:j<=z.cps.toList.length:=by simpa[XR] using h1
 let e:WI z b_ (a_ j)=⟨((z.cps.toList.drop 0).take (j-0).toNat).toArray⟩:=StrLaws.sliceText_to ⟨h0,ji⟩;rw[e];simp
def Dr(h0:0<=j)(h1:j<=z.length):(WI z (a_ j) b_).cps.toList=z.cps.toList.drop j.toNat:=by
 let ji:j<=z.cps.toList.length:=by simpa[XR] using h1
 let e:=StrLaws.sliceText_from (x:=z) ⟨h0,ji⟩;let e':WI z (a_ j) b_=_:=e;rw[e']
 change List.take _ _=_
 rw[Xq];rw[List.length_drop];omega
def len_list(z:Str):z.cps.toList.length=z.length:=by simp[XR]
abbrev pv(p:Str×Int):PV:=.tup [.str p.1,.int p.2]
def Ik(S:Seen):sv S=.tup (S.map pv):=rfl
variable{h hX:PH}{o:MO}
def El(x:O_ hX):O_ (hX.set h.length o):=λn o' e=>by let hn:=(SC.mp e).1;rw[VH ⋯];show x n o' e
abbrev cell(ns:Z9 0)(i:Nat):Int:=ns.getD i 0
set_option tactic.hygienic true in
def Ku(ns:Z9 0)(i:Nat)(h:PH):nI [.fl<|Zw 0,.int i] h=.ok (.int<|cell ns i) h:=by
 let w:(nI [.fl<|Zw 0,.int i] h).W λp h'=>p=.int (cell ns i)/\h'=h:=by
  refine bA ?_;simp[rS,aD];split
  ·rename_i z;let z':i<ns.length:=⋯;let e:atI (Zw 0) (i:Int)=d_ (cell ns i):=kE (by simp[cell,z']);simp[e]
  ·rename_i z;rfl';have:ns.length<=i:=⋯;simp[cell,this]
 let⟨p,h',e,rfl,rfl⟩:=dY w;show e
inductive Kd where
 |settle
 |back (f l:Int)
 |other
deriving DecidableEq
@[reducible]def HD:=Int×Kd
abbrev reach(b:HD)(n:Int):Bool:=match b.2 with
 |.back f l=>decide (f<=n/\n<=l)
 |_=>false
abbrev hit(n:Int)(B:B_ HD):C_ HD:=B.find? λb=>reach b n
abbrev rZ:B_ HD->B_ HD->B_ (HD×HD)
 |[],_=>[]
 |d::L,B=>match d.2,hit d.1 B with
  |.settle,_=>rZ L []
  |_,a_ b=>(d,b)::rZ L B
  |.back _ _,b_=>rZ L (B++[d])
  |.other,b_=>rZ L B
def zO(d:HD)(L B:B_ HD):rZ (d::L) B=match d.2,hit d.1 B with
  |.settle,_=>rZ L []
  |_,a_ b=>(d,b)::rZ L B
  |.back _ _,b_=>rZ L (B++[d])
  |.other,b_=>rZ L B:=rfl
@[reducible]def Kv(F:B_ HD):Prop:=F.Pairwise<|λa b=>b.1<a.1
abbrev tkH(F B:B_ HD)(n:Int):Prop:=∃x∈rZ F B,x.1.1=n
section
variable{α:Type}[DecidableEq α]
abbrev ofH(h:α)(L:B_ (α×HD)):B_ HD:=(L.filter λx=>decide (x.1=h)).map (·.2)
abbrev run:B_ (α×HD)->(α->B_ HD)->B_ (α×HD×HD)
 |[],_=>[]
 |d::L,B=>match d.2.2,hit d.2.1 (B d.1) with
  |.settle,_=>run L λh=>if h=d.1 then[] else B h
  |_,a_ b=>(d.1,d.2,b)::run L B
  |.back _ _,b_=>run L λh=>if h=d.1 then B h++[d.2] else B h
  |.other,b_=>run L B
def wI(d:α×HD)(L:B_ (α×HD))(B:α->B_ HD):run (d::L) B=match d.2.2,hit d.2.1 (B d.1) with
  |.settle,_=>run L λh=>if h=d.1 then[] else B h
  |_,a_ b=>(d.1,d.2,b)::run L B
  |.back _ _,b_=>run L λh=>if h=d.1 then B h++[d.2] else B h
  |.other,b_=>run L B:=rfl
set_option tactic.hygienic true in
def kZ(h:α):∀(L:B_ (α×HD))(B:α->B_ HD),((run L B).filter λx=>decide (x.1=h)).map (·.2)=rZ (ofH h L) (B h)
 |[],_=>rfl
 |d::L,B=>by
  unfold ofH;by_cases e:d.1=h
  ·subst e;rw[WT,if_pos<|decide_eq_true rfl,Vi];rw[wI,zO];split
   ·rw[kZ d.1 L];simp[ofH]
   ·rename_i b e1 e2;rw[WT,if_pos<|decide_eq_true rfl,Vi,kZ d.1 L];rfl
   ·rename_i e1 e2;rw[kZ d.1 L];simp[ofH]
   ·rename_i e1 e2;rw[kZ d.1 L];simp[ofH]
  ·rw[WT,if_neg<|l_ e];let e':h≠d.1:=λz=>e z.symm;rw[wI];split
   ·rw[kZ h L];simp[ofH,e']
   ·rw[WT,if_neg<|l_ e,kZ h L];rfl
   ·rw[kZ h L];simp[ofH,e']
   ·rw[kZ h L];rfl
abbrev Tk(L:B_ (α×HD))(h:α)(n:Int):Prop:=∃x∈run L (λ_=>[]),x.1=h/\x.2.1.1=n
def Nx{L:B_ (α×HD)}{h:α}{n:Int}:Tk L h n↔tkH (ofH h L) [] n:=by
 unfold Tk tkH;rw[<-kZ h L λ_=>[]];constructor
 ·rintro⟨x,hx,rfl,rfl⟩;show⟨x.2,Vp.mpr ⟨x,WK.mpr ⟨hx,by simp⟩,rfl⟩,rfl⟩
 ·rintro⟨y,hy,rfl⟩;let⟨x,hx,rfl⟩:=Vp.mp hy;let⟨h1,h2⟩:=WK.mp hx;show⟨x,h1,l_ h2,rfl⟩
end
structure Dd where
 nm:Str×Int
 seen:Seen
 kd:Kd
 act:B_ PV
abbrev dP(d:Dd):PV:=.tup [pv d.nm,ZR 0,.tup d.act]
abbrev word:Kd->Str
 |.settle=>"settle"
 |.back _ _=>"back"
 |.other=>"other"
abbrev WfA:Kd->Y6 0->Prop
 |.settle,a=>a=[.str "settle"]
 |.back f l,a=>a=[.str "back",.int f,.int l]
 |.other,a=>∃w r,a=.str w::r/\w≠"settle" /\ w≠"back"
structure Wf(d:Dd):Prop where
 len:d.seen.length<=100
 act:WfA d.kd d.act
 pl:d.act.all (PV.pl 37)=true
abbrev hdD(d:Dd):HD:=(d.nm.2,d.kd)
abbrev tri(d:Dd):Str×HD:=(d.nm.1,hdD d)
abbrev tot(S:Seen):Int:=(S.map (·.2)).sum
abbrev kyL(d:Dd):Zt 0:=[.inl<|1+tot d.seen,.inr d.nm.1,.inl d.nm.2]
def dP0{d:Dd}:vIx (dP d) (.int 0) h=.ok (pv d.nm) h:=by unfold dP;simp
def dP1{d:Dd}:vIx (dP d) (.int 1) h=.ok (ZR 0) h:=by unfold dP;simp
def dP2{d:Dd}:vIx (dP d) (.int 2) h=.ok (.tup d.act) h:=by unfold dP;simp
def pv0{p:Str×Int}:vIx (pv p) (.int 0) h=.ok (.str p.1) h:=by unfold pv;simp
def pv1{p:Str×Int}:vIx (pv p) (.int 1) h=.ok (.int p.2) h:=by unfold pv;simp
def iS{p q:Str×Int}(e:pv p=pv q):p=q:=by unfold pv at e;let e':=PV.tup.inj e;simp at e';show Prod.ext e'.1 e'.2
def Ll{p:Str×Int}:(PV.tup [.str p.1,.int p.2]).ky 6=true:=rfl
def Il(d:Dd)(hS:d.seen.length<=100)(h:PH)(Q:PV->PH->Prop)(k:∀h',O_ h'->Q (.int<|1+tot d.seen) h'):(AE [dP d] h).W Q:=by
 refine bA ?_;let hc:=Fx (js:=[b_]) (tg:=gN 0) (tst:=eY) (elt:=r_ (mV 0)<|q_ 1) (m:=r_ (mV 0)<|q_ 1) (δ:=[a_<|dP d]) (h:=h) (h1:=h) (ys:=d.seen) (emb:=pv)
  (λq=>d_ q.2) (by simp[dP1,Ik]) ⋯ (λq hq=>⟨_,rfl,λh3 _=>⟨rfl,by simp[dB,pv1]⟩⟩)
 let es:d.seen.filterMap (λq=>a_<|PV.int q.2)=(d.seen.map (·.2)).map PV.int:=by rw[filterMap_some,VJ];rfl
 rw[es]at hc;let gs:(h++[MO.lst ((d.seen.map (·.2)).map PV.int)])[h.length]?=a_ (.lst ((d.seen.map (·.2)).map PV.int)):=aE;change (tY [a_<|dP d] h).W _;unfold tY;rw[Hk,JS,Lg,Rs.bind_ok,MX,Hl,hc];simp only[Rs.bind_ok,JT,Ho gs,Fu,Ah];show k _<|F_ _
def Kw(d:Dd)(hS:d.seen.length<=100)(h:PH)(Q:PV->PH->Prop)(k:∀h',O_ h'->Q (tP<|kyL d) h'):(Dm [dP d] h).W Q:=by
 refine bA ?_;unfold Dl;rw[aD];simp[dP0];refine⟨[a_<|dP d,a_<|.str d.nm.1,d_ d.nm.2],by simp[pv],?_⟩;rfl';simp;refine Il d hS _ _ λh' hx=>?_
 try simp
 show k h' hx
abbrev ent(d:Dd):PV×PV:=(pv d.nm,dP d)
def BZ(p:Str×Int):∀es:B_ Dd,(aF (es.map ent)<|pv p).isSome=true↔p∈es.map (·.nm)
 |[]=>by simp[aF]
 |d::es=>by
  rw[Vi,Vi,U9]
  change(aF ((pv d.nm,dP d)::es.map ent)<|pv p).isSome=true↔_
  unfold aF;by_cases e:d.nm=p
  ·rw[if_pos<|by rw[e]];simp[e]
  ·rw[if_neg<|λz=>e<|iS z,BZ p es];constructor
   ·show .inr
   ·rintro(z|z)
    ·show(e z.symm).elim
    ·show z
variable{es:B_ Dd}
def Kx{d:Dd}(hu:∀x∈es,x.nm=d.nm->x=d):bM (es.map ent) (pv d.nm) (dP d)=(if d.nm∈es.map (·.nm) then es else es++[d]).map ent:=by
 unfold bM;let hl:=BZ d.nm es;by_cases e:d.nm∈es.map (·.nm)
 ·rw[Z_ 0,if_pos<|hl.mpr e,VJ];apply WC;intro x hx
  change(if(ent x).1=pv d.nm then((ent x).1,dP d) else ent x)=ent x
  by_cases z:(ent x).1=pv d.nm
  ·rw[if_pos z];have:=hu x hx<|iS z;subst this;rfl
  ·rw[if_neg z]
 ·rw[Zs 0,if_neg<|λz=>e<|hl.mp z,VW];rfl
def Ky(xs:B_ Dd):tN (xs.map kyL)=true:=by
 cases xs with
 |nil=>rfl
 |cons a r=>rw[Vi];unfold tN;rw[VE];refine⟨rfl,Vy.mpr λz hz=>?_⟩;let⟨q,_,rfl⟩:=Vp.mp hz;rfl
def C0{β:Type}(f:Dd->β)(hf:∀a b,f a=f b->a.nm=b.nm):∀{xs:B_ Dd},(xs.map (·.nm)).Nodup->(xs.map f).Nodup:=λ{xs} h=>by unfold List.Nodup at*;rw[V2] at*;show h.imp λgj e=>gj<|hf _ _ e
def Im(a b:Dd)(e:kyL a=kyL b):a.nm=b.nm:=by unfold kyL at e;simp at e;show Prod.ext e.2.1 e.2.2
variable{n:Nat}
def mT(x:O_ hX)(hn:h.length<=n):O_ (hX.set n o):=λm o' e=>by have:=(SC.mp e).1;rw[VH ⋯];show x m o' e
@[reducible]def eU(os:B_ Dd):Prop:=os.Pairwise<|λa b=>bK (kyL b) (kyL a)=false
set_option tactic.hygienic true in
def AL(U ds:B_ Dd)(hU:∀d∈ds,d∈U)(hlU:U.length<=63)(hw:∀d∈ds,Wf d)(hl:ds.length<=1000)(hu:∀d∈ds,∀e∈ds,d.nm=e.nm->d=e)(n:Nat)(h:PH)(g:h[n]?=a_ (.lst<|Z2 0))(Q:PV->PH->Prop)
  (k:∀os l h',O_ h'->h.length<=l->h'[l]?=a_ (.lst<|os.map dP)->(os.map (·.nm)).Nodup->(∀d,d∈os↔d∈ds)->eU os->Q (.ref l) h'):(iL [.ref n] h).W Q:=by
 refine bA ?_;unfold oX;rw[aD];simp;let x0:O_ (h++[MO.dK []]):=F_ _;let g0:bB (h++[MO.dK []]) h.length=a_ (([]:B_ Dd).map ent):=Ea aE;generalize h++[MO.dK []]=hA at x0 g0;rfl';rw[aD];refine lY (n:=n) (xs:=Z2 0) (h1:=hA) (λq δ h'=>∃es:B_ Dd,O_ h'/\bB h' h.length=a_ (es.map ent)/\(es.map (·.nm)).Nodup/\(∀d,d∈es↔d∈ds.take q)/\es.length<=q/\∃x2,δ=[c_ n,Zm 0,x2]) (by simp) (x0 _ _ g) ⟨[],x0,g0,by simp,by simp,by simp,_,rfl⟩ ?_ ?_ ?_
 ·rintro q δ h' hq ⟨es,x,_⟩;show x _ _ g
 ·rintro q y δ h' hy ⟨es,x,t,nd,mem,le,x2,rfl⟩;rw[Vk]at hy;let⟨d,hd,rfl⟩:=Vr.mp hy;let f9:q<ds.length:=(SC.mp hd).1;let htk:ds.take (q+1)=ds.take q++[d]:=by rw[WX,hd];rfl
  let cp:d∈ds:=VI hd;let fv:∀e∈es,e∈ds:=λe he=>List.mem_of_mem_take<|(mem e).mp he;refine⟨_,rfl,?_⟩;let hp:rJ (.ref h.length) (pv d.nm) (dP d) h'=a_ (h'.set h.length<|.dD<|bM (es.map ent) (pv d.nm)<|dP d):=Dg t Ll (by rw[U5];omega);rw[Kx λe he z=>hu e (fv e he) d cp z]at hp;let hh:∃o,h'[h.length]?=a_ o:=let ⟨o,g,_⟩:=aY t;⟨o,g⟩;let⟨o,ho⟩:=hh;unfold kM;simp[dP0];refine⟨_,hp,El x,_,nH<|aW ho,?_,?_,?_⟩
  ·split
   ·show nd
   ·rename_i z;rw[VW,Xk];refine⟨nd,by simp,λa ha b hb e=>?_⟩;rw[List.map_singleton,Vc]at hb;subst hb e;show z<|l_ ha
  ·intro e;rw[htk];split
   ·rename_i z;rw[mem e,Vx,Vc];constructor
    ·show .inl
    ·rintro(z'|rfl)
     ·show z'
     ·let⟨e',jt,en⟩:=Vp.mp (show e.nm∈es.map (·.nm) by simpa using z)
      have:=hu e' (fv e' jt) e cp en;subst this;show(mem e').mp jt
   ·rw[Vx,Vx,mem e]
  ·split
   ·omega
   ·simp;omega
 ·rintro δ h' ⟨es,x,t,nd,mem,le,x2,rfl⟩;let hle:es.length<=63:=by
   let h1:(es.map (·.nm)).length<=(U.map (·.nm)).length:=X4 nd λp hp=>by let⟨d,hd,rfl⟩:=Vp.mp hp;show Vp.mpr ⟨d,hU d<|List.mem_of_mem_take<|(mem d).mp hd,rfl⟩
   simp at h1;omega
  let⟨o,ho,y0,_⟩:=aY t;rfl';simp[y0,K' t];let x1:Ext h' (h'++[MO.vw 1 h.length]):=F_ _;let ei:jE (.ref h'.length) (h'++[MO.vw 1 h.length])=a_ (es.map dP):=by rw[BL aE<|cD x1 t,VJ];rfl
  generalize h'++[MO.vw 1 h.length]=h2 at x1 ei;let qj:∀d,d∈es↔d∈ds:=λd=>by rw[mem d,U5,Xs]
  refine Ed (key:=kyL) (emb:=dP) (S:=shape [.inl 0,.inr "",.inl 0]) ei ⋯ (Ky es) (λ_ _=>rfl) (C0 kyL Im nd) (λd hd h Q kk=>Kw d (hw d<|(qj d).mp hd).len h Q kk) λos h3 x3 hp ho=>?_;refine k os h3.length _ ((x.trans x1).trans<|x3.trans<|F_ _) (VS x.len<|VS x1.len x3.len) aE ((hp.map _).nodup_iff.mpr nd) (λd=>(hp.mem_iff).trans<|qj d) ho
def sY(ds:B_ Dd)(hw:∀d∈ds,Wf d)(hl:ds.length<=63)(hu:∀d∈ds,∀e∈ds,d.nm=e.nm->d=e)(n:Nat)(h:PH)(g:h[n]?=a_ (.lst<|Z2 0))(Q:PV->PH->Prop)
  (k:∀os l h',O_ h'->h'[l]?=a_ (.lst<|os.map dP)->(os.map (·.nm)).Nodup->(∀d,d∈os↔d∈ds)->eU os->Q (.ref l) h'):(iL [.ref n] h).W Q:=by
 show AL ds ds (λ_ h=>h) hl hw ⋯ hu n h g Q λos l h' a _ b c d e=>k os l h' a b c d e
abbrev lk{β:Type}:B_ (Str×β)->Str->C_ β
 |[],_=>b_
 |p::r,w=>if p.1=w then a_ p.2 else lk r w
abbrev dpt{β:Type}(R:B_ (Str×β))(w:Str)(m:β):B_ (Str×β):=if(lk R w).isSome then R.map (λp=>if p.1=w then(p.1,m) else p) else R++[(w,m)]
abbrev em{β:Type}(f:β->PV)(R:B_ (Str×β)):B_ (Key×PV):=R.map λp=>(.inr p.1,f p.2)
def Em{β:Type}(f:β->PV)(w:Str):∀R:B_ (Str×β),aF (em f R) (.inr w)=(lk R w).map f
 |[]=>rfl
 |p::r=>by
  change aF ((Wd p.1,f p.2)::em f r) (.inr w)=_
  unfold aF lk;by_cases e:p.1=w
  ·rw[Z_ 0,if_pos<|by rw[e]];rfl
  ·rw[Zs 0,if_neg<|l_ e];show Em f w r
def Lm{β:Type}(f:β->PV)(R:B_ (Str×β))(w:Str)(m:β):bM (em f R) (.inr w) (f m)=em f (dpt R w m):=by
 unfold bM dpt;rw[Em];cases lk R w with
 |none=>simp[em]
 |some z=>
  simp only[YN,YJ,if_true];unfold em;rw[VJ,VJ];apply WC;intro p _;by_cases e:p.1=w
  ·simp[e]
  ·simp[e]
def Ip{β:Type}(w:Str)(m:β)(x:Str):∀R:B_ (Str×β),lk (R.map λp=>if p.1=w then(p.1,m) else p) x=if x=w then(lk R x).map (λ_=>m) else lk R x
 |[]=>by simp[lk]
 |p::r=>by
  rw[Vi];let ih:=Ip w m x r;by_cases e:p.1=w
  ·rw[Z_ 0];unfold lk;dsimp only;by_cases z:p.1=x
   ·rw[if_pos z,if_pos z,if_pos<|z.symm.trans e];rfl
   ·rw[if_neg z,if_neg z,ih]
  ·rw[Zs 0];unfold lk;by_cases z:p.1=x
   ·rw[if_pos z,if_pos z,if_neg<|λq=>e<|z.trans q]
   ·rw[if_neg z,if_neg z,ih]
def Iq{β:Type}(w:Str)(m:β)(x:Str):∀R:B_ (Str×β),lk (R++[(w,m)]) x=match lk R x with|some y=>a_ y|none=>if x=w then a_ m else b_
 |[]=>by
  change(if w=x then a_ m else b_)=if x=w then a_ m else b_
  by_cases e:w=x
  ·rw[Z_ 0,if_pos e.symm]
  ·rw[Zs 0,if_neg λz=>e z.symm]
 |p::r=>by
  rw[Yx];unfold lk;by_cases z:p.1=x
  ·rw[if_pos z,if_pos z]
  ·rw[if_neg z,if_neg z,Iq w m x r]
def Ds{β:Type}(R:B_ (Str×β))(w:Str)(m:β)(x:Str):lk (dpt R w m) x=if x=w then a_ m else lk R x:=by
 unfold dpt;cases e:lk R w with
 |none=>
  rw[if_neg<|by simp,Iq];by_cases z:x=w
  ·subst z;rw[e,YX 0]
  ·rw[if_neg z];cases lk R x <;> simp[z]
 |some y=>
  rw[if_pos<|by simp,Ip];by_cases z:x=w
  ·subst z;rw[YX 0,YX 0,e];rfl
  ·rw[if_neg z,if_neg z]
variable{w:Str}
def Kz{β:Type}{R:B_ (Str×β)}{m:β}:(dpt R w m).length<=R.length+1:=by unfold dpt;split <;> simp
abbrev nmL(d:Dd):Zt 0:=[.inr d.nm.1,.inl d.nm.2]
def KA(xs:B_ Dd):tN (xs.map nmL)=true:=by
 cases xs with
 |nil=>rfl
 |cons a r=>rw[Vi];unfold tN;rw[VE];refine⟨rfl,Vy.mpr λz hz=>?_⟩;let⟨q,_,rfl⟩:=Vp.mp hz;rfl
def Ny(a b:Dd)(e:nmL a=nmL b):a.nm=b.nm:=by unfold nmL at e;simp at e;show Prod.ext e.1 e.2
def KB(d:Dd)(h:PH)(Q:PV->PH->Prop)(k:Q (pv d.nm) h):(nJ [dP d] h).W Q:=by refine bA ?_;simp[rU,dP0];show k
@[reducible]def Dt(n:Int)(bs:B_ Dd):C_ Dd:=bs.find? λb=>reach (hdD b) n
set_option tactic.hygienic true in
def Ir(n:Int)(bs:B_ Dd)(hb:∀b∈bs,Wf b/\∃f l,b.kd=.back f l)(hz:bs.length<=100)(m:Nat)(h:PH)(g:h[m]?=a_ (.lst<|bs.map dP))(Q:PV->PH->Prop)(k:Q (match Dt n bs with|some b=>pv b.nm|none=>.non) h):(oZ [.int n,.ref m] h).W Q:=by
 refine bA ?_;unfold oY;rw[aD];refine lY (n:=m) (xs:=bs.map dP) (h1:=h) (λq δ h'=>h'=h/\(∀b∈bs.take q,reach (hdD b) n=false)/\∃x2 x3 x4 x5,δ=[d_ n,c_ m,x2,x3,x4,x5]) (by simp) g ⟨rfl,by simp,_,_,_,_,rfl⟩ ?_ ?_ ?_
 ·rintro q δ h' hq ⟨rfl,_⟩;show g
 ·rintro q y δ h' hy ⟨rfl,nr,x2,x3,x4,x5,rfl⟩;rw[Vk]at hy;let⟨d,hd,rfl⟩:=Vr.mp hy;let f9:q<bs.length:=(SC.mp hd).1;let⟨wf,f,l,ek⟩:=hb d<|VI hd;let ea:d.act=[.str "back",.int f,.int l]:=by have:=wf.act;rw[ek]at this;show this
  let er:reach (hdD d) n=decide (f<=n/\n<=l):=by
   unfold reach
   change(match d.kd with|.back f l=>decide (f<=n/\n<=l)|_=>false)=_
   rw[ek]
  let split1:bs=bs.take q++d::bs.drop (q+1):=by let e1:bs.drop q=d::bs.drop (q+1):=drop_cons hd;rw[<-e1,List.take_append_drop]
  refine⟨_,rfl,?_⟩;unfold kN;rw[aD];simp[dP2,ea];rfl';simp[dP0];let fin:f<=n->n<=l->Q (pv d.nm) h':=λh1 h2=>by
   have:Dt n bs=a_ d:=by
    unfold Dt;rw[split1,List.find?_append,List.find?_eq_none.mpr (λb hb=>by rw[nr b hb];decide),List.find?_cons_of_pos (by rw[show reach (hdD d) n=decide (f<=n/\n<=l) from er];show decide_eq_true ⟨h1,h2⟩)]
    rfl
   rw[this]at k;show k
  let vq:¬ (f<=n/\n<=l)->∀b∈bs.take (q+1),reach (hdD b) n=false:=λz b hb=>by
   rw[WX,hd,Vx]at hb;rcases hb with hb|hb
   ·show nr b hb
   ·rw[show(a_ d).toList=[d] from rfl,Vc]at hb
    subst hb;rw[er];show decide_eq_false z
  split
  ·rename_i z1;split
   ·rename_i z2;show fin z1 z2
   ·rename_i z2;show vq λz=>z2 z.2
  ·rename_i z1;show vq λz=>z1 z.1
 ·rintro δ h' ⟨rfl,nr,x2,x3,x4,x5,rfl⟩;rw[U5,Xs]at nr;have:Dt n bs=b_:=List.find?_eq_none.mpr λb hb=>by rw[nr b hb];decide
  rw[this]at k;rfl';simp;show k
abbrev tk(x:Str×HD×HD):PV×PV:=(pv (x.1,x.2.1.1),pv (x.1,x.2.2.1))
def AM(p:Str×Int):∀T:B_ (Str×HD×HD),(aF (T.map tk)<|pv p).isSome=true ↔ ∃x∈T,x.1=p.1/\x.2.1.1=p.2
 |[]=>by simp[aF]
 |y::T=>by
  rw[Vi]
  change(aF ((pv (y.1,y.2.1.1),pv (y.1,y.2.2.1))::T.map tk)<|pv p).isSome=true↔_
  unfold aF;by_cases e:(y.1,y.2.1.1)=p
  ·rw[if_pos<|by rw[e]];constructor
   ·intro _;show⟨y,UV,by rw[<-e],by rw[<-e]⟩
   ·intro _;rfl
  ·rw[if_neg<|λz=>e<|iS z,AM p T];constructor
   ·rintro⟨x,hx,q⟩;show⟨x,U8 _ hx,q⟩
   ·rintro⟨x,hx,q1,q2⟩;rcases U9.mp hx with rfl|hx
    ·show(e<|Prod.ext q1 q2).elim
    ·show⟨x,hx,q1,q2⟩
def KC(n:Int)(bs:B_ Dd):hit n (bs.map hdD)=(Dt n bs).map hdD:=by unfold hit Dt;rw[List.find?_map];rfl
def KD{d:Dd}(w:Wf d):∃x r,d.act=.str x::r/\(x="settle" ↔ d.kd=.settle)/\(x="back" ↔ ∃f l,d.kd=.back f l):=by
 let h:=w.act;cases e:d.kd with
 |settle=>rw[e]at h;show⟨"settle",[],h,by simp,by simp;decide⟩
 |back f l=>rw[e]at h;show⟨"back",_,h,by simp;decide,by simp⟩
 |other=>rw[e]at h;let⟨x,r,e1,n1,n2⟩:=h;show⟨x,r,e1,by simp[n1],by simp[n2]⟩
@[reducible]def Iu(L:B_ Dd):Prop:=L.Pairwise<|λa b=>bK (nmL a) (nmL b)=false
structure BOk(sl lb:Nat)(q:Nat)(h':PH)(R:B_ (Str×Nat))(Bd:Str->B_ Dd):Prop where
 at':∀w m,lk R w=some m->h'[m]?=some (.lst ((Bd w).map dP))/\lb<m/\m≠sl
 no:∀w,lk R w=none->Bd w=[]
 inj:∀w w' m,lk R w=some m->lk R w'=some m->w=w'
 back:∀w,∀b∈Bd w,b.nm.1=w/\Wf b/\∃f l,b.kd=.back f l
 len:∀w,(Bd w).length<=q
 lenR:R.length<=q
variable{Bd:Str->B_ Dd}{h' h2:PH}{lb sl:Nat}
def BOk.get{q:Nat}{R:B_ (Str×Nat)}(b:BOk sl lb q h' R Bd)(e:Ext h' h2):BOk sl lb q h2 R Bd:=⟨λw m z=>let ⟨a,c,d⟩:=b.at' w m z;⟨e _ _ a,c,d⟩,b.no,b.inj,b.back,b.len,b.lenR⟩
def BOk.up{q:Nat}{R:B_ (Str×Nat)}(b:BOk sl lb q h' R Bd):BOk sl lb (q+1) h' R Bd:=⟨b.at',b.no,b.inj,b.back,λw=>XY<|b.len w,XY b.lenR⟩
def BOk.aside{q:Nat}{R:B_ (Str×Nat)}(b:BOk sl lb q h' R Bd)(hn:n<=lb):BOk sl lb q (h'.set n o) R Bd:=⟨λw m z=>let ⟨a,c,d⟩:=b.at' w m z;⟨by rw[VH ⋯];show a,c,d⟩,b.no,b.inj,b.back,b.len,b.lenR⟩
def BOk.skip{q:Nat}{R:B_ (Str×Nat)}(b:BOk sl lb q h' R Bd)(hn:∀x,lk R x≠a_ n):BOk sl lb q (h'.set n o) R Bd:=⟨λw m z=>let ⟨a,c,d⟩:=b.at' w m z;⟨by rw[VH (λe:n=m=>hn w<|e▸z)];show a,c,d⟩,b.no,b.inj,b.back,b.len,b.lenR⟩
variable{m:Nat}
def BOk.put{q:Nat}{R:B_ (Str×Nat)}{bs:B_ Dd}(b:BOk sl lb q h' R Bd)(hm:h'[m]?=a_ (.lst<|bs.map dP))(h1:lb<m)(h2:m≠sl)(hf:∀x,lk R x≠a_ m)(hb:∀b∈bs,b.nm.1=w/\Wf b/\∃f l,b.kd=.back f l)(hl:bs.length<=q+1):BOk sl lb (q+1) h' (dpt R w m) (λx=>if x=w then bs else Bd x) where
 at':=λx m' z=>by
  rw[Ds]at z;by_cases e:x=w
  ·rw[Z_ 0]at z⊢;cases z
   show⟨hm,h1,h2⟩
  ·rw[Zs 0]at z⊢;show b.at' x m' z
 no:=λx z=>by
  rw[Ds]at z;by_cases e:x=w
  ·rw[Z_ 0]at z;cases z
  ·rw[Zs 0]at z⊢;show b.no x z
 inj:=λx y m' z1 z2=>by
  rw[Ds]at z1 z2;by_cases e1:x=w <;> by_cases e2:y=w
  ·rw[e1,e2]
  ·rw[if_pos e1]at z1;rw[if_neg e2]at z2;cases z1;show(hf y z2).elim
  ·rw[if_neg e1]at z1;rw[if_pos e2]at z2;cases z2;show(hf x z1).elim
  ·rw[if_neg e1]at z1;rw[if_neg e2]at z2;show b.inj x y m' z1 z2
 back:=λx y hy=>by
  by_cases e:x=w
  ·simp only[Z_ 0]at hy;rw[e];show hb y hy
  ·simp only[Zs 0]at hy;show b.back x y hy
 len:=λx=>by
  by_cases e:x=w
  ·simp only[Z_ 0];show hl
  ·simp only[Zs 0];show XY<|b.len x
 lenR:=VS Kz<|Nat.succ_le_succ b.lenR
def BOk.grow{q:Nat}{R:B_ (Str×Nat)}{d:Dd}(b:BOk sl lb q h' R Bd)(hm:lk R d.nm.1=a_ m)(hw:Wf d)(hk:∃f l,d.kd=.back f l):
  BOk sl lb (q+1) (h'.set m<|.lst<|(Bd d.nm.1++[d]).map dP) R (λx=>if x=d.nm.1 then Bd d.nm.1++[d] else Bd x) where
 at':=λx m' z=>by
  let⟨a,c,e⟩:=b.at' x m' z;by_cases ew:x=d.nm.1
  ·subst ew;rw[hm]at z;cases z;rw[YX 0];show⟨aW a,c,e⟩
  ·rw[if_neg ew,VH (λzz:m=m'=>ew<|b.inj _ _ m' z<|zz▸hm)];show⟨a,c,e⟩
 no:=λx z=>by
  by_cases e:x=d.nm.1
  ·rw[e,hm]at z;cases z
  ·rw[Zs 0];show b.no x z
 inj:=b.inj
 back:=λx y hy=>by
  by_cases e:x=d.nm.1
  ·simp only[Z_ 0]at hy;rcases Vx.mp hy with hy|hy
   ·rw[e];show b.back _ y hy
   ·rw[Vc.mp hy];show⟨e.symm,hw,hk⟩
  ·simp only[Zs 0]at hy;show b.back x y hy
 len:=λx=>by
  by_cases e:x=d.nm.1
  ·simp only[Z_ 0];rw[WL];show Nat.succ_le_succ<|b.len _
  ·simp only[Zs 0];show XY<|b.len x
 lenR:=XY b.lenR
abbrev TI(h:PH)(n sl:Nat)(L:B_ Dd)(q:Nat)(δ:Ev)(h':PH):Prop:=∃T R Bd,O_ h'/\h'[sl]?=a_ (.lst<|L.map dP)/\bB h' h.length=a_ (T.map tk)/\h'[h.length+1]?=a_ (.dK<|em PV.ref R)/\BOk sl (h.length+1) q h' R Bd/\T.length<=q/\(∀x∈T,(x.1,x.2.1.1)∈(L.take q).map (·.nm))/\
   run (L.map tri) (λ_=>[])=T++run ((L.drop q).map tri) (λw=>(Bd w).map hdD)/\∃x3 x4 x5 x6 x7,δ=[c_ n,Zm 0,c_<|h.length+1,x3,x4,x5,x6,x7]
def FU(os:B_ Dd)(hw:∀d∈os,Wf d)(hl:os.length<=63)(nd:(os.map (·.nm)).Nodup)(n:Nat)(h:PH)(g:h[n]?=a_ (.lst<|os.map dP))(Q:PV->PH->Prop)
  (k:∀L l h',O_ h'->L.Perm os->Iu L->bB h' l=a_ ((run (L.map tri) λ_=>[]).map tk)->Q (.ref l) h'):(wC [.ref n] h).W Q:=by
 refine bA ?_;unfold wB;rw[aD];simp;rfl';rw[aD];simp;let x0:O_ (h++[MO.dK [],MO.dK []]):=F_ _;let gt:bB (h++[MO.dK [],MO.dK []]) h.length=a_ (([]:B_ (Str×HD×HD)).map tk):=Ea (by simp);let gb:(h++[MO.dK [],MO.dK []])[h.length+1]?=a_ (.dK<|em PV.ref []):=by simp[em]
 generalize h++[MO.dK [],MO.dK []]=hA at x0 gt gb;rfl';rw[aD];let gA:=x0 _ _ g
 -- the sort comes first
 let Ta:(jF nJ true (.ref n) hA).W λp h2=>∃L h3,p=.ref h3.length/\h2=h3++[.lst<|L.map dP]/\Ext hA h3/\L.Perm os/\Iu L:=Ed (key:=nmL) (emb:=dP) (S:=shape [.inr "",.inl 0]) (vT gA) ⋯ (KA os) (λ_ _=>rfl) (C0 nmL Ny nd) (λd hd h Q kk=>KB d h Q<|kk h<|Ext.refl h) λL h3 x3 hp ho=>⟨L,h3,rfl,rfl,x3,hp,ho⟩;let⟨p,h2,e2,L,h3,rfl,rfl,x3,hp,hf⟩:=dY Ta;let hlA:h.length+1<hA.length:=(SC.mp gb).1;let wq:hA.length<=h3.length:=x3.len;let x1:O_ (h3++[.lst<|L.map dP]):=x0.trans<|x3.trans<|F_ _;let SF:=cD (x3.trans<|Ext.app h3 [.lst<|L.map dP]) gt;let zk:=(x3.trans<|Ext.app h3 [.lst<|L.map dP]) _ _ gb;let gs:(h3++[.lst<|L.map dP])[h3.length]?=a_ (.lst<|L.map dP):=aE;let o6:h.length+1<h3.length:=⋯;generalize h3.length=sl at e2 gs o6;generalize h3++[.lst<|L.map dP]=hB at e2 x1 SF zk gs;let Ul:∀d∈L,Wf d:=λd hd=>hw d<|hp.mem_iff.mp hd;let vt:(L.map (·.nm)).Nodup:=(hp.map _).nodup_iff.mpr nd;let hlL:L.length<=63:=by rw[hp.length_eq];show hl
 refine lY (n:=sl) (xs:=L.map dP) (h1:=hB) (TI h n sl L) ?_ gs ?_ ?_ ?_ ?_
 ·simp[e2]
 ·show⟨[],[],λ_=>[],x1,gs,SF,zk,⟨λw m z=>(by cases z),λ_ _=>rfl,λw w' m z=>(by cases z),λw b hb=>(by cases hb),λ_=>Vw _,Vw _⟩,Vw _,λx hx=>(by cases hx),by simp,_,_,_,_,_,rfl⟩
 ·rintro q δ h' hq ⟨T,R,Bd,x,g1,_⟩;show g1
 ·rintro q y δ h' hy ⟨T,R,Bd,x,g1,g2,g3,b,lT,nT,hr,x3,x4,x5,x6,x7,rfl⟩;rw[Vk]at hy;let⟨d,uu,rfl⟩:=Vr.mp hy;let f9:q<L.length:=(SC.mp uu).1;let vo:L.drop q=d::L.drop (q+1):=drop_cons uu;let htk:L.take (q+1)=L.take q++[d]:=by rw[WX,uu];rfl
  let wf:=Ul d<|VI uu;let⟨wd,r,ea,es,eb⟩:=KD wf;rw[vo,Vi,wI]at hr;let jd:d.nm∉(L.take q).map (·.nm):=λz=>by
   let e1:L.map (·.nm)=(L.take q).map (·.nm)++(d::L.drop (q+1)).map (·.nm):=by rw[<-VW,<-vo,List.take_append_drop]
   rw[e1,Xk]at vt;show vt.2.2 _ z _ (by simp) rfl
  let qr:∀x∈T,(x.1,x.2.1.1)∈(L.take<|q+1).map (·.nm):=λx hx=>by rw[htk,VW];show Wc _<|nT x hx
  refine⟨_,rfl,?_⟩;unfold pA;rw[aD];simp[dP0];refine⟨[c_ n,Zm 0,c_<|h.length+1,a_<|dP d,a_<|.str d.nm.1,d_ d.nm.2,x6,x7],by simp[pv],?_⟩;rfl';rw[aD];simp[dP2,ea];rfl';rw[aD];let qy:h.length+1<h'.length:=(SC.mp g3).1;let Up:sl<h'.length:=(SC.mp g1).1;by_cases c1:wd="settle"
  ·let ek:=es.mp c1;simp[c1,aD];let y1:Ext h' (h'++[MO.lst []]):=F_ _;let y2:(h'++[MO.lst []])[h'.length]?=a_ (.lst<|([]:B_ Dd).map dP):=aE;generalize h'++[MO.lst []]=h2 at y1 y2;let RM:=y1 _ _ g3;let j5:rJ (.ref<|h.length+1) (.str d.nm.1) (.ref h'.length) h2=a_ (h2.set (h.length+1)<|.dK<|em PV.ref<|dpt R d.nm.1 h'.length):=by rw[E9 RM (by unfold em;rw[U5];have:=b.lenR;omega),Lm]
   let b1:=((b.get y1).put (w:=d.nm.1) (bs:=[]) y2 qy ⋯ (λx z=>by have:=(SC.mp (b.at' x _ z).1).1;omega) (λb hb=>by cases hb) (Vw _)).aside (n:=h.length+1) (o:=.dK<|em PV.ref<|dpt R d.nm.1 h'.length)<|U6 _
   let x2:O_ (h2.set (h.length+1)<|.dK<|em PV.ref<|dpt R d.nm.1 h'.length):=mT (x.trans y1) ⋯;let Tt:(h2.set (h.length+1)<|.dK<|em PV.ref<|dpt R d.nm.1 h'.length)[sl]?=a_ (.lst<|L.map dP):=aL (y1 _ _ g1) ⋯;let⟨o,ho,_,hh⟩:=aY<|cD y1 g2;let UM:=hh _<|aL (n:=h.length+1) (m:=h.length) (o':=.dK<|em PV.ref<|dpt R d.nm.1 h'.length) ho ⋯;refine⟨_,j5,now ?_⟩;simp;refine⟨T,_,_,x2,Tt,UM,aW RM,b1,⋯,qr,?_,_,_,_,_,_,rfl⟩;rw[hr,show(tri d).2.2=.settle from ek]
   simp only;congr 2;funext w
   change(if w=d.nm.1 then[] else(Bd w).map hdD)=_
   by_cases e:w=d.nm.1
   ·rw[Z_ 0,Z_ 0];rfl
   ·rw[Zs 0,Zs 0]
  ·let ek:d.kd≠.settle:=λz=>c1<|es.mpr z;simp[c1];rfl';rw[aD]
   -- what the hand has so far
   let y1:Ext h' (h'++[MO.lst []]):=F_ _;let y2:(h'++[MO.lst []])[h'.length]?=a_ (.lst<|([]:B_ Dd).map dP):=aE;let y0:bR (.ref<|h.length+1) h'=true:=mD g3;let dq:=qG (x:=d.nm.1) (z:=.ref h'.length)<|y1 _ _ g3;simp[y0];generalize h'++[MO.lst []]=h2 at y1 y2 dq;rw[Em]at dq;let b1:=b.get y1;let Tv:∃m,(((lk R d.nm.1).map PV.ref).getD<|.ref h'.length)=.ref m/\h2[m]?=a_ (.lst<|(Bd d.nm.1).map dP):=by
    cases e:lk R d.nm.1 with
    |some m=>exact⟨m,rfl,(b1.at' _ _ e).1⟩
    |none=>exact⟨h'.length,rfl,by rw[b.no _ e];show y2⟩
   let⟨m,Ts,Tp⟩:=Tv;rw[Ts]at dq;simp[dq];refine Ir d.nm.2 (Bd d.nm.1) (λz hz=>(b.back _ z hz).2) (by have:=b.len d.nm.1;omega) m h2 Tp _ ?_;let hh:=KC d.nm.2<|Bd d.nm.1;let j7:=y1 _ _ g1;let qx:=cD y1 g2;let u1:=y1 _ _ g3;let yh:=x.trans y1;cases eh:Dt d.nm.2 (Bd d.nm.1) with
   |some z=>
    rw[eh]at hh;simp only[eh];rfl';let S0:z.nm.1=d.nm.1:=(b.back _ z<|List.mem_of_find?_eq_some eh).1;let j5:rJ (.ref h.length) (pv d.nm) (pv z.nm) h2=a_ (h2.set h.length<|.dD<|bM (T.map tk) (pv d.nm)<|pv z.nm):=Dg qx Ll (by rw[U5];omega);let wo:bM (T.map tk) (pv d.nm) (pv z.nm)=(T++[(d.nm.1,hdD d,hdD z)]).map tk:=by
     unfold bM;rw[if_neg (λzz=>by let⟨x,hx,e1,e2⟩:=(AM d.nm T).mp zz;show jd (by have:=nT x hx;rw[e1,e2]at this;show this)),VW]
     congr 1;let e3:pv z.nm=pv (d.nm.1,z.nm.2):=by rw[<-S0]
     show[(pv d.nm,pv z.nm)]=[(pv (d.nm.1,d.nm.2),pv (d.nm.1,z.nm.2))]
     rw[e3]
    rw[wo]at j5;let⟨o,ho,_,_⟩:=aY qx;let nz:rE (pv z.nm)=false:=rfl;simp[nz,dP0];refine⟨_,j5,T++[(d.nm.1,hdD d,hdD z)],R,Bd,mT yh<|U6 _,aL j7 ⋯,nH<|aW ho,aL u1 ⋯,(b1.aside ⋯).up,by simp;omega,?_,?_,_,_,_,_,_,rfl⟩
    ·intro x hx;rcases Vx.mp hx with hx|hx
     ·show qr x hx
     ·rw[Vc.mp hx,htk,VW];show Vf _ (by simp[hdD])
    ·rw[hr];let e1:hit (tri d).2.1 ((Bd (tri d).1).map hdD)=a_ (hdD z):=hh;rw[XS];congr 1
     change(match d.kd,hit d.nm.2 ((Bd d.nm.1).map hdD) with|.settle,_=>_|_,a_ b=>_|.back _ _,b_=>_|.other,b_=>_)=_
     rw[hh];cases mz:d.kd with
     |settle=>exact(ek mz).elim
     |back f l=>rfl
     |other=>rfl
   |none=>
    rw[eh]at hh;simp only[eh];rfl';simp;by_cases c2:wd="back"
    ·let⟨f,l,mz⟩:=eb.mp c2;let yn:bR (.ref<|h.length+1) h2=true:=mD u1;simp[c2,yn];let z1:Ext h2 (h2++[MO.lst []]):=F_ _;let z2:(h2++[MO.lst []])[h2.length]?=a_ (.lst<|([]:B_ Dd).map dP):=aE;let cw:h'.length<=h2.length:=y1.len;generalize h2++[MO.lst []]=h4 at z1 z2;let xg:=z1 _ _ u1;let md:=Kc (x:=d.nm.1) (z:=.ref h2.length) xg (by unfold em;rw[U5];have:=b.lenR;omega);rw[Em]at md;let RT:=yh.trans z1;let n6:run (L.map tri) (λ_=>[])=T++run ((L.drop<|q+1).map tri) (λw=>(if w=d.nm.1 then Bd d.nm.1++[d] else Bd w).map hdD):=by
      rw[hr];congr 1
      change(match d.kd,hit d.nm.2 ((Bd d.nm.1).map hdD) with|.settle,_=>_|_,a_ b=>_|.back _ _,b_=>_|.other,b_=>_)=_
      rw[hh,mz]
      change run _ _=run _ _
      congr 1;funext w
      change(if w=d.nm.1 then(Bd w).map hdD++[hdD d] else(Bd w).map hdD)=_
      by_cases e:w=d.nm.1
      ·rw[Z_ 0,Z_ 0,e,VW];rfl
      ·rw[Zs 0,Zs 0]
     cases e:lk R d.nm.1 with
     |some m'=>rw[e]at md;let b4:=b1.get z1;let⟨q1,q2,q3⟩:=b4.at' _ _ e;simp[md,gZ q1];let sk:=dQ (p:=dP d) q1 (by rw[U5];have:=b.len d.nm.1;omega);let b5:=b4.grow e wf ⟨f,l,mz⟩;rw[show(Bd d.nm.1).map dP++[dP d]=(Bd d.nm.1++[d]).map dP by simp]at sk;rw[sk,Ah];let⟨o,ho,_,xj⟩:=aY<|cD z1 qx;show⟨T,R,_,mT RT ⋯,aL (z1 _ _ j7) ⋯,xj _<|aL ho ⋯,aL xg ⋯,b5,⋯,qr,n6,_,_,_,_,_,rfl⟩
     |none=>
      rw[e]at md;simp at md;rw[Lm]at md;let q1:(h4.set (h.length+1)<|.dK<|em PV.ref<|dpt R d.nm.1 h2.length)[h2.length]?=a_ (.lst<|([]:B_ Dd).map dP):=aL z2 ⋯;simp[md,gZ q1];let sk:=dQ (p:=dP d) q1 (by simp);rw[show(([]:B_ Dd).map dP++[dP d])=[d].map dP from rfl]at sk
      rw[sk,Ah];let nox:∀x,lk R x≠a_ h2.length:=λx z=>by have:=(SC.mp (b1.at' x _ z).1).1;omega
      let b6:=((b1.get z1).aside (n:=h.length+1) (o:=.dK<|em PV.ref<|dpt R d.nm.1 h2.length)<|U6 _).skip (n:=h2.length) (o:=.lst<|[d].map dP) nox;let b7:=b6.put (w:=d.nm.1) (bs:=[d]) (m:=h2.length) (aW q1) ⋯ ⋯ nox (λy hy=>by rw[Vc.mp hy];show⟨rfl,wf,f,l,mz⟩) (by simp);let eB:Bd d.nm.1=[]:=b.no _ e;rw[eB]at n6;let⟨o,ho,_,xj⟩:=aY<|cD z1 qx;refine⟨T,_,_,mT (mT RT ⋯) ⋯,aL (aL (z1 _ _ j7) ⋯) ⋯,xj _<|aL (aL ho ⋯) ⋯,aL (aW xg) ⋯,b7,⋯,qr,n6,_,_,_,_,_,rfl⟩
    ·let mz:d.kd=.other:=by
      cases z:d.kd with
      |settle=>exact(ek z).elim
      |back f l=>exact(c2<|eb.mpr ⟨f,l,z⟩).elim
      |other=>rfl
     simp[c2];refine⟨T,R,Bd,yh,j7,qx,u1,b1.up,⋯,qr,?_,_,_,_,_,_,rfl⟩;rw[hr];congr 1
     change(match d.kd,hit d.nm.2 ((Bd d.nm.1).map hdD) with|.settle,_=>_|_,a_ b=>_|.back _ _,b_=>_|.other,b_=>_)=_
     rw[hh,mz];rfl
 ·rintro δ h' ⟨T,R,Bd,x,g1,g2,g3,b,lT,nT,hr,x3,x4,x5,x6,x7,rfl⟩;rfl';simp;let xm:run (L.map tri) (λ_=>[])=T:=by
   rw[hr,U5,List.drop_length]
   change T++[]=T
   rw[Wy]
  show k L h.length h' x hp hf (by rw[xm];show g2)
def KF{p q:Dd}(h:bK (nmL p) (nmL q)=false)(e:p.nm.1=q.nm.1)(n:p.nm≠q.nm):q.nm.2<p.nm.2:=by
 unfold nmL at h;let n2:p.nm.2≠q.nm.2:=λz=>n<|Prod.ext e z;let h1:bK [.inr p.nm.1,.inl p.nm.2] [.inr q.nm.1,.inl q.nm.2]=decide (p.nm.2<q.nm.2):=by unfold bK;rw[if_pos<|by rw[e]];unfold bK;rw[if_neg<|λz=>n2<|Sum.inl.inj z];rfl
 rw[h1]at h;have:=of_decide_eq_false h;omega
variable{L:B_ Dd}
def En{x:HD}:x∈ofH w (L.map tri) ↔ ∃d∈L,d.nm.1=w/\hdD d=x:=by
 unfold ofH;rw[Vp];constructor
 ·rintro⟨y,hy,rfl⟩;let⟨h1,h2⟩:=WK.mp hy;let⟨d,hd,rfl⟩:=Vp.mp h1;show⟨d,hd,of_decide_eq_true h2,rfl⟩
 ·rintro⟨d,hd,e,rfl⟩;show⟨tri d,WK.mpr ⟨Vp.mpr ⟨d,hd,rfl⟩,decide_eq_true e⟩,rfl⟩
set_option tactic.hygienic true in
def C1{w:Str}:∀{L:B_ Dd},(L.map (·.nm)).Nodup->Iu L->Kv (ofH w<|L.map tri)
 |[],_,_=>.nil
 |d::L,nd,hf=>by
  replace hf:=Vt.mp hf
  rw[Vi,Wl]at nd;let ih:=C1 (w:=w) nd.2 hf.2;unfold ofH;rw[Vi,WT];split
  ·rename_i z;rw[Vi];refine Vt.mpr ⟨λx hx=>?_,ih⟩;let⟨e,he,e1,rfl⟩:=En.mp hx;let e2:d.nm.1=w:=of_decide_eq_true z;show KF (hf.1 e he) (e2.trans e1.symm) λzz=>nd.1<|Vp.mpr ⟨e,he,zz.symm⟩
  ·show ih
variable{G:B_ HD}
def Iv{F:B_ HD}(hF:Kv F)(hG:Kv G)(h:∀x,x∈F↔x∈G):F=G:=by
 let nF:F.Nodup:=hF.imp λh e=>by rw[e]at h;omega
 let nG:G.Nodup:=hG.imp λh e=>by rw[e]at h;omega
 refine X2 (le:=λa b:HD=>b.1<a.1) (λa b _ _ h1 h2=>absurd h1 ⋯) hF hG<|(List.perm_ext_iff_of_nodup nF nG).mpr h
def qO{α:Type}(c:α->Bool)(f:α->PV):∀xs:B_ α,xs.filterMap (λx=>if c x=true then a_ (f x) else b_)=(xs.filter c).map f
 |[]=>rfl
 |x::xs=>by rw[Wj,WT];cases e:c x <;> simp[qO c f xs]
structure sZ(ds out:B_ Dd)(F:Str->B_ HD):Prop where
 nd:(out.map (·.nm)).Nodup
 fall:∀w,Kv (F w)
 mem:∀w x,x∈F w ↔ ∃d∈ds,d.nm.1=w/\hdD d=x
 out:∀d,d∈out↔d∈ds/\¬ tkH (F d.nm.1) [] d.nm.2
def AN(ds:B_ Dd)(hw:∀d∈ds,Wf d)(hl:ds.length<=63)(hu:∀d∈ds,∀e∈ds,d.nm=e.nm->d=e)(n:Nat)(h:PH)(g:h[n]?=a_ (.lst<|Z2 0))(Q:PV->PH->Prop)
  (k:∀out F l h',O_ h'->h.length<=l->h'[l]?=a_ (.lst<|out.map dP)->sZ ds out F->eU out->Q (.ref l) h'):(iM [.ref n] h).W Q:=by
 refine bA ?_;unfold pB;rw[aD];simp;refine sY ds hw hl hu n h g _ λos l h1 x1 g1 nd mem rk=>?_
 try simp
 rfl';rw[aD];simp;let UK:os.length<=ds.length:=by
  let h1:(os.map (·.nm)).length<=(ds.map (·.nm)).length:=X4 nd λp hp=>by let⟨d,hd,rfl⟩:=Vp.mp hp;show Vp.mpr ⟨d,(mem d).mp hd,rfl⟩
  simpa using h1
 refine FU os (λd hd=>hw d<|(mem d).mp hd) ⋯ nd l h1 g1 _ λL t h2 x2 hp hf ht=>?_
 try simp
 rfl';let g2:=x2 _ _ g1;let hc:=eI (js:=[b_,a_ 2]) (tg:=gN 0) (tst:=aT<|aB eJ (r_ (mV 0)<|q_ 0)<|mV 1) (elt:=mV 0) (m:=mV 1) (δ:=[c_ n,c_ l,c_ t]) (h:=h2) (h1:=h2) (n:=l) (ys:=os) (emb:=dP)
  (λd=>if(!(aF ((run (L.map tri) λ_=>[]).map tk) (pv d.nm)).isSome)=true then a_ (dP d) else b_) (by simp) g2 ⋯ (λd hd=>⟨_,rfl,λh3 hx=>by
   let hn:eJ (pv d.nm) (.ref t) h3=.ok (.bl<|!(aF ((run (L.map tri) λ_=>[]).map tk)<|pv d.nm).isSome) h3:=FD (cD hx ht) rfl;cases e:(aF ((run (L.map tri) λ_=>[]).map tk)<|pv d.nm).isSome with
   |true=>rw[e]at hn;simp[dB,dP0,hn]
   |false=>rw[e]at hn;simp[dB,dP0,hn]⟩)
 rw[qO (λd=>!(aF ((run (L.map tri) λ_=>[]).map tk)<|pv d.nm).isSome) dP]at hc;simp[hc];let vt:(L.map (·.nm)).Nodup:=(hp.map _).nodup_iff.mpr nd;refine k _ (λw=>ofH w<|L.map tri) _ _ ((x1.trans x2).trans<|F_ _) (VS x1.len x2.len) aE ⟨?_,λw=>C1 vt hf,λw x=>?_,λd=>?_⟩ ?_
 ·show(Ye.map _).nodup nd
 ·rw[En];constructor
  ·rintro⟨d,hd,q⟩;show⟨d,(mem d).mp<|hp.mem_iff.mp hd,q⟩
  ·rintro⟨d,hd,q⟩;show⟨d,hp.mem_iff.mpr<|(mem d).mpr hd,q⟩
 ·rw[WK,mem d,<-Nx];have:=AM d.nm<|run (L.map tri) λ_=>[];cases e:aF ((run (L.map tri) λ_=>[]).map tk) (pv d.nm) with
  |none=>rw[e]at this;show and_congr Iff.rfl ⟨λ_ z=>(by let q:=this.mpr z;cases q),λ_=>rfl⟩
  |some p=>rw[e]at this;show and_congr Iff.rfl ⟨λz=>(by cases z),λz=>(z<|this.mp rfl).elim⟩
 ·show rk.sublist Ye
def tB(ds:B_ Dd)(hw:∀d∈ds,Wf d)(hl:ds.length<=63)(hu:∀d∈ds,∀e∈ds,d.nm=e.nm->d=e)(n:Nat)(h:PH)(g:h[n]?=a_ (.lst<|Z2 0))(Q:PV->PH->Prop)
  (k:∀out F l h',O_ h'->h'[l]?=a_ (.lst<|out.map dP)->sZ ds out F->eU out->Q (.ref l) h'):(iM [.ref n] h).W Q:=by
 show AN ds hw hl hu n h g Q λout F l h' a _ b c d=>k out F l h' a b c d
def Nz(u v:B_ Nat)(x:Nat):(u++[x]++v)[u.length]?=a_ x:=by simp
def Q2{α:Type}{xs:B_ α}:eE xs (a_ 1) b_=xs.tail:=by
 unfold eE HT.sIx;cases xs with
 |nil=>rfl
 |cons a r=>simp
abbrev XI(c many:Int)(h:PH)(q:Nat)(δ:Ev)(h':PH):Prop:=∃(xs:Z9 0)(n:Int),O_ h'/\h'[h.length]?=a_ (.lst<|Zx 0)/\xs.length=q/\(∀x∈xs,0<=x/\x<2147483647)/\0<=n/\n<2147531918/\∃x4,δ=[d_ c,d_ many,Zm 0,d_ n,x4]
def zP(c:Int)(many:Nat)(hm:many<=100)(h:PH)(Q:PV->PH->Prop)(k:∀(xs:Z9 0) l h',O_ h'->h'[l]?=a_ (.lst<|Zx 0)->xs.length=many->(∀x∈xs,0<=x/\x<2147483647)->Q (.ref l) h'):(mK [.int c,.int many] h).W Q:=by
 refine bA ?_;unfold wA;rw[aD];simp;let x0:O_ (h++[MO.lst []]):=F_ _;let g0:(h++[MO.lst []])[h.length]?=a_ (.lst<|([]:Z9 0).map PV.int):=aE;generalize h++[MO.lst []]=hA at x0 g0;rfl';rw[aD];simp(disch:=omega);let hn:0<=c%2147483647+48271/\c%2147483647+48271<2147531918:=⋯;generalize c%2147483647+48271=n0 at hn;rfl';rw[aD];refine Hn (j:=(many:Int)+1) (XI c many h) ?_ ⋯ ⟨[],n0,x0,g0,rfl,(λx hx=>by cases hx),hn.1,hn.2,_,rfl⟩ ?_ ?_
 ·simp
 ·rintro i δ h' hi ⟨xs,n,x,g,lx,bx,n1,n2,x4,rfl⟩;unfold oW;rw[aD];simp(disch:=omega);let hb:0<=(n*n+48271*n+(i:Int))%2147483647/\(n*n+48271*n+(i:Int))%2147483647<2147483647:=⟨YM _ ⋯,Int.emod_lt_of_pos _ ⋯⟩;generalize (n*n+48271*n+(i:Int))%2147483647=n' at hb;rfl';let ap:=dQ (p:=.int n') g (by rw[U5];omega);rw[show Zx 0++[.int n']=(xs++[n']).map PV.int by simp]at ap;simp[gZ g];rw[ap,Ah];refine⟨xs++[n'],n',El x,aW g,by simp[lx],λz hz=>?_,hb.1,⋯,_,rfl⟩;rcases Vx.mp hz with hz|hz
  ·show bx z hz
  ·rw[Vc.mp hz];show hb
 ·rintro δ h' ⟨xs,n,x,g,lx,bx,n1,n2,x4,rfl⟩;rfl';simp only[Hk,MY,Pn,Fk,Fj,Rs.bind_ok,Pu,Lg,JU,D2,tV g,Q2,Ah];rw[<-List.map_tail];show k xs.tail _ _ (x.trans<|F_ _) aE (by rw[List.length_tail,lx];omega) λz hz=>bx z<|List.mem_of_mem_tail hz
def Iw(zs:Zg 0):(YR "" zs).length=(zs.map XR).sum:=by
 let e0:(Vg "").cps=#[]:=rfl;let key:∀(zs:Zg 0)(acc:Zd 0),((zs.foldl (λacc p=>acc++(Vg "").cps++p.cps) acc).size)=acc.size+(zs.map XR).sum:=by
  intro zs
  induction zs with
  |nil=>intro acc;simp
  |cons z zs ih=>intro acc;rw[List.foldl_cons,ih,Vi,List.sum_cons,e0];simp[XR];omega
 unfold YR
 change((zs.drop 1).foldl (λacc p=>acc++(Vg "").cps++p.cps) (zs.headD Str.empty).cps).size=_
 rw[key];cases zs with
 |nil=>rfl
 |cons z zs=>simp[XR]
def Iy(zs:Zg 0):Kj "" zs=(zs.map XR).sum:=by
 unfold Kj;let key:∀(zs:Zg 0)(n:Nat),zs.foldl (λa p=>a+p.length+("" : Str).length) n=n+(zs.map XR).sum:=by
  intro zs
  induction zs with
  |nil=>intro n;simp
  |cons z zs ih=>intro n;rw[List.foldl_cons,ih,Vi,List.sum_cons];have:("" : Str).length=0:=rfl;omega
 rw[List.foldl_toArray];rw[key];omega
def Eo:∀zs:Zg 0,vW (Z4 0)=a_ zs
 |[]=>rfl
 |z::zs=>by rw[Vi];unfold vW;rw[Eo zs];rfl
variable{zs:Zg 0}
def KG(g:h[n]?=a_ (.lst<|Z4 0))(h1:∀z∈zs,z.length=1)(h2:2<=zs.length)(h3:zs.length<=1000):∃w:Str,vX (.str "") [.ref n] h=.ok (.str w) h/\w.length=zs.length:=by
 let hs:(zs.map XR).sum=zs.length:=by
  clear g h2 h3
  induction zs with
  |nil=>rfl
  |cons z zs ih=>rw[Vi,List.sum_cons,h1 z UV,ih λy hy=>h1 y (U8 _ hy),VN];omega
 let ej:jnd "" zs=YR "" zs:=by
  match zs,h2 with
  |_::_::_,_=>rfl
 let hw:(jnd "" zs).length=zs.length:=by rw[ej,Iw,hs]
 refine⟨jnd "" zs,?_,hw⟩;let el:bV h n=a_ (Z4 0):=by simp[bV,g]
 let hz:(zs.length<=Ve):=by rw[gY];omega
 unfold vX;simp only[el,Eo];rw[if_pos ⟨by rw[Iy,hs];show hz,by rw[hw];show hz⟩]
def Ru{α:Type}{xs:B_ α}:eE xs b_ (a_ 8)=xs.take 8:=by
 unfold eE HT.sIx;simp
 try omega
def nO(h0:0<=j)(h1:j<=z.length):(WI z b_<|a_ j).length=j.toNat:=by rw[<-len_list,BY h0 h1,V7,len_list];show Nat.min_eq_left<|Int.toNat_le.mpr h1
variable{i:Nat}
def pI{xs:Z9 0}(h:i<xs.length):atI (Zx 0) (i:Int)=a_ (.int xs[i]):=kE (by simp[h])
def Iz(c:Int)(m:Nat)(h3:m<=6)(h:PH)(Q:PV->PH->Prop)(k:∀(hs:Zg 0)(l:Nat)(h':PH),h'[l]?=a_ (.lst<|hs.map PV.str)->hs.length=m->hs.Nodup->Q (.ref l) h'):(AB [.int c,.int m] h).W Q:=by
 refine bA ?_;unfold AA;rw[aD];simp;rfl';rw[aD];simp;refine zP c 10 ⋯ h _ λxs lx hA xA gA len bx=>?_
 try simp
 rfl';rw[aD]
 -- the stem
 let o6:=tV (lo:=b_) (hi:=a_ 8) gA;rw[Ru,<-Yc]at o6;let gB:(hA++[MO.lst<|(xs.take 8).map PV.int])[hA.length]?=a_ (.lst<|(xs.take 8).map PV.int):=aE;let xB:Ext hA (hA++[MO.lst<|(xs.take 8).map PV.int]):=F_ _;generalize hA.length=lb at o6 gB;generalize hA++[MO.lst<|(xs.take 8).map PV.int]=hB at o6 gB xB;let hc:=eI (js:=[b_,a_ 2]) (tg:=gN 0) (tst:=eY) (elt:=r_ (mV 1)<|ZY (mV 0)<|q_ 26) (m:=mSl (mV 3) jO<|mP<|q_ 8) (δ:=[d_ c,d_ m,a_<|.str BX,c_ lx,b_,b_]) (h:=hA) (h1:=hB) (n:=lb) (ys:=xs.take 8) (emb:=PV.int)
  (λx=>a_ (.str ⟨#[97+(x%26).toNat]⟩)) (by simp[o6]) gB (by rw[V7];omega) (λx hx=>⟨_,rfl,λh3 _=>⟨rfl,by
   let hl:=Ek (i:=x%26) ⋯ ⋯;let hv:vIx (.str BX) (.int<|x%26) h3=.ok (.str ⟨#[97+(x%26).toNat]⟩) h3:=by rw[JW (by rw[zN];omega),hl];rfl
   simp(disch:=omega) [dB,hv]⟩⟩)
 let e1:(xs.take 8).filterMap (λx=>a_<|PV.str ⟨#[97+(x%26).toNat]⟩)=((xs.take 8).map λx=>(⟨#[97+(x%26).toNat]⟩:Str)).map PV.str:=by rw[filterMap_some,VJ];rfl
 rw[e1]at hc;let RU:∀z∈(xs.take 8).map (λx=>(⟨#[97+(x%26).toNat]⟩:Str)),z.length=1:=λz hz=>by let⟨x,_,rfl⟩:=Vp.mp hz;rfl
 let yc:((xs.take 8).map λx=>(⟨#[97+(x%26).toNat]⟩:Str)).length=8:=by rw[U5,V7];omega
 generalize (xs.take 8).map (λx=>(⟨#[97+(x%26).toNat]⟩:Str))=zs at hc RU yc;let gC:(hB++[MO.lst<|Z4 0])[hB.length]?=a_ (.lst<|Z4 0):=aE;let xC:Ext hB (hB++[MO.lst<|Z4 0]):=F_ _;generalize hB.length=lc at hc gC;generalize hB++[MO.lst<|Z4 0]=hC at hc gC xC;let⟨w,ew,lw⟩:=KG gC RU ⋯ ⋯;let T':Kk (.str ("" : Str)) hA=true:=rfl;simp[T',hc,ew];let gX:hC[lx]?=a_ (.lst<|Zx 0):=xC _ _<|xB _ _ gA;let a8:atI (Zx 0) 8=a_ (.int xs[8]):=pI (i:=8) ⋯;let a9:atI (Zx 0) 9=a_ (.int xs[9]):=pI (i:=9) ⋯;let b8:=bx xs[8]<|V9 _;let b9:=bx xs[9]<|V9 _;generalize xs[8]=x8 at a8 b8;generalize xs[9]=x9 at a9 b9;rfl';rw[aD];simp(disch:=omega);split
 ·let kg:=Bv (js:=[b_,a_ 4,a_ 3]) (tg:=gN 0) (tst:=eY) (elt:=mSl (mV 1) jO<|mP<|ZH (q_ 1)<|ZY (ZH (mV 0)<|r_ (mV 2)<|q_ 8)<|q_ 8) (ms:=aA (mV 1) aC)
   (δ:=[d_ c,d_ m,a_<|.str BX,c_ lx,a_<|.str w,b_]) (h:=hC) (h1:=hC) (j:=m) (λi=>a_<|.str<|WI w b_<|a_<|1+((i:Int)+x8)%8) (by simp) ⋯
   (λi hi=>⟨_,rfl,λh3 hx=>⟨rfl,by simp(disch:=omega) [dB,bW<|hx _ _ gX,a8]⟩⟩)
  simp[kg];have:=k ((Vm m).map λ(i:Nat)=>WI w b_<|a_<|1+((i:Int)+x8)%8) hC.length (hC++[.lst<|((Vm m).map λ(i:Nat)=>WI w b_<|a_<|1+((i:Int)+x8)%8).map PV.str]) aE (by simp) (by unfold List.Nodup;rw[V2];refine(List.pairwise_lt_range (n:=m)).imp_of_mem λ{a b} ha hb wt e=>?_;let hb':=Xh.mp hb;let ha':=Xh.mp ha;let e':=congrArg XR e;rw[nO ⋯ ⋯,nO ⋯ ⋯]at e';omega)
  rw[VJ]at this;show this
 ·rfl';rw[aD];simp(disch:=omega) [bW gX,a8];let l1:=nO (z:=w) (j:=1+x8%8) ⋯ ⋯;generalize WI w b_ (a_<|1+x8%8)=z at l1;rfl';rw[aD];simp(disch:=omega) [bW gX,a9];let y9:0<=x9%(z.length:Int)/\x9%(z.length:Int)<z.length:=⟨YM _ ⋯,Int.emod_lt_of_pos _ ⋯⟩;generalize x9%(z.length:Int)=at' at y9;let q1:=nO (z:=z) y9.1 ⋯;let s2:=Dr (z:=z) (j:=at'+1) ⋯ ⋯;let q2:(WI z (a_<|at'+1) b_).length=z.length-(at'+1).toNat:=by rw[<-len_list,s2,List.length_drop,len_list]
  let qm:=zN;let kg:=Bv (js:=[b_,a_ 4,a_ 2,a_ 5,a_ 3]) (tg:=gN 0) (tst:=eY) (elt:=ZH (ZH (mSl (mV 1) jO<|mP<|mV 3)<|r_ (mV 2)<|ZY (ZH (aB CT (r_ (mV 4)<|mC<|PV.int 9)<|mC<|PV.int 8)<|aB Ad (mC<|PV.int 5)<|mV 0)<|mC<|PV.int 26)<|mSl (mV 1) (mP<|ZH (mV 3)<|mC<|PV.int 1) jO) (ms:=aA (mV 1) aC)
   (δ:=[d_ c,d_ m,a_<|.str BX,c_ lx,a_<|.str z,d_ at']) (h:=hC) (h1:=hC) (j:=m) (λi=>a_<|.str<|WI z b_ (a_ at')++(⟨#[97+((x9/8+5*(i:Int))%26).toNat]⟩:Str)++WI z (a_<|at'+1) b_) (by simp) ⋯
   (λi hi=>⟨_,rfl,λh3 hx=>⟨rfl,by
    let kg:=Ek (i:=(x9/8+5*(i:Int))%26) ⋯ ⋯;let q3:(⟨#[97+((x9/8+5*(i:Int))%26).toNat]⟩:Str).length=1:=rfl;let q4:(WI z b_ (a_ at')++(⟨#[97+((x9/8+5*(i:Int))%26).toNat]⟩:Str)).length=at'.toNat+1:=by rw[Ij,q1]
    simp(disch:=omega) [dB,kg,bW (hx _ _ gX),a9]⟩⟩)
  rfl';simp[kg];have:=k ((Vm m).map λ(i:Nat)=>WI z b_ (a_ at')++(⟨#[97+((x9/8+5*(i:Int))%26).toNat]⟩:Str)++WI z (a_ (at'+1)) b_) hC.length (hC++[.lst (((Vm m).map λ(i:Nat)=>WI z b_ (a_ at')++(⟨#[97+((x9/8+5*(i:Int))%26).toNat]⟩:Str)++WI z (a_ (at'+1)) b_).map PV.str)]) aE (by simp) (by
   unfold List.Nodup;rw[V2];refine(List.pairwise_lt_range (n:=m)).imp_of_mem λ{a b} ha hb wt e=>?_;let hb':=Xh.mp hb;let ha':=Xh.mp ha;let s1:=BY (z:=z) y9.1 ⋯;let e':=congrArg (λx=>x.cps.toList[at'.toNat]?) e;simp only[app_list,s1,s2]at e';let lt:(List.take at'.toNat z.cps.toList).length=at'.toNat:=by rw[V7,len_list];omega
   let f:∀b:Nat,(List.take at'.toNat z.cps.toList++[b]++List.drop (at'+1).toNat z.cps.toList)[at'.toNat]?=a_ b:=λb=>by
    have:=Nz (List.take at'.toNat z.cps.toList) (List.drop (at'+1).toNat z.cps.toList) b
    rwa[lt]at this
   let e2:a_ (97+((x9/8+5*(a:Int))%26).toNat)=a_ (97+((x9/8+5*(b:Int))%26).toNat):=(f _).symm.trans (e'.trans (f _));let e3:=Vv e2;omega)
  rw[VJ]at this;show this
variable{ys:B_ Dd}
def wJ{xs:B_ Dd}(hx:eU xs)(hy:eU ys)(nx:(xs.map (·.nm)).Nodup)(ny:(ys.map (·.nm)).Nodup)(hu:∀d∈xs,∀e∈xs,d.nm=e.nm->d=e)(h:∀d,d∈xs↔d∈ys):xs=ys:=by let n1:xs.Nodup:=(V2.mp nx).imp λh e=>h (by rw[e]);let n2:ys.Nodup:=(V2.mp ny).imp λh e=>h (by rw[e]);refine X2 (le:=λa b:Dd=>bK (kyL b) (kyL a)=false) (λa b ha hb h1 h2=>?_) hx hy<|(List.perm_ext_iff_of_nodup n1 n2).mpr h;show hu a ha b ((h b).mpr hb)<|Im _ _<|pW rfl h2 h1
def nP{ds:B_ Dd}(nd:(ds.map (·.nm)).Nodup):∀d∈ds,∀e∈ds,d.nm=e.nm->d=e:=by
 induction ds with
 |nil=>intro d hd;cases hd
 |cons x r ih=>
  rw[Vi,Wl]at nd;intro d hd e he z;rcases U9.mp hd with rfl|h2
  ·rcases U9.mp he with rfl|h3
   ·rfl
   ·show(nd.1<|Vp.mpr ⟨e,h3,z.symm⟩).elim
  ·rcases U9.mp he with rfl|h3
   ·show(nd.1<|Vp.mpr ⟨d,h2,z⟩).elim
   ·show ih nd.2 d h2 e h3 z
@[reducible]def Nm:=Str×Int
@[reducible]def root:Nm:=("",0)
set_option tactic.hygienic true in
def Ep:∀{F B:B_ HD}{x:HD×HD},x∈rZ F B->(x.2∈B\/x.2∈F)/\reach x.2 x.1.1=true
 |[],_,_,h=>nomatch h
 |d::L,B,x,h=>by
  let up:∀{B':B_ HD},(∀b∈B',b∈B\/b=d)->x∈rZ L B'->(x.2∈B\/x.2∈d::L)/\reach x.2 x.1.1=true:=λhb h=>by
   let⟨a,b⟩:=Ep h;refine⟨?_,b⟩;rcases a with a|a
   ·rcases hb _ a with z|z
    ·show .inl z
    ·show .inr (by rw[z];show UV)
   ·show .inr (U8 _ a)
  rw[zO]at h;split at h
  ·show up (λ_ z=>(Yz z).elim) h
  ·rename_i b e2 _;rcases U9.mp h with rfl|h
   ·let m:=List.mem_of_find?_eq_some e2;show⟨.inl m,by simpa using List.find?_some e2⟩
   ·show up (λ_ z=>.inl z) h
  ·show up (λb z=>by rcases Vx.mp z with z|z;show .inl z;show .inr<|Vc.mp z) h
  ·show up (λ_ z=>.inl z) h
abbrev mk1(w0:Str):Dd:=⟨(w0,1),[],.other,[.str "make",.str "row",pv root,.str "list"]⟩
abbrev mk2(w0:Str):Dd:=⟨(w0,2),[(w0,1)],.other,[.str "make",.str "bag",pv (w0,1),.tup [.tup [],.int 1]]⟩
inductive A6 where
 |put (v:Int)
 |tak (v:Int)
 |oth
abbrev D6(w0:Str)(d:Dd):A6->Prop
 |.put v=>d.act=[.str "put",pv (w0,2),.int v]
 |.tak v=>d.act=[.str "take",pv (w0,2),.int v]
 |.oth=>d.kd≠.other
structure Ok6(w0:Str)(d:Dd):Prop where
 wf:Wf d
 act:∃a,D6 w0 d a
 st:2<=tot d.seen
 nm:1<=d.nm.2
 h0:d.nm.1=w0->3<=d.nm.2
 sn:(d.seen.map (·.1)).Nodup
 bk:d.nm.1=w0->∀f l,d.kd=.back f l->3<=f
structure R6(w0:Str)(rest:B_ Dd):Prop where
 ok:∀d∈rest,Ok6 w0 d
 nd:(rest.map (·.nm)).Nodup
def Ln(w0:Str):Wf (mk1 w0)/\Wf (ZP 0):=by refine⟨⟨by simp[mk1],⟨_,_,rfl,by decide +kernel,by decide +kernel⟩,rfl⟩,⟨by simp[mk2],⟨_,_,rfl,by decide +kernel,by decide +kernel⟩,rfl⟩⟩
variable{w0:Str}
def R6.all_nd{rest:B_ Dd}(r:R6 w0 rest):((mk1 w0::ZP 0::rest).map (·.nm)).Nodup:=by
 rw[Vi,Vi,Wl,Wl];refine⟨λz=>?_,λz=>?_,r.nd⟩
 ·rcases U9.mp z with z|z
  ·have:(1:Int)=2:=(Prod.ext_iff.mp z).2;omega
  ·let⟨d,hd,e⟩:=Vp.mp z;let h1:d.nm.1=w0:=by rw[e];rfl
   let h2:d.nm.2=1:=by rw[e];rfl
   have:=(r.ok d hd).h0 h1;omega
 ·let⟨d,hd,e⟩:=Vp.mp z;let h1:d.nm.1=w0:=by rw[e];rfl
  let h2:d.nm.2=2:=by rw[e];rfl
  have:=(r.ok d hd).h0 h1;omega
def R6.all_wf{rest:B_ Dd}(r:R6 w0 rest):∀d∈mk1 w0::ZP 0::rest,Wf d:=λd hd=>by
 rcases U9.mp hd with rfl|hd
 ·show(Ln w0).1
 ·rcases U9.mp hd with rfl|hd
  ·show(Ln w0).2
  ·show(r.ok d hd).wf
def Du{a b:Dd}(h:1+tot a.seen<1+tot b.seen):bK (kyL b) (kyL a)=false:=by
 let n:¬ tot b.seen=tot a.seen:=⋯;simp[kyL,bK,keyLt,n];omega
variable{F:Str->B_ HD}{out:B_ Dd}
set_option tactic.hygienic true in
def IA{rest ds:B_ Dd}(r:R6 w0 rest)(m:∀d,d∈ds↔d∈mk1 w0::ZP 0::rest)(fo:sZ ds out F)(br:eU out):∃R,out=mk1 w0::ZP 0::R/\(∀d∈R,d∈rest)/\R6 w0 R:=by
 let nt:∀n:Int,n<=2->¬ tkH (F w0) [] n:=λn hn ⟨x,hx,e⟩=>by
  let⟨a,b⟩:=Ep hx;let a:=a.resolve_left<|λz=>Zq 0;let⟨d,hd,h1,h2⟩:=(fo.mem w0 x.2).mp a;rw[<-h2,e]at b;let hr:∃f l,d.kd=.back f l/\f<=n:=by
   unfold reach hdD at b;dsimp only at b;split at b
   ·rename_i f l ek;show⟨f,l,ek,(of_decide_eq_true b).1⟩
   ·cases b
  let⟨f,l,ek,hf⟩:=hr;rcases U9.mp ((m d).mp hd) with rfl|hd
  ·cases ek
  ·rcases U9.mp hd with rfl|hd
   ·cases ek
   ·have:=(r.ok d hd).bk h1 f l ek;omega
 let i1:mk1 w0∈out:=(fo.out _).mpr ⟨(m _).mpr<|by simp,nt 1 ⋯⟩;let i2:ZP 0∈out:=(fo.out _).mpr ⟨(m _).mpr<|by simp,nt 2 ⋯⟩;letI R:=out.filter λd=>decide (d.nm≠(w0,1)/\d.nm≠(w0,2));let hR:∀d,d∈R↔d∈out/\d.nm≠(w0,1)/\d.nm≠(w0,2):=λd=>by
  change d∈List.filter _ _↔_
  rw[WK];simp
 let inr:∀d∈R,d∈rest:=λd hd=>by
  let⟨h1,h2,h3⟩:=(hR d).mp hd;rcases U9.mp ((m d).mp ((fo.out d).mp h1).1) with rfl|h
  ·show(h2 rfl).elim
  ·rcases U9.mp h with rfl|h
   ·show(h3 rfl).elim
   ·show h
 let T1:(R.map (·.nm)).Nodup:=(List.Sublist.map _ Ye).nodup fo.nd;let r2:R6 w0 R:=⟨λd hd=>r.ok d<|inr d hd,T1⟩;refine⟨R,?_,inr,r2⟩;let hu:=nP fo.nd;refine wJ br ?_ fo.nd r2.all_nd (λd hd e he=>hu d hd e he) λd=>?_
 ·refine Vt.mpr ⟨λd hd=>?_,Vt.mpr ⟨λd hd=>?_,List.Pairwise.sublist Ye br⟩⟩
  ·rcases U9.mp hd with rfl|hd
   ·show Du (by simp[mk1,mk2,tot])
   ·show Du (by have:=(r2.ok d hd).st;simp[mk1,tot];unfold tot at this;omega)
  ·show Du (by have:=(r2.ok d hd).st;simp[mk2,tot];unfold tot at this;omega)
 ·rw[U9,U9,hR];constructor
  ·intro h;by_cases e1:d.nm=(w0,1)
   ·show .inl (hu d h _ i1 e1)
   ·by_cases e2:d.nm=(w0,2)
    ·show .inr (.inl<|hu d h _ i2 e2)
    ·show .inr (.inr ⟨h,e1,e2⟩)
  ·rintro(rfl|rfl|h)
   ·show i1
   ·show i2
   ·show h.1
variable{F':Str->B_ HD}{hl:B_ Dd}
def FV{ds og:B_ Dd}(m:∀d,d∈hl↔d∈ds)(nd:(ds.map (·.nm)).Nodup)(fo:sZ ds out F)(mn:sZ hl og F')(br:eU out)(xq:eU og):og=out:=by
 let eF:∀w,F' w=F w:=λw=>Iv (mn.fall w) (fo.fall w) λx=>by rw[mn.mem,fo.mem];show exists_congr λd=>and_congr_left λ_=>m d
 refine wJ xq br mn.nd fo.nd (λd hd e he=>nP mn.nd d hd e he) λd=>?_;rw[mn.out,fo.out,eF,m]
abbrev cvB(S:Seen)(nm:Nm):Bool:=match look S nm.1 with
 |some n=>decide (nm.2<=n)
 |none=>false
abbrev isP:A6->Bool
 |.put _=>true
 |_=>false
abbrev isT:A6->Bool
 |.tak _=>true
 |_=>false
abbrev vC:A6->Int
 |.put v=>v
 |.tak v=>v
 |.oth=>0
abbrev tk7(f:Dd->A6)(c e:Dd):Bool:=isT (f e)&&(decide (vC (f e)=vC (f c))&&cvB e.seen c.nm)
abbrev ok7(f:Dd->A6)(c:Dd)(r:B_ Dd):Bool:=isP (f c) && !(r.any λe=>tk7 f c e)
abbrev sel(f:Dd->A6):B_ Dd->B_ Dd
 |[]=>[]
 |c::r=>if ok7 f c r=true then c::sel f r else sel f r
def mU(f:Dd->A6)(c:Dd)(r:B_ Dd):sel f (c::r)=if ok7 f c r=true then c::sel f r else sel f r:=rfl
def IB(f:Dd->A6)(C:B_ Dd)(d:Dd):sel f (C++[d])=(sel f C).filter (λc=>!tk7 f c d)++(if isP (f d)=true then[d] else[]):=by
 induction C with
 |nil=>
  change(if ok7 f d []=true then[d] else[])=_
  have:ok7 f d []=isP (f d):=by unfold ok7;simp
  rw[this];rfl
 |cons c r ih=>
  rw[Yx,mU,mU,ih];let e:ok7 f c (r++[d])=(ok7 f c r && !tk7 f c d):=by unfold ok7;rw[List.any_append];cases isP (f c) <;> cases(r.any λe=>tk7 f c e) <;> simp
  rw[e];by_cases h:ok7 f c r=true
  ·rw[if_pos h,h,WT];cases hc:tk7 f c d <;> simp
  ·rw[if_neg h,if_neg (by simp only[VE];show λz=>h z.1)]
def Er{β:Type}(f:Dd->A6)(g:Dd->β):∀C:B_ Dd,(Vm C.length).filterMap (λi=>match C[i]? with|some c=>if ok7 f c (C.drop<|i+1)=true then a_ (g c) else b_|none=>b_)=(sel f C).map g
 |[]=>rfl
 |c::r=>by
  rw[VN,Yg,Wj,List.filterMap_map];have:=Er f g r;simp only[YO,Wq,List.drop_succ_cons]at this⊢;rw[this,mU];simp only[List.getElem?_cons_zero,Nat.zero_add,List.drop_succ_cons,List.drop_zero]
  by_cases h:ok7 f c r=true
  ·rw[if_pos h,if_pos h];rfl
  ·rw[if_neg h,if_neg h]
def Q3{R:B_ Dd}(r:R6 w0 R):∃f:Dd->A6,∀d∈R,D6 w0 d (f d):=by
 classical
 refine⟨λd=>if e:∃a,D6 w0 d a then e.choose else .oth,λd hd=>?_⟩;let e:=(r.ok d hd).act;simp only[dif_pos e];show e.choose_spec
abbrev st6(s:B_ (Nm×Int))(d:Dd):A6->B_ (Nm×Int)
 |.put v=>s++[(d.nm,v)]
 |.tak v=>s.filter λr=>!(decide (v=r.2)&&ZM r.1)
 |.oth=>s
abbrev fZ(f:Dd->A6)(R:B_ Dd):B_ (Nm×Int):=R.foldl (λs d=>st6 s d<|f d) []
variable{f:Dd->A6}
def zQ{R:B_ Dd}{d:Dd}:fZ f (R++[d])=st6 (fZ f R) d (f d):=by unfold fZ;rw[List.foldl_append];rfl
def snoc_ind{α:Type}{P:B_ α->Prop}(h0:P [])(hs:∀xs x,P xs->P (xs++[x]))(xs:B_ α):P xs:=by
 have:∀ys:B_ α,P ys.reverse:=λys=>by
  induction ys with
  |nil=>exact h0
  |cons y ys ih=>rw[List.reverse_cons];show hs _ _ ih
 let h:=this xs.reverse;rwa[List.reverse_reverse]at h
def C2(f:Dd->A6)(R:B_ Dd):fZ f R=(sel f R).map λd=>(d.nm,vC<|f d):=by
 refine snoc_ind (P:=λR=>fZ f R=(sel f R).map λd=>(d.nm,vC<|f d)) rfl (λR d ih=>?_) R;rw[zQ,IB,ih,VW];cases e:f d with
 |put v=>
  let h1:∀c,(!tk7 f c d)=true:=λc=>by unfold tk7;rw[e];rfl
  rw[List.filter_eq_self.mpr λc _=>h1 c];simp[st6,vC,e,isP]
 |oth=>
  let h1:∀c,(!tk7 f c d)=true:=λc=>by unfold tk7;rw[e];rfl
  rw[List.filter_eq_self.mpr λc _=>h1 c,if_neg<|by simp[isP]];simp[st6]
 |tak v=>
  rw[if_neg<|by simp[isP]]
  change List.filter (λr:Nm×Int=>!(decide (v=r.2)&&ZM r.1)) _=_
  rw[List.filter_map,List.map_nil,Wy];congr 1;refine List.filter_congr λc _=>?_;unfold tk7;rw[e]
  change _=!(true&&(decide (v=vC (f c))&&ZM c.nm))
  rw[Bool.true_and];rfl
def wK(f:Dd->A6)(R:B_ Dd):(fZ f R).length<=R.length:=by
 rw[C2,U5]
 induction R with
 |nil=>exact U6 _
 |cons c r ih=>
  unfold sel;split
  ·rw[VN,VN];omega
  ·rw[VN];omega
variable{Q:PV->PH->Prop}{cn:Str}{h1:PH}{ms:Ma}{ps:Y6 0}{δ:Ev}
def AO{f:Fn}(e:ms δ h=.ok ps h1)(l:ps.length=n)(w:(f (.ref h1.length::ps)<|h1++[.ins cn []]).W λv h2=>v=.non/\Q (.ref h1.length) h2):(mI cn n f ms δ h).W Q:=by let⟨v,h2,e2,rfl,q⟩:=dY w;rw[eL,e,Rs.bind_ok,if_pos l,e2,Rs.bind_ok];dsimp only;rw[Ah];show q
set_option tactic.hygienic true in
def cF{κ:Type}[DecidableEq κ](kvs:B_ (κ×PV))(k:κ)(p:PV)(k':κ):aF (bM kvs k p) k'=if k'=k then a_ p else aF kvs k':=by
 let m:∀kvs:B_ (κ×PV),aF (kvs.map λkv=>if kv.1=k then(kv.1,p) else kv) k'=if k'=k then(Y2 k).map (λ_=>p) else Y2 k':=λkvs=>by
  induction kvs with
  |nil=>simp[aF]
  |cons x r ih=>
   let⟨a,y⟩:=x;rw[Vi];by_cases e:a=k
   ·subst e;simp only[if_pos,aF];rw[ih];by_cases c:k'=a
    ·subst c;simp
    ·let c2:¬ a=k':=λz=>c z.symm;simp[c,c2]
   ·simp only[Zs 0,aF];rw[ih];by_cases c:k'=k
    ·subst c;simp[e]
    ·simp[c]
 let a:∀kvs:B_ (κ×PV),Y2 k=b_->aF (kvs++[(k,p)]) k'=if k'=k then a_ p else aF kvs k':=λkvs=>by
  induction kvs with
  |nil=>
   intro _;by_cases c:k'=k
   ·simp[aF,c]
   ·let c2:¬ k=k':=λz=>c z.symm;simp[aF,c,c2]
  |cons x r ih=>
   let⟨a,y⟩:=x;intro e;unfold aF at e;split at e
   ·cases e
   ·rename_i c;rw[Yx];unfold aF;rw[ih e];by_cases q:k'=k
    ·subst q;simp[c]
    ·simp[q]
 unfold bM;split
 ·rename_i c;rw[m];let⟨v,e⟩:=Option.isSome_iff_exists.mp c;rw[e];rfl
 ·rename_i c;show a kvs<|l_ c
def Es{κ:Type}[DecidableEq κ](kvs:B_ (κ×PV))(k:κ)(p:PV):(bM kvs k p).length<=kvs.length+1:=by unfold bM;split <;> simp
variable{xs:Y6 0}
def iD(e:h[n]?=a_ (.lst xs)):jP [.ref n] h=.ok (.ref h.length) (h++[.lst xs]):=by
 have:aM h n=a_ xs:=by simp[aM,e]
 unfold jP;simp only[this]
variable{kvs:B_ (PV×PV)}
def tE{p:PV}(e:bB h n=a_ kvs)(hk:(PV.tup xs).ky 6=true)(hl:Y2 (.tup xs)=a_ p):vAt (.ref n) (.tup xs) h=.ok p h:=by
 let k1:(PV.tup xs).isKt=true:=hk;have:lJ (.tup xs) (.ref n) h=a_ (Y2<|.tup xs):=by simp only[lJ,k1,if_true,e,YN]
 unfold vAt;rw[this,hl]
def AQ(e:h[n]?=a_ (.dK [])):bB h n=a_ []:=by unfold bB;rw[e]
abbrev Kp1(l:Nat)(h h':PH):Prop:=∀(i:Nat) o,i≠l->h[i]?=a_ o->h'[i]?=a_ o
variable{hY:PH}{l:Nat}
def Kp1.ext(x:O_ hX)(k:Kp1 l hX hY)(hl:h.length<=l):O_ hY:=λi o e=>k i o (by have:=(SC.mp e).1;omega)<|x i o e
def Kp1.set:Kp1 l h (h.set l o):=λi ob hi e=>aL e<|Wx hi
def Kp1.tr(x:Kp1 l h hX)(k:Kp1 l hX hY):Kp1 l h hY:=λi o hi e=>k i o hi<|x i o hi e
def Kp1.of(x:O_ hX):Kp1 l h hX:=λi o _ e=>x i o e
def IC(g:h[l]?=a_ (.ins "Tree" []))(k:∀x y h',Kp1 l h h'->h'[l]?=a_ (.ins "Tree" [("made",x),("failed",y)])->Q .non h'):(gK [.ref l] h).W Q:=by refine bA ?_;unfold gJ;rw[aD];simp;let g1:=Ext.app h [MO.dK []] _ _ g;refine⟨_,eK g1<|by simp,?_⟩;let k1:Kp1 l h ((h++[MO.dK []]).set l<|MO.ins "Tree"<|hZ "made" (.ref h.length) []):=(Kp1.of<|F_ _).tr Kp1.set;let g2:=aW (o':=MO.ins "Tree"<|hZ "made" (.ref h.length) []) g1;generalize (h++[MO.dK []]).set l (MO.ins "Tree"<|hZ "made" (.ref h.length) [])=hA at k1 g2;rfl';simp;let g3:=Ext.app hA [MO.lst []] _ _ g2;refine⟨_,eK g3<|by simp[hZ],?_⟩;show Z6 _ (k1.tr<|(Kp1.of<|F_ _).tr Kp1.set)<|aW g3
abbrev rwN(r:Nm×Int):PV:=.tup [pv r.1,.int r.2]
inductive Ct where
 |r
 |l (R:B_ (Nm×Int))
abbrev Ct.kd:Ct->Str
 |.r=>"row"
 |.l _=>"bag"
abbrev AR(h:PH)(c:Nat)(R:B_ (Nm×Int)):Prop:=∃s,h[c]?=a_ (.ins "Bag" [("standing",.ref s)])/\h[s]?=a_ (.lst<|R.map rwN)/\R.length<=100
abbrev CtV(h:PH)(v:PV):Ct->Prop
 |.r=>v=.non
 |.l R=>∃s,v=.ref s/\h[s]?=a_ (.lst<|R.map rwN)/\R.length<=100
variable{R:B_ (Nm×Int)}
def AR.keep(f:AR h c R)(ki:∀(i:Nat) cn fs,h[i]?=a_ (.ins cn fs)->h'[i]?=a_ (.ins cn fs))(kl:∀(i:Nat) xs,h[i]?=a_ (.lst xs)->h'[i]?=a_ (.lst xs)):AR h' c R:=by let⟨s,a,b,l⟩:=f;show⟨s,ki _ _ _ a,kl _ _ b,l⟩
variable{v:PV}
def CtV.ext{t:Ct}(f:CtV h v t)(kl:∀(i:Nat) xs,h[i]?=a_ (.lst xs)->h'[i]?=a_ (.lst xs)):CtV h' v t:=by
 cases t with
 |r=>exact f
 |l R=>let⟨s,a,b,l⟩:=f;show⟨s,a,kl _ _ b,l⟩
structure Th where
 nm:Nm
 hd:Nm
 sp:PV
 ct:Ct
abbrev eV(t:Th):PV:=.tup [.str t.ct.kd,pv t.hd,t.sp]
abbrev gH(t:Th):PV×PV:=(Z5 0,eV t)
abbrev dZ(t:Th):PV:=.tup [Z5 0,.str t.ct.kd,pv t.hd,t.sp]
abbrev mW(z:Th×PV):PV:=.tup [pv z.1.nm,.str z.1.ct.kd,pv z.1.hd,z.1.sp,z.2]
def jA(t:bB h n=a_ kvs)(g:h[n]?=a_ (.lst xs)):False:=by simp[bB,g]at t
def iC{fs:B_ (Str×PV)}(t:bB h n=a_ kvs)(g:h[n]?=a_ (.ins cn fs)):False:=by simp[bB,g]at t
def AS(t:bB h n=a_ kvs)(k:∀o,h[n]?=a_ o->h'[n]?=a_ o):bB h' n=a_ kvs:=by let⟨o,ho,_,hh⟩:=aY t;show hh _<|k o ho
structure TA(h:PH)(lt lm lf:Nat)(T:B_ (PV×PV)):Prop where
 ins:h[lt]?=some (.ins "Tree" [("made",.ref lm),("failed",.ref lf)])
 made:bB h lm=some T
 fail:h[lf]?=some (.lst [])
variable{T:B_ (PV×PV)}{lf lm:Nat}
def TA.ext{lt:Nat}(t:q0o T)(x:O_ h'):TA h' lt lm lf T:=⟨x _ _ t.ins,cD x t.made,x _ _ t.fail⟩
def TA.fm{lt:Nat}(t:q0o T):aQ "made" (.ref lt) h=.ok (.ref lm) h:=dO t.ins rfl
def TA.ff{lt:Nat}(t:q0o T):aQ "failed" (.ref lt) h=.ok (.ref lf) h:=dO t.ins rfl
variable{p:Nm}{ts:B_ Th}
def KH(hn:∀t∈ts,t.nm≠p):aF (ts.map gH) (pv p)=b_:=by
 induction ts with
 |nil=>rfl
 |cons t ts ih=>rw[Vi];unfold aF gH;rw[if_neg<|λz=>hn t UV (iS z)];show ih λt ht=>hn t (U8 _ ht)
def C3{t:Th}(hn:∀u∈ts,u.nm≠t.nm):bM (ts.map gH) (Z5 0) (eV t)=(ts++[t]).map gH:=by unfold bM;rw[KH hn];simp[gH]
def Et(nd:(ts.map (·.nm)).Nodup){q:Nat}{t:Th}(e:ts[q]?=a_ t):ts.take (q+1)=ts.take q++[t]/\∀u∈ts.take q,u.nm≠t.nm:=by
 let e1:ts.take (q+1)=ts.take q++[t]:=by rw[WX,e];rfl
 refine⟨e1,λu hu z=>?_⟩;rw[<-List.take_append_drop (q+1) ts,e1,VW,VW,Xk,Xk]at nd;show nd.1.2.2 u.nm (Vp.mpr ⟨u,hu,rfl⟩) t.nm (by simp) z
variable{lr lx:Nat}{x y:PV}
def KI(nd:(ts.map (·.nm)).Nodup)(hl:ts.length<=100)(g:h[l]?=a_ (.ins "Tree" [("made",x),("failed",y)]))(gr:h[lr]?=a_ (.lst<|ts.map dZ))(gx:h[lx]?=a_ (.lst []))(k:∀lm lf h',Kp1 l h h'->h.length<=lm->h.length<=lf->TA h' l lm lf (ts.map gH)->Q .non h'):(iY [.ref l,.ref lr,.ref lx] h).W Q:=by
 let nr:lr≠l:=λz=>by subst z;rw[g]at gr;cases gr
 let nx:lx≠l:=λz=>by subst z;rw[g]at gx;cases gx
 let qm:=(SC.mp g).1;let u2:=(SC.mp gr).1;let hlx:=(SC.mp gx).1;refine bA ?_;unfold mM;rw[aD];simp;let g1:=Ext.app h [MO.dK []] _ _ g;refine⟨_,eK g1<|by simp,?_⟩;let k1:Kp1 l h ((h++[MO.dK []]).set l<|MO.ins "Tree"<|hZ "made" (.ref h.length) [("made",x),("failed",y)]):=(Kp1.of<|F_ _).tr Kp1.set;let g2:((h++[MO.dK []]).set l<|MO.ins "Tree"<|hZ "made" (.ref h.length) [("made",x),("failed",y)])[l]?=a_ (.ins "Tree" [("made",.ref h.length),("failed",y)]):=aW g1;let t2:bB ((h++[MO.dK []]).set l<|MO.ins "Tree"<|hZ "made" (.ref h.length) [("made",x),("failed",y)]) h.length=a_ ((ts.take 0).map gH):=AQ<|aL aE ⋯;generalize (h++[MO.dK []]).set l (MO.ins "Tree"<|hZ "made" (.ref h.length) [("made",x),("failed",y)])=hA at k1 g2 t2;rfl';rw[aD];refine lY (n:=lr) (xs:=ts.map dZ) (h1:=hA) (λq δ h'=>Kp1 l h h'/\h'[l]?=a_ (.ins "Tree" [("made",.ref h.length),("failed",y)])/\bB h' h.length=a_ ((ts.take q).map gH)/\∃x3 x4 x5 x6,δ=[c_ l,c_ lr,c_ lx,x3,x4,x5,x6]) (by simp) (k1 _ _ nr gr) ⟨k1,g2,t2,_,_,_,_,rfl⟩ ?_ ?_ ?_
 ·rintro q δ h' hq ⟨k2,_⟩;show k2 _ _ nr gr
 ·rintro q y' δ h' hy ⟨k2,g3,t3,x3,x4,x5,x6,rfl⟩;rw[Vk]at hy;let⟨t,ht,rfl⟩:=Vr.mp hy;refine⟨[c_ l,c_ lr,c_ lx,a_<|Z5 0,a_<|.str t.ct.kd,a_<|pv t.hd,a_ t.sp],by simp[dZ],?_⟩;let hp:fT (.ref h.length) (Z5 0) (eV t) h'=a_ (h'.set h.length<|.dD<|bM ((ts.take q).map gH) (Z5 0)<|eV t):=tX t3 rfl (by rw[U5,V7];omega);let hq:=(SC.mp ht).1;let⟨e1,e2⟩:=Et nd ht;rw[C3 e2,<-e1]at hp;let⟨o,ho,_,_⟩:=aY t3;unfold jH;let fm:aQ "made" (.ref l) h'=.ok (.ref h.length) h':=dO g3 rfl;simp[fm];refine⟨_,hp,?_,?_,?_⟩
  ·show λi ob hi e=>aL (k2 i ob hi e) (by have:=(SC.mp e).1;omega)
  ·show aL g3 ⋯
  ·rw[<-Yc];show nH<|aW ho
 ·rintro δ h' ⟨k2,g3,t3,x3,x4,x5,x6,rfl⟩;rw[U5,Xs]at t3;rfl';let zi:=k2 _ _ nx gx;simp[iD zi];let g4:=Ext.app h' [MO.lst []] _ _ g3;let cw:=(SC.mp g3).1;let⟨o,ho,_,hh⟩:=aY t3;let wq:=(SC.mp ho).1;refine⟨_,eK g4<|by simp,?_⟩;show k h.length h'.length _ (k2.tr<|(Kp1.of<|F_ _).tr Kp1.set) (U6 _) ⋯ ⟨aW g4,hh _<|aL (F_ _ _ _ ho) ⋯,aL aE ⋯⟩
def NA(h:PH):jV [.str "row"] h=.ok .non h:=by
 let w:(jV [.str "row"] h).W λq h'=>q=.non/\h'=h:=by
  refine bA ?_;let n1:¬ (Vg "row")=Vg "count" := by decide +kernel
  let n2:¬ (Vg "row")=Vg "choice" := by decide +kernel
  let n3:¬ (Vg "row")=Vg "bag" := by decide +kernel
  let n4:¬ (Vg "row")=Vg "text" := by decide +kernel
  unfold nK;rw[aD,bI];simp[-eL,n1];rfl';rw[aD,bI];simp[-eL,n2];rfl';rw[aD,bI];simp[-eL,n3];rfl';rw[aD,bI];simp[-eL,n4];rfl';simp
 let⟨q,h',e,rfl,rfl⟩:=dY w;show e
def KJ(k:∀h',O_ h'->AR h' h.length []->Q (.ref h.length) h'):(jV [.str "bag"] h).W Q:=by
 refine bA ?_;let n1:¬ (Vg "bag")=Vg "count" := by decide +kernel
 let n2:¬ (Vg "bag")=Vg "choice" := by decide +kernel
 unfold nK;rw[aD,bI];simp[-eL,n1];rfl';rw[aD,bI];simp[-eL,n2];rfl';rw[aD,bI];simp[-eL];refine AO (ps:=[]) (h1:=h) rfl rfl ?_;refine bA ?_;unfold iQ;let g:(h++[MO.ins "Bag" []])[h.length]?=a_ (.ins "Bag" []):=aE;let x0:O_ (h++[MO.ins "Bag" []]):=F_ _;generalize h++[MO.ins "Bag" []]=hA at g x0;let lA:=(SC.mp g).1;simp;let x1:Ext hA (hA++[MO.lst []]):=F_ _;let g1:=x1 _ _ g;refine⟨_,eK g1<|by simp,?_⟩;show k _ ((x0.trans x1).setN<|U6 _) ⟨hA.length,aW g1,aL aE ⋯,by simp⟩
def add_r(p:Nm):aX [.ref l,pv p,.str "row"] h=.ok .non h:=by
 let w:(aX [.ref l,pv p,.str "row"] h).W λq h'=>q=.non/\h'=h:=by refine bA ?_;unfold cJ;rw[aD];simp[NA];rfl';let nn:lV .non .non h=.ok (.bl false) h:=rfl;simp[nn]
 let⟨q,h',e,rfl,rfl⟩:=dY w;show e
variable{ll:Nat}
def ID{lt:Nat}(fo:h[l]?=a_ (.ins "Folding" [("tree",.ref lt),("leaves",.ref ll)]))(tl:bB h ll=a_ kvs)(lk:kvs.length<=100)(k:∀h',Kp1 ll h h'->AR h' h.length []->bB h' ll=a_ (bM kvs (pv p)<|.ref h.length)->Q .non h'):(aX [.ref l,pv p,.str "bag"] h).W Q:=by refine bA ?_;unfold cJ;rw[aD];simp;refine KJ λh1 x1 f1=>?_;rfl';let fl:aQ "leaves" (.ref l) h1=.ok (.ref ll) h1:=dO (x1 _ _ fo) rfl;let t1:=cD x1 tl;let hp:fT (.ref ll) (pv p) (.ref h.length) h1=a_ (h1.set ll<|.dD<|bM kvs (pv p)<|.ref h.length):=tX t1 rfl ⋯;let⟨o,ho,_,_⟩:=aY tl;let nn:lV (.ref h.length) .non h1=.ok (.bl true) h1:=rfl;simp[nn,fl];show⟨_,hp,k _ (λi o hi e=>aL (x1 _ _ e)<|Wx hi) (f1.keep (λi cn fs e=>aL e (λz=>by subst z;show iC t1 e)) λi xs e=>aL e (λz=>by subst z;show jA t1 e))<|nH<|aW<|x1 _ _ ho⟩
abbrev LQ(a0:Nat)(h:PH)(kvs:B_ (PV×PV))(n:Nm):Ct->Prop
 |.r=>Y2 (pv n)=b_
 |.l R=>∃c,a0<=c/\Y2 (pv n)=c_ c/\AR h c R
variable{a0:Nat}{tj:B_ (PV×PV)}
def LQ.keep{n:Nm}{t:Ct}(q:LQ a0 h kvs n t)(ek:aF tj (pv n)=Y2 (pv n))(ki:∀(i:Nat) cn fs,h[i]?=a_ (.ins cn fs)->h'[i]?=a_ (.ins cn fs))(kl:∀(i:Nat) xs,h[i]?=a_ (.lst xs)->h'[i]?=a_ (.lst xs)):LQ a0 h' tj n t:=by
 cases t with
 |r=>exact ek.trans q
 |l R=>let⟨c,l,e,f⟩:=q;show⟨c,l,ek.trans e,f.keep ki kl⟩
abbrev LV(a0:Nat)(h:PH)(ll:Nat)(ts:B_ Th):Prop:=∃kvs,bB h ll=a_ kvs/\kvs.length<=ts.length/\(∀t∈ts,LQ a0 h kvs t.nm t.ct)/\∀p,(∀t∈ts,t.nm≠p)->Y2 (pv p)=b_
structure FB(h:PH)(a0 l lt lm lf ll:Nat)(ts:B_ Th):Prop where
 fo:h[l]?=some (.ins "Folding" [("tree",.ref lt),("leaves",.ref ll)])
 ta:TA h lt lm lf (ts.map gH)
 lv:LV a0 h ll ts
 ne:ll≠lm
 lo:a0<=l/\a0<=lt/\a0<=lm/\a0<=lf/\a0<=ll
def LV.ext(v:LV a0 h ll ts)(x:O_ h'):LV a0 h' ll ts:=by let⟨kvs,t,a,b,c⟩:=v;show⟨kvs,cD x t,a,λt ht=>(b t ht).keep rfl (λ_ _ _ e=>x _ _ e) λ_ _ e=>x _ _ e,c⟩
def FB.ext{lt:Nat}(f:Q_ ts)(x:O_ h'):FB h' a0 l lt lm lf ll ts:=⟨x _ _ f.fo,f.ta.ext x,f.lv.ext x,f.ne,f.lo⟩
def FB.ft{lt:Nat}(f:Q_ ts):aQ "tree" (.ref l) h=.ok (.ref lt) h:=dO f.fo rfl
def FB.fl{lt:Nat}(f:Q_ ts):aQ "leaves" (.ref l) h=.ok (.ref ll) h:=dO f.fo rfl
def LV.put{t:Th}(et:t.ct=.l R)(hc:a0<=c)(tl:bB h ll=a_ kvs)(lk:kvs.length<=ts.length)(b:∀t∈ts,LQ a0 h kvs t.nm t.ct)(no:∀p,(∀t∈ts,t.nm≠p)->Y2 (pv p)=b_)(new:∀u∈ts,u.nm≠t.nm)(fr:∀(i:Nat) o,i≠ll->h[i]?=a_ o->h'[i]?=a_ o)(SU:bB h' ll=a_ (bM kvs (Z5 0)<|.ref c))(f:AR h' c R):LV a0 h' ll (ts++[t]):=by
 refine⟨_,SU,?_,λu hu=>?_,λp hp=>?_⟩
 ·have:=Es kvs (Z5 0)<|.ref c;simp;omega
 ·rcases Vx.mp hu with hu|hu
  ·show(b u hu).keep (by rw[cF,if_neg<|λz=>new u hu<|iS z]) (λi cn fs e=>fr _ _ (λz=>by subst z;show iC tl e) e) λi xs e=>fr _ _ (λz=>by subst z;show jA tl e) e
  ·rw[Vc.mp hu,et];show⟨c,hc,by rw[cF,YX 0],f⟩
 ·rw[cF,if_neg<|λz=>hp t (by simp) (iS z).symm];show no p λu hu=>hp u<|Wc _ hu
def LV.putR{t:Th}(v:LV a0 h ll ts)(et:t.ct=.r)(new:∀u∈ts,u.nm≠t.nm):LV a0 h ll (ts++[t]):=by
 let⟨kvs,tl,a,b,no⟩:=v;refine⟨kvs,tl,by simp;omega,λu hu=>?_,λp hp=>no p λu hu=>hp u<|Wc _ hu⟩;rcases Vx.mp hu with hu|hu
 ·show b u hu
 ·rw[Vc.mp hu,et];show no _ new
def tfB:nL "Bag" = a_ iP:=by simp[nL]
def IE(f:AR h c [])(cv:CtV h v (.l R)):∃fs,h[c]?=a_ (.ins "Bag" fs)/\fs.lookup ("fill" : Str)=b_/\∀Q:PV->PH->Prop,(∀h',Kp1 c h h'->AR h' c R->Q .non h')->(iP [.ref c,v] h).W Q:=by let⟨s,rfl,gs,lR⟩:=cv;let⟨s0,g,_,_⟩:=f;refine⟨_,g,rfl,λQ k=>?_⟩;refine bA ?_;unfold pF;simp[iD gs];let x1:O_ (h++[MO.lst<|R.map rwN]):=F_ _;let hl:=(SC.mp g).1;refine⟨_,eK (x1 _ _ g)<|by simp,?_⟩;show k _ ((Kp1.of x1).tr Kp1.set) ⟨h.length,aW<|x1 _ _ g,aL aE ⋯,lR⟩
variable{h0:PH}
def C4{zs:B_ (Th×PV)}(nd:((zs.map (·.1)).map (·.nm)).Nodup)(hz:zs.length<=60)(x0:Ext h0 h)(g:h[h0.length]?=a_ (.ins "Folding" []))(gr:h[lr]?=a_ (.lst<|zs.map mW))(gx:h[lx]?=a_ (.lst []))(cz:∀z∈zs,CtV h z.2 z.1.ct)(k:∀lt lm lf ll h',Ext h0 h'->FB h' h0.length h0.length lt lm lf ll (zs.map (·.1))->Q .non h'):(bJ [.ref h0.length,.tup [.ref lr,.ref lx]] h).W Q:=by
 let nr:lr≠h0.length:=λz=>by subst z;rw[g]at gr;cases gr
 let nx:lx≠h0.length:=λz=>by subst z;rw[g]at gx;cases gx
 let qm:=(SC.mp g).1;refine bA ?_;unfold dR;rw[aD];simp;rfl';rw[aD,Ni];refine AO (ps:=[]) (h1:=h) rfl rfl ?_;let g0:(h++[MO.ins "Tree" []])[h.length]?=a_ (.ins "Tree" []):=aE;refine IC g0 λx y h1 k1 g1=>⟨rfl,?_⟩;let x1:O_ h1:=Kp1.ext (F_ _) k1<|U6 _;simp;refine⟨_,eK (x1 _ _ g)<|by simp,?_⟩;let k2:Kp1 h0.length h (h1.set h0.length<|MO.ins "Folding"<|hZ "tree" (.ref h.length) []):=(Kp1.of x1).tr Kp1.set;let f2:(h1.set h0.length<|MO.ins "Folding"<|hZ "tree" (.ref h.length) [])[h0.length]?=a_ (.ins "Folding" [("tree",.ref h.length)]):=aW<|x1 _ _ g;let t2:(h1.set h0.length<|MO.ins "Folding"<|hZ "tree" (.ref h.length) [])[h.length]?=a_ _:=aL g1 ⋯;generalize h1.set h0.length (MO.ins "Folding"<|hZ "tree" (.ref h.length) [])=h2 at k2 f2 t2;rfl';rw[aD];let r2:=k2 _ _ nr gr;let hc:=eI (m:=mV 2) (js:=[b_]) (tg:=gN 0) (tst:=eY) (elt:=mSl (mV 0) jO<|mP<|q_ 4) (δ:=[c_ h0.length,a_<|.tup [.ref lr,.ref lx],c_ lr,c_ lx,b_,b_,b_,b_,b_]) (h:=h2) (h1:=h2) (n:=lr) (ys:=zs) (emb:=mW) (λz=>a_<|dZ z.1) (by simp) r2 ⋯
  (λt _=>⟨[a_<|mW t],by simp[dB],λh _=>⟨rfl,by simp[mW,dZ,eE,HT.sIx]⟩⟩)
 rw[filterMap_some,show zs.map (λz=>dZ z.1)=(zs.map (·.1)).map dZ by rw[VJ];rfl]at hc;let x3:Ext h2 (h2++[MO.lst ((zs.map (·.1)).map dZ)]):=F_ _;let r3:(h2++[MO.lst ((zs.map (·.1)).map dZ)])[h2.length]?=a_ (.lst ((zs.map (·.1)).map dZ)):=aE;let Uc:=(SC.mp t2).1;generalize h2.length=l4 at hc r3 Uc;generalize h2++[MO.lst ((zs.map (·.1)).map dZ)]=h3 at hc r3 x3;let mf:=aN "fill" 2 AG (aA (bG [b_] (bF<|mV 2) (gN 0) eY<|mSl (mV 0) jO<|mP<|q_ 4)<|aA (mV 3) aC) [c_ h0.length,a_<|.tup [.ref lr,.ref lx],c_ lr,c_ lx,b_,b_,b_,b_,b_] h2 (mUn (aQ "tree")<|mV 0) iY (by have:aQ "tree" (.ref h0.length) h2=.ok (.ref h.length) h2:=dO f2 rfl;simp[this]) t2 (by simp[AG]) rfl;rw[Lf,mf];simp[hc];refine KI nd (by rw[U5];omega) (x3 _ _ t2) r3 (x3 _ _<|k2 _ _ nx gx) λlm lf h4 k4 lm4 lf4 t4=>?_;let l3:=(SC.mp r3).1;let k5:Kp1 h0.length h h4:=λi o hi e=>k4 i o (by have:=(SC.mp e).1;omega)<|x3 _ _<|k2 i o hi e;let S6:h4[h0.length]?=a_ (.ins "Folding" [("tree",.ref h.length)]):=k4 _ _ ⋯ (x3 _ _ f2);let⟨o,ho,_,RP⟩:=aY t4.made;let lmh:=(SC.mp ho).1;let lfh:=(SC.mp t4.fail).1;let lth:=(SC.mp t4.ins).1;rfl';rw[aD];simp;let x5:Ext h4 (h4++[MO.dK []]):=F_ _;let SH:=x5 _ _ S6;refine⟨_,eK SH<|by simp,?_⟩;let k6:Kp1 h0.length h ((h4++[MO.dK []]).set h0.length<|MO.ins "Folding"<|hZ "leaves" (.ref h4.length) [("tree",.ref h.length)]):=k5.tr<|(Kp1.of x5).tr Kp1.set;let j6:∀(i:Nat) o,i≠h0.length->(h4++[MO.dK []])[i]?=a_ o->((h4++[MO.dK []]).set h0.length<|MO.ins "Folding"<|hZ "leaves" (.ref h4.length) [("tree",.ref h.length)])[i]?=a_ o:=λi o hi e=>aL e<|Wx hi;let zj:((h4++[MO.dK []]).set h0.length<|MO.ins "Folding"<|hZ "leaves" (.ref h4.length) [("tree",.ref h.length)])[h0.length]?=a_ (.ins "Folding" [("tree",.ref h.length),("leaves",.ref h4.length)]):=aW SH;let t6:TA ((h4++[MO.dK []]).set h0.length<|MO.ins "Folding"<|hZ "leaves" (.ref h4.length) [("tree",.ref h.length)]) h.length lm lf ((zs.map (·.1)).map gH):=⟨j6 _ _ ⋯ (x5 _ _ t4.ins),RP _<|j6 _ _ ⋯ (x5 _ _ ho),j6 _ _ ⋯ (x5 _ _ t4.fail)⟩;let v6:LV h0.length ((h4++[MO.dK []]).set h0.length<|MO.ins "Folding"<|hZ "leaves" (.ref h4.length) [("tree",.ref h.length)]) h4.length ((zs.map (·.1)).take 0):=⟨[],AQ<|j6 _ _ ⋯ aE,by simp,by simp,λ_ _=>rfl⟩;generalize (h4++[MO.dK []]).set h0.length (MO.ins "Folding"<|hZ "leaves" (.ref h4.length) [("tree",.ref h.length)])=h6 at k6 zj t6 v6;rfl';let dm:lm≠h4.length:=⋯
 let ds:h0.length≠h4.length/\h.length≠h4.length/\lf≠h4.length:=⋯;let lo:h0.length<=h.length/\h0.length<=lm/\h0.length<=lf/\h0.length<=h4.length:=⋯;let Uk:h.length<h4.length:=⋯;generalize h4.length=ll at zj v6 dm ds lo Uk;refine lY (n:=lr) (xs:=zs.map mW) (h1:=h6) (λq δ h'=>Kp1 h0.length h h'/\h'[h0.length]?=a_ (.ins "Folding" [("tree",.ref h.length),("leaves",.ref ll)])/\TA h' h.length lm lf ((zs.map (·.1)).map gH)/\LV h0.length h' ll ((zs.map (·.1)).take q)/\∃x4 x5 x6 x7 x8,δ=[c_ h0.length,a_<|.tup [.ref lr,.ref lx],c_ lr,c_ lx,x4,x5,x6,x7,x8]) (by simp) (k6 _ _ nr gr) ⟨k6,zj,t6,v6,_,_,_,_,_,rfl⟩ ?_ ?_ ?_
 ·rintro q δ h' hq ⟨k7,_⟩;show k7 _ _ nr gr
 ·rintro q y' δ h' hy ⟨k7,fo7,t7,v7,x4,x5,x6,x7,x8,rfl⟩;rw[Vk]at hy;let⟨z,jj,rfl⟩:=Vr.mp hy;refine⟨[c_ h0.length,a_<|.tup [.ref lr,.ref lx],c_ lr,c_ lx,a_<|pv z.1.nm,a_<|.str z.1.ct.kd,a_<|pv z.1.hd,a_ z.1.sp,a_ z.2],by simp[mW],?_⟩;let cv:CtV h' z.2 z.1.ct:=(cz z<|VI jj).ext λi xs e=>k7 _ _ (λw=>by subst w;rw[g]at e;cases e) e;let⟨e1,e2⟩:=Et (ts:=zs.map (·.1)) nd (q:=q) (t:=z.1) (by rw[Vk,jj];rfl);let lq:((zs.map (·.1)).take q).length<=60:=by rw[V7,U5];omega
  let ma:=aN "add_leaf" 2 dW (aA (mV 4)<|aA (mV 5) aC) [c_ h0.length,a_<|.tup [.ref lr,.ref lx],c_ lr,c_ lx,a_<|pv z.1.nm,a_<|.str z.1.ct.kd,a_<|pv z.1.hd,a_ z.1.sp,a_ z.2] h' (mV 0) aX (by simp) fo7 (by simp[dW]) rfl;unfold cX;rw[aD,Lf,ma];cases ec:z.1.ct with
  |r=>
   let v8:=v7.putR ec e2;let⟨kvs,tl,lk,b,no⟩:=v7;let hs:fR (pv z.1.nm) (.ref ll) h'=.ok (.bl false) h':=by have:fR (pv z.1.nm) (.ref ll) h'=.ok (.bl (Y2<|pv z.1.nm).isSome) h':=oQ tl rfl;rw[this,no _ e2];rfl
   let fl:aQ "leaves" (.ref h0.length) h'=.ok (.ref ll) h':=dO fo7 rfl;let ar:=add_r (h:=h') (l:=h0.length) z.1.nm;simp[Ct.kd,ar];rfl';rw[bI];simp[fl,hs];rw[<-Yc];refine⟨k7,fo7,⟨t7.ins,by rw[<-VJ];show t7.made,t7.fail⟩,?_⟩;rw[Yc,e1];show v8
  |l R=>
   let⟨kvs,tl,lk,b,no⟩:=v7;rw[ec]at cv;simp[Ct.kd];refine ID fo7 tl ⋯ λh8 k8 c8 t8=>?_;let T4:=k8 _ _ ds.1 fo7;let⟨o7,UB,_,yg⟩:=aY t7.made;let⟨oL,gw,_,_⟩:=aY tl;let bL:=(SC.mp gw).1;let RN:aF (bM kvs (pv z.1.nm)<|.ref h'.length) (pv z.1.nm)=c_ h'.length:=by rw[cF,YX 0]
   let hs:fR (pv z.1.nm) (.ref ll) h8=.ok (.bl true) h8:=by have:fR (pv z.1.nm) (.ref ll) h8=.ok (.bl (aF (bM kvs (pv z.1.nm)<|.ref h'.length)<|pv z.1.nm).isSome) h8:=oQ t8 rfl;rw[this,RN];rfl
   let va:vAt (.ref ll) (pv z.1.nm) h8=.ok (.ref h'.length) h8:=tE t8 rfl RN;let fl:aQ "leaves" (.ref h0.length) h8=.ok (.ref ll) h8:=dO T4 rfl;let Um:CtV h8 z.2 (.l R):=cv.ext λi xs e=>k8 _ _ (λw=>by subst w;show jA tl e) e;let⟨fs,gc,nl,W⟩:=IE c8 Um;rfl';let mf:=aN "fill" 1 nL (aA (mV 8) aC) [c_ h0.length,a_<|.tup [.ref lr,.ref lx],c_ lr,c_ lx,a_<|pv z.1.nm,a_<|.str "bag",a_<|pv z.1.hd,a_ z.1.sp,a_ z.2] h8 (r_ (mUn (aQ "leaves")<|mV 0)<|mV 4) iP (by simp[fl,va]) gc tfB nl;rw[bI];simp[fl,hs,mf];refine W _ λh9 k9 c9=>?_;let fr:∀(i:Nat) o,i≠ll->h'[i]?=a_ o->h9[i]?=a_ o:=λi o hi e=>k9 i o (by have:=(SC.mp e).1;omega)<|k8 i o hi e;let⟨o8,SX,_,y3⟩:=aY t8;rw[<-Yc];refine⟨λi o hi e=>fr _ _ (by have:=(SC.mp e).1;omega)<|k7 _ _ hi e,fr _ _ ds.1 fo7,⟨fr _ _ ds.2.1 t7.ins,by rw[<-VJ];show yg _<|fr _ _ dm UB,fr _ _ ds.2.2 t7.fail⟩,?_⟩;rw[Yc,e1];show LV.put ec (by have:=(SC.mp fo7).1;omega) tl lk b no e2 fr (y3 _<|k9 _ _ ⋯ SX) c9
 ·rintro δ h' ⟨k7,fo7,t7,v7,x4,x5,x6,x7,x8,rfl⟩;rw[U5,Xq (by rw[U5];show U6 _)]at v7;show Z6 _ _ _ (Kp1.ext x0 k7<|U6 _) ⟨fo7,t7,v7,Wx dm,U6 _,lo.1,lo.2.1,lo.2.2.1,lo.2.2.2⟩
def FW(S:Seen)(nm:Str×Int)(h:PH):jW [sv S,pv nm] h=.ok (.bl<|match look S nm.1 with|some n=>decide (nm.2<=n)|none=>false) h:=by
 let w:(jW [sv S,pv nm] h).W λq h'=>q=.bl (match look S nm.1 with|some n=>decide (nm.2<=n)|none=>false)/\h'=h:=by
  refine bA ?_;unfold wD;rw[aD];refine N1 (xs:=S.map pv) (λq δ h'=>h'=h/\look (S.drop q) nm.1=look S nm.1/\∃x2 x3,δ=[a_<|sv S,a_<|pv nm,x2,x3]) (.inl<|by simp[Ik]) ⟨rfl,rfl,_,_,rfl⟩ ?_ ?_
  ·rintro q x δ h' hx ⟨rfl,hk,x2,x3,rfl⟩;rw[Vk]at hx;let⟨p,hp,rfl⟩:=Vr.mp hx;let hd:S.drop q=p::S.drop (q+1):=by let⟨hl,e⟩:=SC.mp hp;rw[List.drop_eq_getElem_cons hl,e]
   rw[hd,rY]at hk;refine⟨_,by simp[pv];rfl,?_⟩;unfold pG;by_cases e:p.1=nm.1
   ·rw[Z_ 0]at hk;simp[pv,e];rw[<-hk]
   ·rw[Zs 0]at hk;simp[pv,e];show hk
  ·rintro δ h' ⟨rfl,hk,x2,x3,rfl⟩;rfl';rw[U5,List.drop_length]at hk;simp[<-hk,look]
 let⟨q,h',e,rfl,rfl⟩:=dY w;show e
abbrev Kb(a0:Nat)(h h':PH):Prop:=(∀(i:Nat) o,i<a0->h[i]?=a_ o->h'[i]?=a_ o)/\∀(i:Nat) xs,h[i]?=a_ (.lst xs)->h'[i]?=a_ (.lst xs)
def Kb.of(x:O_ h'):Kb a0 h h':=⟨λi o _ e=>x i o e,λi _ e=>x i _ e⟩
def Kb.trans(x:Kb a0 h h')(y:Kb a0 h' h2):Kb a0 h h2:=⟨λi o hi e=>y.1 i o hi<|x.1 i o hi e,λi o e=>y.2 i o<|x.2 i o e⟩
def Eu(p q:Nm)(h:PH):vEq (pv p) (pv q) h=.ok (.bl<|decide (p=q)) h:=by
 rw[Ak rfl rfl];by_cases e:p=q
 ·simp[e]
 ·have:¬ pv p=pv q:=λz=>e<|iS z;simp[e,this]
def sA(lt:Nat)(h:PH):aI [.ref lt,pv root] h=.ok (.str "map") h:=by
 let w:(aI [.ref lt,pv root] h).W λq h'=>q=.str "map" /\ h'=h:=by refine bA ?_;unfold eM;rw[aD,bI];let e:vEq (pv root) (.tup [.str "",.int 0]) h=.ok (.bl true) h:=Eu root root h;simp[e]
 let⟨q,h',e,rfl,rfl⟩:=dY w;show e
variable{r:Th}
def sC{lt:Nat}(t:q0o T)(hp:p≠root)(e:aF T (pv p)=a_ (eV r)):aI [.ref lt,pv p] h=.ok (.str r.ct.kd) h:=by
 let w:(aI [.ref lt,pv p] h).W λq h'=>q=.str r.ct.kd/\h'=h:=by
  refine bA ?_;unfold eM;rw[aD,bI];let e0:vEq (pv p) (.tup [.str "",.int 0]) h=.ok (.bl false) h:=by have:=Eu p root h;rw[decide_eq_false hp]at this;show this
  let e1:fR (pv p) (.ref lm) h=.ok (.bl true) h:=by have:fR (pv p) (.ref lm) h=.ok (.bl (aF T<|pv p).isSome) h:=oQ t.made rfl;rw[this,e];rfl
  let e2:vAt (.ref lm) (pv p) h=.ok (eV r) h:=tE t.made rfl e;let e3:vIx (eV r) (.int 0) h=.ok (.str r.ct.kd) h:=by unfold eV;simp
  simp[e0];rfl';simp[t.fm,e1,e2,e3]
 let⟨q,h',e,rfl,rfl⟩:=dY w;show e
def Dv{lt:Nat}(t:q0o T)(sp:Str):bY [.ref lt,pv root,.str sp] h=.ok (.bl true) h:=by
 let w:(bY [.ref lt,pv root,.str sp] h).W λq h'=>q=.bl true/\h'=h:=by refine bA ?_;unfold iA;let mk:=aN "kind_of" 1 aR (aA (mV 1) aC) [c_ lt,a_<|pv root,a_<|.str sp] h (mV 0) aI (by simp) t.ins (by simp[aR]) rfl;let e:vEq (.str "map") (.str "map") h=.ok (.bl true) h:=rfl;let i1:vJ [.str sp,.ty "str"] h=.ok (.bl true) h:=(rfl);simp[-Bp,mk,sA,i1,e]
 let⟨q,h',e,rfl,rfl⟩:=dY w;show e
def FX(sp:Str)(p:PV)(h:PH):dS [.str sp,p] h=.ok (.str sp) h:=by
 let w:(dS [.str sp,p] h).W λq h'=>q=.str sp/\h'=h:=by refine bA ?_;unfold kR;let i1:vJ [.str sp,.ty "str"] h=.ok (.bl true) h:=(rfl);simp[-Bp,i1]
 let⟨q,h',e,rfl,rfl⟩:=dY w;show e
def FY{lt:Nat}(t:q0o T)(kk:aI [.ref lt,pv p] h=.ok (.str "row") h)(xs:Y6 0):bY [.ref lt,pv p,.tup xs] h=.ok (.bl true) h:=by
 let w:(bY [.ref lt,pv p,.tup xs] h).W λq h'=>q=.bl true/\h'=h:=by refine bA ?_;unfold iA;let mk:=aN "kind_of" 1 aR (aA (mV 1) aC) [c_ lt,a_<|pv p,a_<|.tup xs] h (mV 0) aI (by simp) t.ins (by simp[aR]) rfl;let e:vEq (.str "row") (.str "row") h=.ok (.bl true) h:=rfl;let i1:vJ [.tup xs,.ty "str"] h=.ok (.bl false) h:=(rfl);simp[-Bq,mk,kk,i1,e]
 let⟨q,h',e,rfl,rfl⟩:=dY w;show e
@[reducible]def plc(w0:Str):PV:=.tup [.tup [.int 1,.str w0,.int 2,.int 0]]
def IF(w0:Str)(h:PH):dS [.tup [.tup [],.int 1],pv (w0,2)] h=.ok (plc w0) h:=by
 let w:(dS [.tup [.tup [],.int 1],pv (w0,2)] h).W λq h'=>q=plc w0/\h'=h:=by refine bA ?_;unfold kR;let i1:vJ [.tup [.tup [],.int 1],.ty "str"] h=.ok (.bl false) h:=(rfl);simp[-Bq,i1];refine bA ?_;unfold pH;rw[aD];simp;rfl';rw[aD];simp[pv];rfl';simp[plc]
 let⟨q,h',e,rfl,rfl⟩:=dY w;show e
def nTB:¬ (Vg "Tree")=Vg "Bag" := by decide +kernel
def tbT:iB "Tree" = a_ fW:=by simp[iB,nTB]
def tbB:iB "Bag" = a_ fD:=by simp[iB]
def NB{d:Dd}:vIx (dP d) (.int 2) h=.ok (.tup d.act) h:=by unfold dP;simp
variable{s0:PV}
def Ew{lt:Nat}(f:Q_ ts)(ls:ts.length<=50){d:Dd}{t:Th}(en:d.nm=t.nm)(ea:d.act=[.str "make",.str t.ct.kd,pv t.hd,s0])(ez:t.ct=.r\/t.ct=.l [])(tk:bY [.ref lt,pv t.hd,s0] h=.ok (.bl true) h)(sd:dS [s0,Z5 0] h=.ok t.sp h)(new:∀u∈ts,u.nm≠t.nm)(Q:PV->PH->Prop)(k:∀v h',Kb a0 h h'->FB h' a0 l lt lm lf ll (ts++[t])->Q v h'):(cE [.ref l,dP d] h).W Q:=by
 let ed:dP d=.tup [Z5 0,ZR 0,.tup [.str "make",.str t.ct.kd,pv t.hd,s0]]:=by unfold dP;rw[ea,en]
 refine bA ?_;unfold eQ;rw[aD,ed];simp;rfl';rw[aD,bI];let in1:vIn (.str "make") (.tup [.str "make",.str "move",.str "drop"]) h=.ok (.bl true) h:=(rfl);let mh:=aN "hear_tree" 1 kW (aA (mV 1) aC) ([c_ l,a_<|.tup [Z5 0,ZR 0,.tup [.str "make",.str t.ct.kd,pv t.hd,s0]],a_<|.tup [.str "make",.str t.ct.kd,pv t.hd,s0]]) h (mV 0) dG (by simp) f.fo (by simp[kW]) rfl;simp[in1,mh];refine bA ?_;unfold dC;rw[aD];let mt:=aN "hear" 1 iB (aA (mV 1) aC) [c_ l,a_<|.tup [Z5 0,ZR 0,.tup [.str "make",.str t.ct.kd,pv t.hd,s0]],b_,b_] h (mUn (aQ "tree")<|mV 0) fW (by simp[f.ft]) f.ta.ins tbT rfl;simp[mt];refine bA ?_;unfold mO;rw[aD];simp;rfl';rw[aD,bI];let mm:=aN "hear_make" 2 kT (aA (mV 2)<|aA (mV 4) aC) ([c_ lt,a_<|.tup [Z5 0,ZR 0,.tup [.str "make",.str t.ct.kd,pv t.hd,s0]],a_<|Z5 0,a_<|ZR 0,a_<|.tup [.str "make",.str t.ct.kd,pv t.hd,s0]]) h (mV 0) fF (by simp) f.ta.ins (by simp[kT]) rfl;simp[mm];refine bA ?_;unfold fE;rw[aD];simp;rfl';rw[aD,bI];let mk:=aN "takes" 2 wG (aA (mV 5)<|aA (mV 6) aC) [c_ lt,a_<|Z5 0,a_<|.tup [.str "make",.str t.ct.kd,pv t.hd,s0],a_<|.str "make",a_<|.str t.ct.kd,a_<|pv t.hd,a_ s0] h (mV 0) bY (by simp) f.ta.ins (by simp[wG]) rfl;simp[mk,tk];rfl';rw[aD];let hp:fT (.ref lm) (Z5 0) (eV t) h=a_ (h.set lm<|.dD<|bM (ts.map gH) (Z5 0)<|eV t):=tX f.ta.made rfl (by rw[U5];omega);rw[C3 new]at hp;let SS:fT (.ref lm) (Z5 0) (.tup [.str t.ct.kd,pv t.hd,t.sp]) h=a_ (h.set lm<|.dD<|(ts++[t]).map gH):=hp;let⟨o,ho,_,_⟩:=aY f.ta.made;let d1:l≠lm:=λz=>by subst z;show iC f.ta.made f.fo
 let d2:lt≠lm:=λz=>by subst z;show iC f.ta.made f.ta.ins
 let d3:lf≠lm:=λz=>by subst z;show jA f.ta.made f.ta.fail
 let t1:TA (h.set lm<|.dD<|(ts++[t]).map gH) lt lm lf ((ts++[t]).map gH):=⟨aL f.ta.ins<|Wx d2,nH<|aW ho,aL f.ta.fail<|Wx d3⟩;let pf:(h.set lm<|.dD<|(ts++[t]).map gH)[l]?=a_ (.ins "Folding" [("tree",.ref lt),("leaves",.ref ll)]):=aL f.fo<|Wx d1;let kb1:Kb a0 h (h.set lm<|.dD<|(ts++[t]).map gH):=⟨λi o hi e=>aL e (by have:=f.lo;omega),λi xs e=>aL e (λz=>by subst z;show jA f.ta.made e)⟩;let zq:∀(i:Nat) cn fs,h[i]?=a_ (.ins cn fs)->(h.set lm<|.dD<|(ts++[t]).map gH)[i]?=a_ (.ins cn fs):=λi cn fs e=>aL e (λz=>by subst z;show iC f.ta.made e);let⟨kvs,tl,lk,b,no⟩:=f.lv;let um:bB (h.set lm<|.dD<|(ts++[t]).map gH) ll=a_ kvs:=AS tl λo ho=>aL ho<|Wx f.ne;let b1:∀t'∈ts,LQ a0 (h.set lm<|.dD<|(ts++[t]).map gH) kvs t'.nm t'.ct:=λt' ht=>(b t' ht).keep rfl zq kb1.2;generalize h.set lm (.dD<|(ts++[t]).map gH)=h1 at SS t1 pf kb1 zq um b1;simp[f.ta.fm,sd,SS];rfl';simp;rfl';rw[aD];simp;rfl';rw[aD,bI];let ma:=aN "add_leaf" 2 dW (aA (r_ (mV 1)<|q_ 0)<|aA (r_ (mV 3)<|q_ 1) aC) ([c_ l,a_<|.tup [Z5 0,ZR 0,.tup [.str "make",.str t.ct.kd,pv t.hd,s0]],a_<|.str "done",a_<|.tup [.str "make",.str t.ct.kd,pv t.hd,s0]]) h1 (mV 0) aX (by simp) pf (by simp[dW]) rfl;let d4:l≠ll:=λz=>by subst z;show iC tl f.fo
 let d5:lt≠ll:=λz=>by subst z;show iC tl f.ta.ins
 let d6:lf≠ll:=λz=>by subst z;show jA tl f.ta.fail
 rcases ez with ec|ec
 ·let ar:=add_r (h:=h1) (l:=l) t.nm;let v8:LV a0 h1 ll (ts++[t]):=LV.putR ⟨kvs,um,lk,b1,no⟩ ec new;let ek:t.ct.kd="row" := by rw[ec];rfl
  rw[ek]at ma;simp[ek,ma,ar];rfl';simp;show Z6 kb1 ⟨pf,t1,v8,f.ne,f.lo⟩
 ·let ek:t.ct.kd="bag" := by rw[ec];rfl
  rw[ek]at ma;simp[ek,ma];refine ID pf um ⋯ λh2 k2 c2 t2=>?_;rfl';simp;refine Z6 (kb1.trans ⟨λi o hi e=>k2 i o (by have:=f.lo;omega) e,λi xs e=>k2 i _ (λz=>by subst z;show jA um e) e⟩) ⟨k2 _ _ d4 pf,⟨k2 _ _ d5 t1.ins,AS t1.made λo ho=>k2 _ _ (Wx f.ne) ho,k2 _ _ d6 t1.fail⟩,LV.put ec (by have:=(SC.mp pf).1;have:=f.lo;omega) um lk b1 no new k2 t2 c2,f.ne,f.lo⟩
abbrev t1(w0:Str):Th:=⟨(w0,1),root,.str "list",.r⟩
abbrev t2(w0:Str)(R:B_ (Nm×Int)):Th:=⟨(w0,2),(w0,1),plc w0,.l R⟩
def n12(w0:Str):((w0,1):Nm)≠(w0,2):=λz=>by have:(1:Int)=2:=(Prod.ext_iff.mp z).2;omega
def nr1(w0:Str):((w0,1):Nm)≠root:=λz=>by have:(1:Int)=0:=(Prod.ext_iff.mp z).2;omega
def nr2(w0:Str):((w0,2):Nm)≠root:=λz=>by have:(2:Int)=0:=(Prod.ext_iff.mp z).2;omega
def Ex(w0:Str)(L:B_ Th):aF ((t1 w0::L).map gH) (pv (w0,1))=a_ (eV<|t1 w0):=YX 0
def Ey(w0:Str)(R:B_ (Nm×Int)):aF ([t1 w0,Y4 R].map gH) (pv (w0,2))=a_ (eV<|Y4 R):=by
 change(if pv (w0,1)=pv (w0,2) then _ else _)=_
 rw[if_neg<|λz=>n12 w0<|iS z];show YX 0
def LV.two(x:LV a0 h ll [t1 w0,Y4 R]):∃kvs c2 s,a0<=c2/\bB h ll=a_ kvs/\kvs.length<=2/\Y2 (pv (w0,2))=c_ c2/\h[c2]?=a_ (.ins "Bag" [("standing",.ref s)])/\h[s]?=a_ (.lst<|R.map rwN)/\R.length<=100/\∀p,(w0,2)≠p->Y2 (pv p)=b_:=by
 let⟨kvs,t,a,b,c⟩:=x;let b1:Y2 (pv (w0,1))=b_:=b (t1 w0) (by simp);obtain⟨c2,l2,e2,s,f2,f3,f4⟩:LQ a0 h kvs (w0,2) (.l R):=b (Y4 R) (by simp);refine⟨kvs,c2,s,l2,t,l_ a,e2,f2,f3,f4,λp h2=>?_⟩;by_cases h1:(w0,1)=p
 ·subst h1;show b1
 ·show c p λu hu=>by
   simp at hu;rcases hu with rfl|rfl
   ·show h1
   ·show h2
variable{c2 s:Nat}
def LV.mk2(l2:a0<=c2)(t:bB h ll=a_ kvs)(a:kvs.length<=2)(e2:Y2 (pv (w0,2))=c_ c2)(f2:h[c2]?=a_ (.ins "Bag" [("standing",.ref s)]))(f3:h[s]?=a_ (.lst<|R.map rwN))(f4:R.length<=100)(c:∀p,(w0,2)≠p->Y2 (pv p)=b_):LV a0 h ll [t1 w0,Y4 R]:=by
 refine⟨kvs,t,l_ a,λu hu=>?_,λp hp=>c p<|hp (Y4 R)<|by simp⟩;simp at hu;rcases hu with rfl|rfl
 ·show c _ λz=>n12 w0 z.symm
 ·show⟨c2,l2,e2,s,f2,f3,f4⟩
def NC(h:PH):fG [.str "put"] h=.ok (.str "bag") h:=by
 let n1:¬ (Vg "add")=Vg "put" := by decide +kernel
 let n2:¬ (Vg "choose")=Vg "put" := by decide +kernel
 let w:(fG [.str "put"] h).W λq h'=>q=.str "bag" /\ h'=h:=by refine bA ?_;unfold kU;simp[vGd,sW,gdV,n1,n2]
 let⟨q,h',e,rfl,rfl⟩:=dY w;show e
def ND(h:PH):fG [.str "take"] h=.ok (.str "bag") h:=by
 let n1:¬ (Vg "add")=Vg "take" := by decide +kernel
 let n2:¬ (Vg "choose")=Vg "take" := by decide +kernel
 let n3:¬ (Vg "put")=Vg "take" := by decide +kernel
 let w:(fG [.str "take"] h).W λq h'=>q=.str "bag" /\ h'=h:=by refine bA ?_;unfold kU;simp[vGd,sW,gdV,n1,n2,n3]
 let⟨q,h',e,rfl,rfl⟩:=dY w;show e
def nPT:¬ (Vg "take")=Vg "put" := by decide +kernel
variable{P:B_ (Nm×Int)}{hW:PH}{lq:Nat}
def Ez{lt:Nat}(f:Q_ [t1 w0,Y4 R])(kj:a0<=c2)(tl:bB h ll=a_ kvs)(lk:kvs.length<=2)(e2:Y2 (pv (w0,2))=c_ c2)(g2:h[c2]?=a_ (.ins "Bag" [("standing",.ref s)]))(no:∀p,(w0,2)≠p->Y2 (pv p)=b_)(xx:O_ hW)(gP:hW[lq]?=a_ (.lst<|P.map rwN))(lP:P.length<=100):∃h',qH "standing" (.ref c2) (.ref lq) hW=a_ h'/\Kb a0 h h'/\FB h' a0 l lt lm lf ll [t1 w0,Y4 P]:=by
 let⟨oL,gw,_,Ut⟩:=aY tl;refine⟨_,eK (xx _ _ g2)<|by simp,?_⟩;let fr:∀(i:Nat) o,hW[i]?=a_ o->(∀fs,o≠.ins "Bag" fs)->(hW.set c2<|.ins "Bag"<|hZ "standing" (.ref lq) [("standing",.ref s)])[i]?=a_ o:=λi o e hn=>aL e (λz=>by subst z;rw[xx _ _ g2]at e;show hn _ (Vv e).symm);refine⟨⟨λi o hi e=>aL (xx _ _ e) ⋯,λi xs e=>fr _ _ (xx _ _ e) λfs z=>Zq 0⟩,⟨fr _ _ (xx _ _ f.fo) λfs z=>?_,⟨fr _ _ (xx _ _ f.ta.ins) λfs z=>?_,AS f.ta.made λo ho=>aL (xx _ _ ho) (λz=>by subst z;show iC f.ta.made g2),fr _ _ (xx _ _ f.ta.fail) λfs z=>Zq 0⟩,LV.mk2 kj (Ut _<|aL (xx _ _ gw) (λz=>by subst z;show iC tl g2)) lk e2 (aW<|xx _ _ g2) (fr _ _ gP λfs z=>Zq 0) lP no,f.ne,f.lo⟩⟩
 ·show absurd (MO.ins.inj z).1 (by decide +kernel)
 ·show absurd (MO.ins.inj z).1 (by decide +kernel)
def IG{lt:Nat}(f:Q_ [t1 w0,Y4 R])(lR:R.length<=90){d:Dd}(ok:Ok6 w0 d){a:A6}(da:D6 w0 d a)(Q:PV->PH->Prop)(k:∀u h',Kb a0 h h'->FB h' a0 l lt lm lf ll [t1 w0,Y4<|st6 R d a]->Q u h'):(cE [.ref l,dP d] h).W Q:=by
 refine bA ?_;unfold eQ;let⟨kvs,c2,s,kj,tl,lk,e2,g2,g3,g4,no⟩:=f.lv.two;let kt:aI [.ref lt,pv (w0,2)] h=.ok (.str "bag") h:=sC f.ta (nr2 w0)<|Ey w0 R;let ne:xQ (.str "bag") (.str "bag") h=.ok (.bl false) h:=by simp[xQ]
 let va:vAt (.ref ll) (pv (w0,2)) h=.ok (.ref c2) h:=tE tl rfl e2;let fs:aQ "standing" (.ref c2) h=.ok (.ref s) h:=dO g2 rfl;cases a with
 |oth=>
  let⟨_,wa,_⟩:=ok.wf;let ne:d.kd≠.other:=da;obtain⟨w,r,ea,i1,i2⟩:∃(w:Str)(r:Y6 0),d.act=.str w::r/\vIn (.str w) (.tup [.str "make",.str "move",.str "drop"]) h=.ok (.bl false) h/\rC (.str w) (.tup [.str "back",.str "settle"]) h=.ok (.bl false) h:=by
   cases hk:d.kd with
   |other=>exact(ne hk).elim
   |settle=>rw[hk]at wa;show⟨_,_,wa,(rfl),(rfl)⟩
   |back f l'=>rw[hk]at wa;show⟨_,_,wa,(rfl),(rfl)⟩
  let ew:atI d.act 0=a_ (.str w):=by rw[ea];show kE (i:=0) rfl
  rw[aD];simp[NB];rfl';rw[aD,bI];simp[ew,i1];rfl';rw[aD,bI];simp[ew,i2];rfl';simp;show Z6 (Kb.of<|Ext.refl _) f
 |put n=>
  let ed:dP d=.tup [pv d.nm,ZR 0,.tup [.str "put",pv (w0,2),.int n]]:=by unfold dP;rw[show d.act=_ from da]
  rw[aD,ed];simp;rfl';rw[aD,bI];let i1:vIn (.str "put") (.tup [.str "make",.str "move",.str "drop"]) h=.ok (.bl false) h:=(rfl);let i2:rC (.str "put") (.tup [.str "back",.str "settle"]) h=.ok (.bl true) h:=(rfl);simp[i1];rfl';rw[aD,bI];let mk:=aN "kind_of" 1 aR (aA (r_ (mV 2)<|q_ 1) aC) ([c_ l,a_<|.tup [pv d.nm,ZR 0,.tup [.str "put",pv (w0,2),.int n]],a_<|.tup [.str "put",pv (w0,2),.int n]]) h (mUn (aQ "tree")<|mV 0) aI (by simp[f.ft]) f.ta.ins (by simp[aR]) rfl;simp[i2];rw[aD,bI];simp[mk,kt,NC,ne];rfl';let mm:=aN "hear" 1 iB (aA (mV 1) aC) ([c_ l,a_<|.tup [pv d.nm,ZR 0,.tup [.str "put",pv (w0,2),.int n]],a_<|.tup [.str "put",pv (w0,2),.int n]]) h (r_ (mUn (aQ "leaves")<|mV 0)<|r_ (mV 2)<|q_ 1) fD (by simp[f.fl,va]) g2 tbB rfl;simp[mm];refine bA ?_;unfold kQ;rw[aD];simp;rfl';rw[bI];let gN:(h++[MO.lst [rwN (d.nm,n)]])[h.length]?=a_ (.lst [rwN (d.nm,n)]):=aE;let xN:O_ (h++[MO.lst [rwN (d.nm,n)]]):=F_ _;let eN:h++[MO.lst [.tup [pv d.nm,.int n]]]=h++[MO.lst [rwN (d.nm,n)]]:=rfl;simp[fs];rw[eN];let pl:=zJ (xN _ _ g3) gN (by simp;omega);generalize h.length=ln2 at pl gN;generalize h++[MO.lst [rwN (d.nm,n)]]=hV at pl gN xN;let eP:R.map rwN++[rwN (d.nm,n)]=(R++[(d.nm,n)]).map rwN:=by simp
  rw[eP]at pl;let gP:(hV++[MO.lst<|(R++[(d.nm,n)]).map rwN])[hV.length]?=a_ (.lst<|(R++[(d.nm,n)]).map rwN):=aE;let xx:=xN.trans<|Ext.app hV [MO.lst<|(R++[(d.nm,n)]).map rwN];let bs:=Ez f kj tl lk e2 g2 no xx gP (by simp;omega);let⟨h',es,kb,f'⟩:=bs;rw[VW,Vi,List.map_nil]at es pl;simp[pl];refine⟨_,es,?_⟩;rfl';simp;show Z6 kb f'
 |tak n=>
  let ed:dP d=.tup [pv d.nm,ZR 0,.tup [.str "take",pv (w0,2),.int n]]:=by unfold dP;rw[show d.act=_ from da]
  rw[aD,ed];simp;rfl';rw[aD,bI];let i1:vIn (.str "take") (.tup [.str "make",.str "move",.str "drop"]) h=.ok (.bl false) h:=(rfl);let i2:rC (.str "take") (.tup [.str "back",.str "settle"]) h=.ok (.bl true) h:=(rfl);simp[i1];rfl';rw[aD,bI];let mk:=aN "kind_of" 1 aR (aA (r_ (mV 2)<|q_ 1) aC) ([c_ l,a_<|.tup [pv d.nm,ZR 0,.tup [.str "take",pv (w0,2),.int n]],a_<|.tup [.str "take",pv (w0,2),.int n]]) h (mUn (aQ "tree")<|mV 0) aI (by simp[f.ft]) f.ta.ins (by simp[aR]) rfl;simp[i2];rw[aD,bI];simp[mk,kt,ND,ne];rfl';let mm:=aN "hear" 1 iB (aA (mV 1) aC) ([c_ l,a_<|.tup [pv d.nm,ZR 0,.tup [.str "take",pv (w0,2),.int n]],a_<|.tup [.str "take",pv (w0,2),.int n]]) h (r_ (mUn (aQ "leaves")<|mV 0)<|r_ (mV 2)<|q_ 1) fD (by simp[f.fl,va]) g2 tbB rfl;simp[mm];refine bA ?_;unfold kQ;rw[aD];simp;rfl';rw[bI];simp[nPT];let hc:=eI (m:=mUn (aQ "standing")<|mV 0) (js:=[b_,a_ 4,a_ 3]) (tg:=gN 0) (tst:=Fp (aT<|aB xQ (r_ (mV 0)<|q_ 1)<|r_ (mV 1)<|q_ 2)<|vE<|aT<|bO 2 jW<|aA (mV 2)<|aA (r_ (mV 0)<|q_ 0) aC) (elt:=mV 0) (δ:=[c_ c2,a_<|.tup [pv d.nm,ZR 0,.tup [.str "take",pv (w0,2),.int n]],a_<|pv d.nm,a_<|ZR 0,a_<|.tup [.str "take",pv (w0,2),.int n]]) (h:=h) (h1:=h) (n:=s) (ys:=R) (emb:=rwN)
   (λr=>if(decide (n=r.2)&&ZM r.1)=true then b_ else a_ (rwN r)) (by simp[fs]) g3 ⋯
   (λr hr=>⟨[a_ (rwN r),a_ (.tup [.str "take",pv (w0,2),.int n]),a_ (ZR 0)],by simp[dB],λh' _=>by
    let i0:vIx (rwN r) (.int 0) h'=.ok (pv r.1) h':=by unfold rwN;simp
    let i1:vIx (rwN r) (.int 1) h'=.ok (.int r.2) h':=by unfold rwN;simp
    let cv:jW [ZR 0,pv r.1] h'=.ok (.bl<|ZM r.1) h':=FW d.seen r.1 h';by_cases en:n=r.2
    ·cases hb:ZM r.1 <;> rw[hb]at cv <;> simp[i0,i1,cv,en,xQ]
    ·let Uy:¬ r.2=n:=λz=>en z.symm;simp[i0,i1,en,Uy,xQ]⟩)
  let ef:∀R:B_ (Nm×Int),R.filterMap (λr=>if(decide (n=r.2)&&ZM r.1)=true then b_ else a_ (rwN r))=(R.filter λr=>!(decide (n=r.2)&&ZM r.1)).map rwN:=λR=>by
   induction R with
   |nil=>rfl
   |cons r R ih=>rw[Wj,ih,WT];cases(decide (n=r.2)&&ZM r.1) <;> simp
  rw[ef]at hc;let lU:(R.filter λr=>!(decide (n=r.2)&&ZM r.1)).length<=R.length:=List.length_filter_le _ _;let kk:(∀u h',Kb a0 h h'->FB h' a0 l lt lm lf ll [t1 w0,Y4<|R.filter λr=>!(decide (n=r.2)&&ZM r.1)]->Q u h'):=k;clear k;generalize R.filter (λr=>!(decide (n=r.2)&&ZM r.1))=U at hc lU kk;let gU:(h++[MO.lst<|U.map rwN])[h.length]?=a_ (.lst<|U.map rwN):=aE;let xU:O_ (h++[MO.lst<|U.map rwN]):=F_ _;let⟨h',es,kb,f'⟩:=Ez f kj tl lk e2 g2 no xU gU ⋯;simp[hc];refine⟨_,es,?_⟩;rfl';simp;show kk _ _ kb f'
def KL{α:Type}{key:α->Zt 0}{x:α}:∀{ys:B_ α},(∀y∈ys,bK (key y) (key x)=false)->vS key x ys=x::ys
 |[],_=>rfl
 |y::ys,h=>by unfold vS;rw[h y UV];rfl
set_option tactic.hygienic true in
def wL(e:bB h n=a_ kvs):∃o,h[n]?=a_ o/\tO (a_ o)=true/\kK o=a_ (kvs.map λkv=>.tup [kv.1,kv.2]):=by
 unfold bB at e;split at e
 ·rename_i k hk;cases e;show⟨_,hk,rfl,rfl⟩
 ·rename_i hk;cases e;show⟨_,hk,rfl,rfl⟩
 ·cases e
def KM{α:Type}{key:α->Zt 0}{f:Fn}{emb:α->PV}{xs:B_ α}(e:jE x h=a_ (xs.map emb))(h1:xs.length<64)(h3:tN (xs.map key)=true)(h4:(xs.map key).Nodup)(hf:∀d∈xs,∀h(Q:PV->PH->Prop),(∀h',O_ h'->Q (tP<|key d) h')->(f [emb d] h).W Q)(k:∀h',O_ h'->Q (.ref h'.length) (h'++[.lst<|(jR key xs).map emb])):(jF f false x h).W Q:=by
 unfold jF;rw[e];dsimp only;rw[if_pos<|l_ h1];show Df (key:=key) xs [] h hf (BK h1 h3 h4) λh' hx=>k h' hx
variable{elt:Me}{g:PH->Bool}{js:B_ (C_ Nat)}{mi:Mi}{tg:Mg}
def KN(P:Nat->PV->PH->Prop)(mo:∀i v h h',O_ h'->P i v h->P i v h')(ms:∀i v h o,P i v h->P i v (h.set h1.length o))(e:mi δ h=.ok ⟨xs,g⟩ h1)(hg:∀h,Ext h1 h->g h=true)(hz:xs.length<=16777216)(step:∀i x,xs[i]?=a_ x->∃δ1,tg x (dB js δ)=a_ δ1/\∀h,Ext h1 h->h1.length<h.length->∀Q:PV->PH->Prop,(∀v h',O_ h'->P i v h'->Q v h')->(elt δ1 h).W Q)(k:∀l h'(vs:Y6 0),Ext h1 h'->h1.length<=l->vs.length=xs.length->h'[l]?=a_ (.lst vs)->(∀i v,vs[i]?=a_ v->P i v h')->Q (.ref l) h'):(bG js mi tg eY elt δ h).W Q:=by
 unfold bG;rw[e,Rs.bind_ok];refine An (λi h'=>Ext h1 h'/\∃vs:Y6 0,vs.length=i/\h'[h1.length]?=a_ (.lst vs)/\∀i v,vs[i]?=a_ v->P i v h') xs 0 _ ⟨F_ _,[],rfl,by simp,λi v hv=>by simp at hv⟩ (λi x h' _ hx hi=>?_) (λh' hi=>?_)
 ·let⟨x1,vs,lv,g1,ov⟩:=hi;let hx:xs[i]?=a_ x:=by simpa using hx
  let qh:=(SC.mp hx).1;let⟨δ1,ht,hs⟩:=step i x hx;refine⟨hg _ x1,δ1,ht,?_⟩;let hY:eY δ1 h'=.ok true h':=rfl;rw[hY,Ah,YX 0];refine hs h' x1 (SC.mp g1).1 _ λv h2 x2 pv=>?_;refine⟨_,x2 _ _ g1,⋯,(x1.trans x2).setN<|U6 _,vs++[v],by simp[lv],aW<|x2 _ _ g1,λj w hw=>?_⟩;rcases Nat.lt_trichotomy j vs.length with z|z|z
  ·rw[VT z]at hw;show ms _ _ _ _<|mo _ _ _ _ x2<|ov j w hw
  ·rw[z,Wu<|U6 _,Nat.sub_self]at hw;cases hw
   rw[z,lv];show ms _ _ _ _ pv
  ·rw[Wu ⋯]at hw;have:=(SC.mp hw).1;simp at this;omega
 ·let⟨x1,vs,lv,g1,ov⟩:=hi;rw[Nat.zero_add]at lv;show⟨hg _ x1,Z6 vs x1 (U6 _) lv g1 ov⟩
abbrev xR(t:Th):Zt 0:=[.inr t.nm.1,.inl t.nm.2]
def Q4(w0:Str)(R:B_ (Nm×Int)):jR xR [t1 w0,Y4 R]=[t1 w0,Y4 R]:=by
 change vS xR (t1 w0) (vS xR (Y4 R) [])=_
 rw[show vS xR (Y4 R) []=[Y4 R] from rfl]
 refine KL λy hy=>?_;rw[Vc.mp hy];simp[xR,t1,t2,bK,keyLt]
def Q5(w0:Str)(R:B_ (Nm×Int)):([t1 w0,Y4 R].map xR).Nodup:=by simp[xR,t1,t2]
def KO{lt:Nat}(t:q0o ([t1 w0,Y4 R].map gH))(Q:PV->PH->Prop)(k:∀l h',O_ h'->h'[l]?=a_ (.lst<|[t1 w0,Y4 R].map dZ)->Q (.ref l) h'):(iZ [.ref lt] h).W Q:=by
 let sr:=Q4 w0 R;let nd:=Q5 w0 R;let ln:[t1 w0,Y4 R].length=2:=rfl;let un:tN ([t1 w0,Y4 R].map xR)=true:=rfl;generalize [t1 w0,Y4 R]=ts at*;refine bA ?_;unfold mR;let⟨o,ho,hd,hi⟩:=wL t.made;let⟨_,_,vb,_⟩:=aY t.made;let ak:kK o=a_ (ts.map λy=>.tup [pv y.nm,eV y]):=by rw[hi,VJ];rfl
 let e0:nU bR cZ (mUn (aQ "made")<|mV 0) [c_ lt] h=.ok (.ref h.length) (h++[.vw 0 lm]):=by simp[t.fm,vb,vY ho hd]
 let d0:(h++[MO.vw 0 lm])[lm]?=a_ o:=F_ _ _ _ ho;let hc:=FL (js:=[b_,b_]) (tg:=gTp 2<|gCn (gN 0)<|gCn (gN 1) gNl) (tst:=eY) (elt:=ZH (aO<|aA (mV 0) aC)<|mV 1) (δ:=[c_ lt]) (h:=h) (ys:=ts) (emb:=λy=>.tup [pv y.nm,eV y]) (λy=>a_<|dZ y) e0 (BO aE d0 ak) (by rw[ho];show hd) d0 ⋯
  (λy hy=>⟨[a_ (pv y.nm),a_ (eV y)],by simp[dB],λh=>⟨rfl,by
   have:aS (.tup [pv y.nm]) (eV y) h=.ok (dZ y) h:=by unfold eV dZ;rw[rG<|by simp];rfl
   simp[this]⟩⟩)
 rw[filterMap_some]at hc;let x1:O_ (h++[MO.vw 0 lm]++[MO.lst<|ts.map dZ]):=(F_ _).trans<|F_ _;let g1:(h++[MO.vw 0 lm]++[MO.lst<|ts.map dZ])[(h++[MO.vw 0 lm]).length]?=a_ (.lst<|ts.map dZ):=aE;generalize (h++[MO.vw 0 lm]).length=l1 at hc g1;generalize h++[MO.vw 0 lm]++[MO.lst<|ts.map dZ]=h1 at hc g1 x1;simp[hc];refine KM (key:=xR) (vT g1) ⋯ un nd (λd hd h Q kk=>?_) λh' x'=>?_
 ·refine bA ?_;unfold mQ;have:vIx (dZ d) (.int 0) h=.ok (tP<|xR d) h:=by unfold dZ;simp;rfl
  simp[this];show kk h<|Ext.refl _
 ·rw[sr];show Z6 (x1.trans<|x'.trans<|F_ _) aE
def tcB:kX "Bag" = a_ fK:=by simp[kX]
abbrev CtN(n:Nat)(h:PH)(v:PV):Ct->Prop
 |.r=>v=.non
 |.l R=>∃s,n<s/\v=.ref s/\h[s]?=a_ (.lst<|R.map rwN)/\R.length<=100
def KQ{lt:Nat}(f:Q_ ts){t:Th}(ht:t∈ts)(hn:n<h.length)(Q:PV->PH->Prop)(k:∀u h',O_ h'->CtN n h' u t.ct->Q u h'):(bZ [.ref l,Z5 0] h).W Q:=by
 refine bA ?_;unfold cY;let⟨kvs,tl,_,b,_⟩:=f.lv;let bq:=b t ht;let hv:fR (Z5 0) (.ref ll) h=.ok (.bl (Y2<|Z5 0).isSome) h:=oQ tl rfl;cases et:t.ct with
 |r=>rw[et]at bq k;let bq:Y2 (Z5 0)=b_:=bq;rw[bq]at hv;simp[f.fl,hv];show Z6 (Ext.refl _) rfl
 |l R=>rw[et]at bq k;let⟨c,_,e,s,g,gs,lR⟩:=bq;rw[e]at hv;let va:vAt (.ref ll) (Z5 0) h=.ok (.ref c) h:=tE tl rfl e;let mm:=aN "content" 0 kX aC [c_ l,a_<|Z5 0] h (r_ (mUn (aQ "leaves")<|mV 0)<|mV 1) fK (by simp[f.fl,va]) g tcB rfl;simp[f.fl,hv,mm];refine bA ?_;unfold jI;have:aQ "standing" (.ref c) h=.ok (.ref s) h:=dO g rfl;simp[this,iD gs];show Z6 (F_ _) ⟨h.length,hn,rfl,aE,lR⟩
abbrev RwH(n:Nat)(ts:B_ Th)(i:Nat)(v:PV)(h:PH):Prop:=∃t u,ts[i]?=a_ t/\v=mW (t,u)/\CtN n h u t.ct
def CtN.ext{t:Ct}(f:CtN n h v t)(kl:∀(i:Nat) xs,n<i->h[i]?=a_ (.lst xs)->h'[i]?=a_ (.lst xs)):CtN n h' v t:=by
 cases t with
 |r=>exact f
 |l R=>let⟨s,b,a,c,l⟩:=f;show⟨s,b,a,kl _ _ b c,l⟩
def IH{lt:Nat}(t:q0o T):fX [.ref lt] h=.ok (.ref h.length) (h++[.lst []]):=by
 let w:(fX [.ref lt] h).W λq h'=>q=.ref h.length/\h'=h++[.lst []]:=by refine bA ?_;unfold mS;simp[t.ff,iD t.fail]
 let⟨q,h',e,rfl,rfl⟩:=dY w;show e
def II{lt:Nat}(f:Q_ [t1 w0,Y4 R])(Q:PV->PH->Prop)(k:∀l1 l2 s h',O_ h'->h'[l1]?=a_ (.lst [mW (t1 w0,.non),mW (Y4 R,.ref s)])->h'[s]?=a_ (.lst<|R.map rwN)->R.length<=100->h'[l2]?=a_ (.lst [])->Q (.tup [.ref l1,.ref l2]) h'):(eR [.ref l] h).W Q:=by
 refine bA ?_;unfold iR;let mr:=aN "rows" 0 uB aC [c_ l] h (mUn (aQ "tree") (mV 0)) iZ (by simp[f.ft]) f.ta.ins (by simp[uB]) rfl;let⟨_,h1,e1,l1,rfl,x1,g1⟩:=dY (KO f.ta (λu h'=>∃l,u=.ref l/\O_ h'/\h'[l]?=a_ (.lst ([t1 w0,Y4 R].map dZ))) λl h' x g=>⟨l,rfl,x,g⟩);let f1:=f.ext x1;let es:bF (bH "rows" 0 uB (mUn (aQ "tree") (mV 0)) aC) [c_ l] h=.ok ⟨[t1 w0,Y4 R].map dZ,tL l1 ([t1 w0,Y4 R].map dZ)⟩ h1:=Bs (by simp[mr,e1]) g1;let⟨_,h2,e2,lb,vs,rfl,x2,lv,g2,vn⟩:=dY (KN (js:=[b_,a_ 0]) (tg:=gN 0) (elt:=ZH (mV 0) (aO (aA (bH "content_of" 1 fM (mV 1) (aA (r_ (mV 0) (q_ 0)) aC)) aC))) (P:=RwH h1.length [t1 w0,Y4 R]) (λi u ha hb x ⟨t,w,a,b,c⟩=>⟨t,w,a,b,c.ext λi xs _ e=>x _ _ e⟩) (λi u ha o ⟨t,w,a,b,c⟩=>⟨t,w,a,b,c.ext λi xs hi e=>aL e ⋯⟩) (Q:=λu h'=>∃l vs,u=.ref l/\Ext h1 h'/\vs.length=2/\h'[l]?=a_ (.lst vs)/\∀i w,vs[i]?=a_ w->RwH h1.length [t1 w0,Y4 R] i w h') es (Bt g1) (by simp)
  (λi x hx=>by
   rw[Vk]at hx;let⟨y,hy,rfl⟩:=Vr.mp hx;refine⟨[a_<|dZ y,c_ l],by simp[dB],λh3 x3 wq Q k=>?_⟩;let f3:=f1.ext x3;let i0:vIx (dZ y) (.int 0) h3=.ok (pv y.nm) h3:=by unfold dZ;simp
   let mc:=aN "content_of" 1 fM (aA (r_ (mV 0)<|q_ 0) aC) [a_<|dZ y,c_ l] h3 (mV 1) bZ (by simp) f3.fo (by simp[fM]) rfl;simp[mc,i0];refine KQ f3 (VI hy) wq _ λc h4 x4 nc=>?_;let vp:aS (dZ y) (.tup [c]) h4=.ok (mW (y,c)) h4:=by unfold dZ mW;rw[rG<|by simp];rfl
   simp[vp];show Z6 x4 ⟨y,c,hy,rfl,nc⟩)
  λl h' vs x _ lv g p=>⟨l,vs,rfl,x,lv,g,p⟩)
 match vs,lv,g2,vn with
 |[a,b],_,g2,vn=>
  let⟨ta,ua,ea,rfl,ca⟩:=vn 0 a rfl;let⟨tb,ub,eb,rfl,cb⟩:=vn 1 b rfl;cases ea
  cases eb
  obtain rfl:ua=.non:=ca;let⟨s,_,rfl,gs,lR⟩:=cb;let f2:=f1.ext x2;let ml:=aN "lost" 0 AH aC [c_ l] h2 (mUn (aQ "tree")<|mV 0) fX (by simp[f2.ft]) f2.ta.ins (by simp[AH]) rfl;simp[e2,ml,IH f2.ta];show Z6 _ _ ((x1.trans x2).trans<|F_ _) (F_ _ _ _ g2) (F_ _ _ _ gs) lR aE
abbrev ts6(w0:Str)(f:Dd->A6)(R:B_ Dd):Nat->B_ Th
 |0=>[]
 |1=>[t1 w0]
 |q+2=>[t1 w0,Y4<|fZ f<|R.take q]
def tbF:kY "Folding" = a_ cE:=by
 let n1:¬ (Vg "Folding")=Vg "Bag" := by decide +kernel
 let n3:¬ (Vg "Folding")=Vg "Tree" := by decide +kernel
 simp[kY,n1,n3]
def KR{R:B_ Dd}(r:R6 w0 R)(ln:R.length<=50)(hf:∀d∈R,D6 w0 d<|f d)(br:eU (mk1 w0::ZP 0::R)){ld:Nat}(gr:h[lr]?=a_ (.lst []))(gx:h[lx]?=a_ (.lst []))(gd:h[ld]?=a_ (.lst<|(mk1 w0::ZP 0::R).map dP))(Q:PV->PH->Prop)(k:∀l1 l2 s h',O_ h'->h'[l1]?=a_ (.lst [mW (t1 w0,.non),mW (Y4<|fZ f R,.ref s)])->h'[s]?=a_ (.lst<|(fZ f R).map rwN)->(fZ f R).length<=100->h'[l2]?=a_ (.lst [])->Q (.tup [.ref l1,.ref l2]) h'):(Dq [.tup [.ref lr,.ref lx],.ref ld] h).W Q:=by
 let nd:=r.all_nd;refine bA ?_;unfold Dp;rw[aD,Pm];refine AO (ps:=[.tup [.ref lr,.ref lx]]) (h1:=h) (by simp) rfl ?_;let g0:(h++[MO.ins "Folding" []])[h.length]?=a_ (.ins "Folding" []):=aE;refine C4 (zs:=[]) List.nodup_nil (by simp) (F_ _) g0 (F_ _ _ _ gr) (F_ _ _ _ gx) (λz hz=>nomatch hz) λlt lm lf ll h1 x1 f1=>⟨rfl,?_⟩;rfl';rw[aD];let⟨_,h2,e2,os,lo,rfl,x2,g2,z0,mem,Uw⟩:=dY (sY (mk1 w0::ZP 0::R) r.all_wf (by simp;omega) (nP nd) ld h1 (x1 _ _ gd) (λu h'=>∃os l,u=.ref l/\Ext h1 h'/\h'[l]?=a_ (.lst<|os.map dP)/\(os.map (·.nm)).Nodup/\(∀d,d∈os↔d∈mk1 w0::ZP 0::R)/\eU os) λos l h' x g a b c=>⟨os,l,rfl,x,g,a,b,c⟩);let eo:os=mk1 w0::ZP 0::R:=wJ Uw br z0 nd (λd hd e he=>nP z0 d hd e he) mem;subst eo;refine lY (n:=lo) (xs:=(mk1 w0::ZP 0::R).map dP) (h1:=h2) (λq δ h'=>O_ h'/\Zo (ts6 w0 f R q)/\h'[lo]?=a_ (.lst<|(mk1 w0::ZP 0::R).map dP)/\∃x3,δ=[a_<|.tup [.ref lr,.ref lx],c_ ld,Zm 0,x3]) (by simp[e2]) g2 ⟨x1.trans x2,f1.ext x2,g2,_,rfl⟩ (λq δ h' _ i=>i.2.2.1) ?_ ?_
 ·rintro q y δ h' hy ⟨x,fq,gl,x3,rfl⟩;rw[Vk]at hy;let⟨d,hd,rfl⟩:=Vr.mp hy;refine⟨_,rfl,?_⟩;let mh:=aN "hear" 1 kY (aA (mV 3) aC) [a_<|.tup [.ref lr,.ref lx],c_ ld,Zm 0,a_<|dP d] h' (mV 2) cE (by simp) fq.fo tbF rfl;unfold wH;simp[mh];let fin:∀h3,Kb h.length h' h3->FB h3 h.length h.length lt lm lf ll (ts6 w0 f R<|q+1)->O_ h3/\FB h3 h.length h.length lt lm lf ll (ts6 w0 f R<|q+1)/\h3[lo]?=a_ (.lst<|(mk1 w0::ZP 0::R).map dP):=λh3 kb f3=>⟨λi o e=>kb.1 i o (SC.mp e).1<|x i o e,f3,kb.2 _ _ gl⟩
  match q,hd,fq,fin with
  |0,hd,fq,fin=>
   cases hd
   show Ew (d:=mk1 w0) (t:=t1 w0) fq (by simp[ts6]) rfl rfl (.inl rfl) (Dv fq.ta _) (FX _ _ _) (λu hu=>nomatch hu) _ λ_ h3 kb f3=>fin h3 kb f3
  |1,hd,fq,fin=>
   cases hd
   show Ew (d:=ZP 0) (t:=Y4 []) fq (by simp[ts6]) rfl rfl (.inr rfl) (FY fq.ta (sC fq.ta (nr1 w0)<|Ex w0 []) _) (IF w0 _) (λu hu=>by rw[Vc.mp hu];show n12 w0) _ λ_ h3 kb f3=>fin h3 kb f3
  |q+2,hd,fq,fin=>
   let hd:R[q]?=a_ d:=hd;let hm:=VI hd;let e1:R.take (q+1)=R.take q++[d]:=by rw[WX,hd];rfl
   let lq:=wK f<|R.take q;let lt':(R.take q).length<=50:=by rw[V7];omega
   refine IG fq ⋯ (r.ok d hm) (hf d hm) _ λ_ h3 kb f3=>?_;let e3:fZ f (R.take<|q+1)=st6 (fZ f<|R.take q) d (f d):=by rw[e1,zQ]
   refine fin h3 kb ?_
   change FB h3 h.length h.length lt lm lf ll [t1 w0,Y4<|fZ f<|R.take<|q+1]
   rw[e3];show f3
 ·rintro δ h' ⟨x,fq,gl,x3,rfl⟩;let fq:Zo [t1 w0,Y4<|fZ f R]:=by
   let e:(((mk1 w0::ZP 0::R).map dP).length)=R.length+2:=by simp
   rw[e]at fq;have:=fq
   change Zo [t1 w0,Y4<|fZ f R]
   let e2:R.take R.length=R:=Xs;have:Zo [t1 w0,Y4<|fZ f<|R.take R.length]:=this;rw[e2]at this;show this
  rfl';let mb:=aN "base" 0 AI aC [a_<|.tup [.ref lr,.ref lx],c_ ld,Zm 0,x3] h' (mV 2) eR (by simp) fq.fo (by simp[AI]) rfl;simp[mb];show II fq _ λl1 l2 s h3 x3 g3 gs lR g4=>k l1 l2 s h3 (x.trans x3) g3 gs lR g4
variable{E:FE}{body:Ms}
unseal Fl.W Rs.W in
def KS{t:Ev->PH->ZG 0}(I:Nat->Ev->PH->Prop)(step:∀m δ h,I m δ h->(t δ h).W λb h1=>if b=true then(body δ h1).W { nx:=λδ h=>∃m',m'<m/\I m' δ h,ct:=λδ h=>∃m',m'<m/\I m' δ h,rt:=E.rt,bk:=E.nx} else E.nx δ h1):
  ∀(n m:Nat),m<n->∀δ h,I m δ h->(vH n t body δ h).W E:=by
 intro n
 induction n with
 |zero=>intro m hm;show absurd hm<|Nat.not_lt_zero _
 |succ n ih=>
  intro m hm δ h hi;let hs:=step m δ h hi;unfold vH yZ;rw[D0];refine D1 hs λb h1 hb=>?_;cases b with
  |false=>simpa using hb
  |true=>
   rw[YX 0]at hb;dsimp only;cases e:body δ h1 with
   |nx δ2 h2=>rw[e]at hb;let⟨m',h3,h4⟩:=hb;show ih m' ⋯ δ2 h2 h4
   |ct δ2 h2=>rw[e]at hb;let⟨m',h3,h4⟩:=hb;show ih m' ⋯ δ2 h2 h4
   |bk δ2 h2=>rw[e]at hb;show hb
   |rt p h2=>rw[e]at hb;show hb
   |exc p h2=>rw[e]at hb;show hb
   |bad=>rw[e]at hb;show hb
def uD(e:h[n]?=a_ (.lst xs)):tru (.ref n) h=.ok (!xs.isEmpty) h:=by
 have:aM h n=a_ xs:=by simp[aM,e]
 unfold tru;simp only[this]
def KU{p:PV}(e:h[n]?=a_ (.lst<|xs++[p])):onL CY (.ref n) [] h=.ok p (ZO<|.lst xs):=by simp[onL,bV,e,CY]
def NF(I:Nat->Ev->PH->Prop)(e:ms δ h=.ok [.ref n] h1)(hn:h1[n]?=a_ (.lst xs))(h0:I 0 δ h1)(keep:∀q δ h,q<=xs.length->I q δ h->h[n]?=a_ (.lst xs))(step:∀(q:Nat) x δ h,xs.reverse[q]?=a_ x->I q δ h->∃δ1,tg x δ=a_ δ1/\(body δ1 h).W { nx:=I<|q+1,ct:=I<|q+1,rt:=E.rt,bk:=E.nx})(fin:∀δ h,I xs.length δ h->E.nx δ h):(eX (HY ms) tg body δ h).W E:=by
 let hk:∀{h:PH},h[n]?=a_ (.lst xs)->tL n xs h=true:=λ{h} e=>by
  let e3:aM h n=a_ xs:=by unfold aM;rw[e]
  unfold tL;rw[e3];show PV.beqs_self xs
 unfold eX HY;rw[e];let e2:rvI [.ref n] h1=.ok ⟨xs.reverse,tL n xs⟩ h1:=by
  let e3:aM h1 n=a_ xs:=by unfold aM;rw[hn]
  unfold rvI;simp only[e3]
 rw[Rs.bind_ok,e2,Rs.fl_ok];refine rH I _ 0 δ h1 h0 (λq x δ h _ hx hi=>?_)<|λδ h hi=>?_
 ·let de:xs.reverse[q]?=a_ x:=by simpa using hx
  have:=(SC.mp de).1;rw[Yd]at this;show⟨hk<|keep q δ h ⋯ hi,step q x δ h de hi⟩
 ·let ak:I xs.length δ h:=by simpa using hi
  show⟨hk<|keep _ δ h (U6 _) ak,fin δ h ak⟩
variable{ns:Z9 0}
def wM(e:h[n]?=a_ (.lst<|Zw 0))(hl:ns.length<64):fU (.ref n) h=.ok (.ref h.length) (h++[.lst<|(sortI<|ddI ns).map PV.int]):=by
 let e1:aM h n=a_ (Zw 0):=by simp[aM,e]
 simp only[fU,e1,zA];rw[if_pos hl]
abbrev kyW(x:PV×Nm):PV:=.tup [x.1,pv x.2]
def ok1{a:PV}{n:Nm}(h:(kyW (a,n)).ky 20=true)(hf:fk (kyW (a,n))=m)(h3:m<3):twS [kyW (a,n)]=a_ [kyW (a,n)]:=by let c:fk (kyW (a,n))<3/\(kyW (a,n)).ky 20=true:=⟨by rw[hf];show h3,h⟩;show if_pos c
def ok0:twS []=a_ []:=rfl
variable{K:B_ (PV×Nm)}{hA:PH}{l1:Nat}{x0 x1:C_ PV}
def NG(lK:K.length<=1)(ok:twS (K.map kyW)=a_ (K.map kyW))(g1:hA[l1]?=a_ (.lst<|K.map kyW))(k:∀l h',Ext hA h'->hA.length<=l->h'[l]?=a_ (.lst<|K.map λx=>pv x.2)->E.rt (.ref l) h'):(aV (bG [b_,b_] (bF<|mCB mF<|aA (mV 2) aC) (gTp 2<|gCn (gN 0)<|gCn (gN 1) gNl) eY<|mV 1) [x0,x1,c_ l1] hA).W E:=by
 let es:=FA g1 ok;let gs:(hA++[MO.lst<|K.map kyW])[hA.length]?=a_ (.lst<|K.map kyW):=aE;let xs:Ext hA (hA++[MO.lst<|K.map kyW]):=F_ _;generalize hA.length=ls at es gs;generalize hA++[MO.lst<|K.map kyW]=hC at es gs xs;let hc:=eI (m:=mCB mF<|aA (mV 2) aC) (js:=[b_,b_]) (tg:=gTp 2<|gCn (gN 0)<|gCn (gN 1) gNl) (tst:=eY) (elt:=mV 1) (δ:=[x0,x1,c_ l1]) (h:=hA) (h1:=hC) (n:=ls) (ys:=K) (emb:=kyW)
  (λx=>a_<|pv x.2) (by simp[es]) gs ⋯ (λx hx=>⟨[a_ x.1,a_<|pv x.2],by simp[dB,kyW],λh _=>⟨rfl,by simp⟩⟩)
 rw[filterMap_some]at hc;rw[Hk,hc,Ah];show Z6 (xs.trans<|F_ _) xs.len aE
abbrev nmP(t:Th):PV:=Z5 0
abbrev wiS(w0:Str)(R:B_ (Nm×Int))(p:Nm):B_ Th:=if p=root then[t1 w0] else if p=(w0,1) then[Y4 R] else[]
def wi0(w0:Str)(R:B_ (Nm×Int)):wiS w0 R root=[t1 w0]:=YX 0
def wi1(w0:Str)(R:B_ (Nm×Int)):wiS w0 R (w0,1)=[Y4 R]:=(if_neg<|nr1 w0).trans<|YX 0
def wi2(w0:Str)(R:B_ (Nm×Int)):wiS w0 R (w0,2)=[]:=(if_neg<|nr2 w0).trans<|if_neg λz=>n12 w0 z.symm
def NH(w0:Str)(R:B_ (Nm×Int))(p:Nm):(wiS w0 R p).length<=1:=by
 unfold wiS;split
 ·simp
 ·split <;> simp
abbrev xW(t:Th):PV:=kyW (t.sp,t.nm)
def NI(w0:Str)(R:B_ (Nm×Int))(p:Nm):[t1 w0,Y4 R].filterMap (λy=>if y.hd=p then a_ (xW y) else b_)=(wiS w0 R p).map xW:=by
 by_cases e0:p=root
 ·subst e0;rw[wi0];have:¬ (Y4 R).hd=root:=nr1 w0;let h1:(t1 w0).hd=root:=rfl;simp[this,h1]
 ·by_cases e1:p=(w0,1)
  ·subst e1;rw[wi1];have:¬ (t1 w0).hd=(w0,1):=λz=>e0 z.symm;let h1:(Y4 R).hd=(w0,1):=rfl;simp[this,h1]
  ·let h1:¬ (t1 w0).hd=p:=λz=>e0 z.symm;let h2:¬ (Y4 R).hd=p:=λz=>e1 z.symm;unfold wiS;simp[h1,h2,e0,e1]
def KW(xs:Y6 0)(h:PH)(hl:xs.length<=100):jU [.tup xs] h=.ok (.tup<|xs++[.tup [.int 0]]) h:=by
 let w:(jU [.tup xs] h).W λq h'=>q=.tup (xs++[.tup [.int 0]])/\h'=h:=by refine bA ?_;unfold rW;have:aS (.tup xs) (.tup [.tup [.int 0]]) h=.ok (.tup<|xs++[.tup [.int 0]]) h:=rG (by simp;omega);simp[this]
 let⟨q,h',e,rfl,rfl⟩:=dY w;show e
def zR{lt:Nat}(f:Q_ [t1 w0,Y4 R])(hp:p=root\/p=(w0,1)\/p=(w0,2))(Q:PV->PH->Prop)(k:∀l h',O_ h'->h'[l]?=a_ (.lst<|(wiS w0 R p).map nmP)->h.length<=l->Q (.ref l) h'):(dJ [.ref lt,pv p] h).W Q:=by
 refine bA ?_;unfold jG;rw[aD];let k1:∀{hA},O_ hA->aI [.ref lt,pv (w0,1)] hA=.ok (.str "row") hA:=λx=>sC (f.ta.ext x) (nr1 w0)<|Ex w0 _;let k2:∀{hA},O_ hA->aI [.ref lt,pv (w0,2)] hA=.ok (.str "bag") hA:=λx=>sC (f.ta.ext x) (nr2 w0)<|Ey w0 R;let em:=NI w0 R p;let dr:=f.ta.made;let hlen:[t1 w0,Y4 R].length=2:=rfl;generalize [t1 w0,Y4 R]=ts at em dr hlen;let⟨o,ho,hd,hi⟩:=wL dr;let⟨_,_,vb,_⟩:=aY dr;let ak:kK o=a_ (ts.map λy=>.tup [pv y.nm,eV y]):=by rw[hi,VJ];rfl
 let e0:nU bR cZ (mUn (aQ "made")<|mV 0) [c_ lt,a_<|pv p,b_] h=.ok (.ref h.length) (h++[.vw 0 lm]):=by simp[f.ta.fm,vb,vY ho hd]
 let d0:(h++[MO.vw 0 lm])[lm]?=a_ o:=F_ _ _ _ ho;let hc:=Ax (i:=2) (js:=[b_,b_,a_ 1]) (tg:=gTp 2<|gCn (gN 0)<|gCn (gN 1) gNl) (tst:=aT<|ZC (r_ (mV 1)<|q_ 1)<|mV 2) (elt:=aO<|aA (r_ (mV 1)<|q_ 2)<|aA (mV 0) aC) (δ:=[c_ lt,a_<|pv p,b_]) (h:=h) (ys:=ts) (emb:=λy=>.tup [pv y.nm,eV y]) (λy=>if y.hd=p then a_ (xW y) else b_) e0 (BO aE d0 ak) (by rw[ho];show hd) d0 ⋯
  (λy hy=>⟨[a_ (pv y.nm),a_ (eV y),a_ (pv p)],by simp[dB],λh=>by
   let r1:vIx (eV y) (.int 1) h=.ok (pv y.hd) h:=by unfold eV;simp
   let r2:vIx (eV y) (.int 2) h=.ok y.sp h:=by unfold eV;simp
   by_cases e:y.hd=p
   ·simp[r1,r2,Eu,e,xW,kyW]
   ·simp[r1,Eu,e]⟩)
 rw[em]at hc;let x1:O_ (h++[MO.vw 0 lm]++[MO.lst<|(wiS w0 R p).map xW]):=(F_ _).trans<|F_ _;let g1:(h++[MO.vw 0 lm]++[MO.lst<|(wiS w0 R p).map xW])[(h++[MO.vw 0 lm]).length]?=a_ (.lst<|(wiS w0 R p).map xW):=aE;generalize (h++[MO.vw 0 lm]).length=l1 at hc g1;generalize h++[MO.vw 0 lm]++[MO.lst<|(wiS w0 R p).map xW]=hA at hc g1 x1;let f7:(oT true (nU bR cZ<|mUn (aQ "made")<|mV 0) (aP 2<|bG [b_,b_,a_ 1] (mJ true<|nU bR cZ<|mUn (aQ "made")<|mV 0) (gTp 2<|gCn (gN 0)<|gCn (gN 1) gNl) (aT<|ZC (r_ (mV 1)<|q_ 1)<|mV 2)<|aO<|aA (r_ (mV 1)<|q_ 2)<|aA (mV 0) aC) ([PV.ref lt,pv p].map a_++XD (3 - [PV.ref lt,pv p].length) b_) h)=.nx [c_ lt,a_<|pv p,c_ l1] hA:=hc;rw[f7,Rb];clear f7 hc;rfl';let m1:=aN "kind_of" 1 aR (aA (mV 1) aC) [c_ lt,a_<|pv p,c_ l1] hA (mV 0) aI (by simp) (x1 _ _ f.ta.ins) (by simp[aR]) rfl;rw[aD,bI];let Td:=x1.len;rcases hp with rfl|rfl|rfl
 ·let eq:vEq (.str "map") (.str "row") hA=.ok (.bl false) hA:=rfl;simp[m1,sA,eq];rfl';rw[wi0]at g1 k;refine NG (K:=[(.str "list",(w0,1))]) (by simp) (ok1 (m:=1) rfl rfl nofun) g1 λl2 h2 x2 b2 g2=>?_;show Z6 (x1.trans x2) g2 ⋯
 ·let eq:vEq (.str "row") (.str "row") hA=.ok (.bl true) hA:=rfl;rw[wi1]at g1 k;let hc:=eI (m:=mV 2) (js:=[b_,b_]) (tg:=gTp 2<|gCn (gN 0)<|gCn (gN 1) gNl) (tst:=eY) (elt:=aO<|aA (bO 1 jU<|aA (mV 0) aC)<|aA (mV 1) aC) (δ:=[c_ lt,a_<|pv (w0,1),c_ l1]) (h:=hA) (h1:=hA) (n:=l1) (ys:=[Y4 R]) (emb:=xW)
   (λt=>a_<|kyW (.tup [.tup [.int 1,.str w0,.int 2,.int 0],.tup [.int 0]],(w0,2))) (by simp) g1 (by simp) (λt ht=>⟨[a_<|plc w0,a_<|pv (w0,2)],by rw[Vc.mp ht];simp[dB,xW,kyW,t2],λh3 _=>⟨rfl,by have:=KW [.tup [.int 1,.str w0,.int 2,.int 0]] h3 (by simp);simp[plc,this,kyW]⟩⟩)
  rw[filterMap_some]at hc;let x3:Ext hA (hA++[MO.lst<|[Y4 R].map λt=>kyW (.tup [.tup [.int 1,.str w0,.int 2,.int 0],.tup [.int 0]],(w0,2))]):=F_ _;let g3:(hA++[MO.lst<|[Y4 R].map λt=>kyW (.tup [.tup [.int 1,.str w0,.int 2,.int 0],.tup [.int 0]],(w0,2))])[hA.length]?=a_ (.lst<|[((.tup [.tup [.int 1,.str w0,.int 2,.int 0],.tup [.int 0]]:PV),((w0,2):Nm))].map kyW):=aE;generalize hA.length=l3 at hc g3 Td;generalize hA++[MO.lst<|[Y4 R].map λt=>kyW (.tup [.tup [.int 1,.str w0,.int 2,.int 0],.tup [.int 0]],(w0,2))]=hB at hc g3 x3;simp[m1,k1 x1,eq,hc];rfl';refine NG (K:=[((.tup [.tup [.int 1,.str w0,.int 2,.int 0],.tup [.int 0]]:PV),((w0,2):Nm))]) (by simp) (ok1 (m:=2) rfl rfl nofun) g3 λl2 h2 x2 b2 g2=>?_;have:=(x1.trans x3).len;show Z6 ((x1.trans x3).trans x2) g2 ⋯
 ·let eq:vEq (.str "bag") (.str "row") hA=.ok (.bl false) hA:=rfl;simp[m1,k2 x1,eq];rfl';rw[wi2]at g1 k;refine NG (K:=[]) (by simp) ok0 g1 λl2 h2 x2 b2 g2=>?_;show Z6 (x1.trans x2) g2 ⋯
variable{x3:C_ PV}
def wN{lt:Nat}(f:Q_ [t1 w0,Y4 R])(hp:p=root\/p=(w0,1)\/p=(w0,2))(x:O_ h'){F L:Y6 0}(gF:h'[h.length]?=a_ (.lst F))(gL:h'[h.length+1]?=a_ (.lst<|L++[pv p]))(hF:F.length<=100)(hL:L.length<=100)(k:∀h2,O_ h2->h2[h.length]?=a_ (.lst<|F++[pv p])->h2[h.length+1]?=a_ (.lst<|L++(wiS w0 R p).map nmP)->E.nx [c_ l,Zm 0,c_<|h.length+1,a_<|pv p] h2):(cB [c_ l,Zm 0,c_<|h.length+1,x3] h').W E:=by unfold cB;rw[aD];let pp:=KU gL;simp[gZ gL,pp];let x1:O_ (h'.set (h.length+1)<|.lst L):=x.setN ⋯;let g1:=aW (o':=MO.lst L) gL;let vc:(h'.set (h.length+1)<|.lst L)[h.length]?=a_ (.lst F):=aL gF ⋯;generalize h'.set (h.length+1) (.lst L)=h1 at x1 g1 vc;rfl';rw[aD];let ap:=dQ (p:=pv p) vc ⋯;simp[gZ vc,ap];let x2:O_ (h1.set h.length<|.lst<|F++[pv p]):=x1.setN ⋯;let g2:(h1.set h.length<|.lst<|F++[pv p])[h.length+1]?=a_ (.lst L):=aL g1 ⋯;let zx:=aW (o':=MO.lst<|F++[pv p]) vc;generalize h1.set h.length (.lst<|F++[pv p])=h2 at x2 g2 zx;let f2:=f.ext x2;rfl';let mw:=aN "within" 1 dU (aA (mV 3) aC) [c_ l,Zm 0,c_<|h.length+1,a_<|pv p] h2 (mUn (aQ "tree")<|mV 0) dJ (by simp[f2.ft]) f2.ta.ins (by simp[dU]) rfl;simp[gZ g2,mw];refine zR f2 hp _ λlw h3 x3 g3 b3=>?_;let lw5:=NH w0 R p;let ex:=FS (x3 _ _ g2) g3 (by rw[U5];omega);simp[ex];show k _ ((x2.trans x3).setN ⋯) (aL (x3 _ _ zx) ⋯)<|aW<|x3 _ _ g2
abbrev HS(w0:Str):Nat->Y6 0×Y6 0
 |3=>([],[]++[pv root])
 |2=>([pv root],[]++[pv (w0,1)])
 |1=>([pv root,pv (w0,1)],[]++[pv (w0,2)])
 |_=>([pv root,pv (w0,1),pv (w0,2)],[])
abbrev HI(w0:Str)(l:Nat)(h:PH)(m:Nat)(δ:Ev)(h':PH):Prop:=m<=3/\O_ h'/\h'[h.length]?=a_ (.lst (HS w0 m).1)/\h'[h.length+1]?=a_ (.lst (HS w0 m).2)/\∃x3,δ=[c_ l,Zm 0,c_<|h.length+1,x3]
def Dw{lt:Nat}(f:Q_ [t1 w0,Y4 R])(Q:PV->PH->Prop)(k:∀l h',O_ h'->h'[l]?=a_ (.lst [pv root,pv (w0,1),pv (w0,2)])->h.length<=l->Q (.ref l) h'):(cQ [.ref l] h).W Q:=by
 refine bA ?_;unfold eO;rw[aD];simp;let x0:O_ (h++[MO.lst []]):=F_ _;let g0:(h++[MO.lst []])[h.length]?=a_ (.lst []):=aE;let l0:(h++[MO.lst []]).length=h.length+1:=by simp
 generalize h++[MO.lst []]=hA at x0 g0 l0;rfl';rw[aD];simp;let x1:Ext hA (hA++[MO.lst [pv root]]):=F_ _;let g1:(hA++[MO.lst [pv root]])[hA.length]?=a_ (.lst<|[]++[pv root]):=aE;let e1:hA++[MO.lst [.tup [.str "",.int 0]]]=hA++[MO.lst [pv root]]:=rfl;rw[e1];rw[l0]at g1⊢;let gA:=x1 _ _ g0;let xA:=x0.trans x1;generalize hA++[MO.lst [pv root]]=hB at xA g1 gA;rfl';rw[aD];refine KS (HI w0 l h) ?_ 1000000 3 ⋯ _ _ ⟨U6 _,xA,gA,g1,_,rfl⟩;let w1:=wi0 w0 R;let w2:=wi1 w0 R;let w3:=wi2 w0 R;rintro m δ h' ⟨hm,x,gF,gL,x3,rfl⟩
 match m,hm,gF,gL with
 |3,_,gF,gL=>have gL:h'[h.length+1]?=a_ (.lst<|[]++[pv root]):=gL;simp[uD gL];show wN f (.inl rfl) x gF gL (by simp[HS]) (by simp) λh2 x2 a1 a2=>⟨2,⋯,⋯,x2,a1,by rw[w1]at a2;show a2,_,rfl⟩
 |2,_,gF,gL=>have gL:h'[h.length+1]?=a_ (.lst<|[]++[pv (w0,1)]):=gL;simp[uD gL];show wN f (.inr<|.inl rfl) x gF gL (by simp[HS]) (by simp) λh2 x2 a1 a2=>⟨1,⋯,⋯,x2,a1,by rw[w2]at a2;show a2,_,rfl⟩
 |1,_,gF,gL=>have gL:h'[h.length+1]?=a_ (.lst<|[]++[pv (w0,2)]):=gL;simp[uD gL];show wN f (.inr<|.inr rfl) x gF gL (by simp[HS]) (by simp) λh2 x2 a1 a2=>⟨⋯,x2,a1,by rw[w3]at a2;show a2,_,rfl⟩
 |0,_,gF,gL=>have gL:h'[h.length+1]?=a_ (.lst []):=gL;simp[uD gL];rfl';simp;show Z6 x gF<|U6 _
abbrev T2v(s:Nat):PV:=.tup [.str "bag",.ref s]
abbrev T1v(s:Nat):PV:=.tup [.str "row",.ref s]
abbrev nm6(R:B_ (Nm×Int)):Y6 0:=(sortI (ddI (R.map (·.2)))).map PV.int
abbrev rb6(w0:Str)(s:Nat):Y6 0:=[.tup [plc w0,pv (w0,2),T2v s]]
abbrev rw6(w0:Str)(s:Nat):Y6 0:=[.tup [.str "list",pv (w0,1),T1v s]]
def ttB:uA "Bag" = a_ iN:=by simp[uA]
def Q6{lt:Nat}(f:Q_ [t1 w0,Y4 R])(lR:R.length<64)(n:Nat)(Q:PV->PH->Prop)(k:∀s h',O_ h'->h'[s]?=a_ (.lst<|nm6 R)->Q (T2v s) h'):(bX [.ref l,pv (w0,2),.ref n] h).W Q:=by
 refine bA ?_;unfold cR;let mk:=aN "kind_of" 1 aR (aA (mV 1) aC) [c_ l,a_<|pv (w0,2),c_ n,b_] h (mUn (aQ "tree")<|mV 0) aI (by simp[f.ft]) f.ta.ins (by simp[aR]) rfl;let kt:aI [.ref lt,pv (w0,2)] h=.ok (.str "bag") h:=sC f.ta (nr2 w0)<|Ey w0 R;rw[aD];simp[mk,kt];rfl';let⟨kvs,c2,s,_,tl,lk,e2,g2,g3,g4,no⟩:=f.lv.two;let hs:fR (pv (w0,2)) (.ref ll) h=.ok (.bl true) h:=by have:fR (pv (w0,2)) (.ref ll) h=.ok (.bl (Y2<|pv (w0,2)).isSome) h:=oQ tl rfl;rw[this,e2];rfl
 let va:vAt (.ref ll) (pv (w0,2)) h=.ok (.ref c2) h:=tE tl rfl e2;let mf:=aN "told" 0 uA aC [c_ l,a_<|pv (w0,2),c_ n,a_<|.str "bag"] h (r_ (mUn (aQ "leaves")<|mV 0)<|mV 1) iN (by simp[f.fl,va]) g2 ttB rfl;rw[aD,bI];simp[f.fl,hs,mf];refine bA ?_;unfold pC;let hf:aQ "standing" (.ref c2) h=.ok (.ref s) h:=dO g2 rfl;simp[hf];refine bA ?_;unfold kO;let hc:=eI (m:=mV 0) (js:=[b_,b_]) (tg:=gTp 2<|gCn (gN 0)<|gCn (gN 1) gNl) (tst:=eY) (elt:=mV 1) (δ:=[c_ s]) (h:=h) (h1:=h) (n:=s) (ys:=R) (emb:=rwN)
  (λr=>d_ r.2) (by simp) g3 ⋯ (λr hr=>⟨[a_<|pv r.1,d_ r.2],by simp[dB,rwN],λh _=>⟨rfl,by simp⟩⟩)
 let ef:R.filterMap (λr=>a_<|PV.int r.2)=(R.map (·.2)).map PV.int:=by rw[filterMap_some,VJ];rfl
 rw[ef]at hc;let q1:(h++[MO.lst ((R.map (·.2)).map PV.int)])[h.length]?=a_ (.lst ((R.map (·.2)).map PV.int)):=aE;let x1:O_ (h++[MO.lst ((R.map (·.2)).map PV.int)]):=F_ _;generalize h++[MO.lst ((R.map (·.2)).map PV.int)]=hA at hc q1 x1;let hs:=wM q1<|l_ lR;simp[hc,hs];show Z6 (x1.trans<|F_ _) aE
def NJ{lt:Nat}(t:q0o T)(e:aF T (pv p)=a_ (eV r)):fV [.ref lt,pv p] h=.ok (.tup [pv r.hd,r.sp]) h:=by
 let w:(fV [.ref lt,pv p] h).W λq h'=>q=.tup [pv r.hd,r.sp]/\h'=h:=by
  refine bA ?_;unfold mL;let e1:fR (pv p) (.ref lm) h=.ok (.bl true) h:=by have:fR (pv p) (.ref lm) h=.ok (.bl (aF T<|pv p).isSome) h:=oQ t.made rfl;rw[this,e];rfl
  let e2:vAt (.ref lm) (pv p) h=.ok (eV r) h:=tE t.made rfl e;let e3:vSl (eV r) (a_ 1) b_ h=.ok (.tup [pv r.hd,r.sp]) h:=by unfold eV;rw[K0,Q2];rfl
  simp[t.fm,e1,e2,e3]
 let⟨q,h',e,rfl,rfl⟩:=dY w;show e
variable{u:PV}
def IJ{lt:Nat}(f:Q_ [t1 w0,Y4 R]){kd:Str}(hp:p=root\/p=(w0,1)\/p=(w0,2))(np:(w0,2)≠p)(kp:aI [.ref lt,pv p] h=.ok (.str kd) h){t:Th}(wi:wiS w0 R p=[t])(lt':aF ([t1 w0,Y4 R].map gH) (Z5 0)=a_ (eV t))(tn:bB h n=a_ kvs)(k1:Y2 (Z5 0)=a_ u)(Q:PV->PH->Prop)(k:∀l2 h',O_ h'->h'[l2]?=a_ (.lst [.tup [t.sp,Z5 0,u]])->Q (.tup [.str kd,.ref l2]) h'):(bX [.ref l,pv p,.ref n] h).W Q:=by
 refine bA ?_;unfold cR;let mk:=aN "kind_of" 1 aR (aA (mV 1) aC) [c_ l,a_<|pv p,c_ n,b_] h (mUn (aQ "tree")<|mV 0) aI (by simp[f.ft]) f.ta.ins (by simp[aR]) rfl;rw[aD];simp[mk,kp];rfl';let⟨T5,c2,s',_,tl,lk,e2,g2,g3,g4,no⟩:=f.lv.two;let hs:fR (pv p) (.ref ll) h=.ok (.bl false) h:=by have:fR (pv p) (.ref ll) h=.ok (.bl (aF T5<|pv p).isSome) h:=oQ tl rfl;rw[this,no p np];rfl
 rw[aD,bI];simp[f.fl,hs];rfl';let mw:=aN "within" 1 dU (aA (mV 1) aC) [c_ l,a_<|pv p,c_ n,a_<|.str kd] h (mUn (aQ "tree")<|mV 0) dJ (by simp[f.ft]) f.ta.ins (by simp[dU]) rfl;let⟨_,h1,vv,lw,rfl,x1,Tz⟩:=dY (zR f hp (λu h'=>∃l,u=.ref l/\O_ h'/\h'[l]?=a_ (.lst<|[t].map nmP)) λl h' x g _=>⟨l,rfl,x,by rw[wi]at g;show g⟩);let f1:=f.ext x1;let hc:=eI (m:=bH "within" 1 dU (mUn (aQ "tree")<|mV 0)<|aA (mV 1) aC) (js:=[b_,a_ 2,a_ 0]) (tg:=gN 0) (tst:=eY) (elt:=aO<|aA (r_ (bH "held" 1 qL (mUn (aQ "tree")<|mV 2)<|aA (mV 0) aC)<|q_ 1)<|aA (mV 0)<|aA (r_ (mV 1)<|mV 0) aC) (δ:=[c_ l,a_<|pv p,c_ n,a_<|.str kd]) (h:=h) (h1:=h1) (n:=lw) (ys:=[t]) (emb:=nmP) (λt=>a_<|.tup [t.sp,Z5 0,u]) (by simp[mw,vv]) Tz (by simp)
  (λz hz=>⟨[a_<|Z5 0,c_ n,c_ l],by rw[Vc.mp hz];simp[dB,nmP],λh2 x2=>⟨rfl,by rw[Vc.mp hz];let f2:=f1.ext x2;let mh:=aN "held" 1 qL (aA (mV 0) aC) [a_<|Z5 0,c_ n,c_ l] h2 (mUn (aQ "tree")<|mV 2) fV (by simp[f2.ft]) f2.ta.ins (by simp[qL]) rfl;let Ur:=cD (x1.trans x2) tn;let va:vAt (.ref n) (Z5 0) h2=.ok u h2:=tE Ur rfl k1;let hh:=NJ f2.ta lt';simp[mh,hh,va]⟩⟩)
 let hc:bG [b_,a_ 2,a_ 0] (bF<|bH "within" 1 dU (mUn (aQ "tree")<|mV 0)<|aA (mV 1) aC) (gN 0) eY (aO<|aA (r_ (bH "held" 1 qL (mUn (aQ "tree")<|mV 2)<|aA (mV 0) aC)<|q_ 1)<|aA (mV 0)<|aA (r_ (mV 1)<|mV 0) aC) [c_ l,a_<|pv p,c_ n,a_<|.str kd] h=.ok (.ref h1.length) (h1++[.lst [.tup [t.sp,Z5 0,u]]]):=hc;simp[hc];show Z6 (x1.trans<|F_ _) aE
abbrev TQ(w0:Str)(R:B_ (Nm×Int))(s r q:Nat)(kvs:B_ (PV×PV))(h':PH):Prop:=(1<=q->Y2 (pv (w0,2))=a_ (T2v s)/\h'[s]?=a_ (.lst<|nm6 R))/\(2<=q->Y2 (pv (w0,1))=a_ (T1v r)/\h'[r]?=a_ (.lst<|rb6 w0 s))/\(3<=q->∃l2,Y2 (pv root)=a_ (.tup [.str "map",.ref l2])/\h'[l2]?=a_ (.lst<|rw6 w0 r))
abbrev TIv(w0:Str)(R:B_ (Nm×Int))(l lh:Nat)(h:PH)(q:Nat)(δ:Ev)(h':PH):Prop:=O_ h'/\h'[lh]?=a_ (.lst [pv root,pv (w0,1),pv (w0,2)])/\(∃x2,δ=[c_ l,Zm 0,x2])/\∃kvs s r,bB h' h.length=a_ kvs/\kvs.length<=q/\TQ w0 R s r q kvs h'
def IK{lt:Nat}(f:Q_ [t1 w0,Y4 R])(lR:R.length<64)(Q:PV->PH->Prop)(k:∀l2 r s h',O_ h'->h'[l2]?=a_ (.lst<|rw6 w0 r)->h'[r]?=a_ (.lst<|rb6 w0 s)->h'[s]?=a_ (.lst<|nm6 R)->Q (.tup [.str "map",.ref l2]) h'):(cW [.ref l] h).W Q:=by
 refine bA ?_;unfold iO;rw[aD];simp;let x0:O_ (h++[MO.dK []]):=F_ _;let t0:bB (h++[MO.dK []]) h.length=a_ []:=AQ aE;let l0:(h++[MO.dK []]).length=h.length+1:=by simp
 generalize h++[MO.dK []]=hA at x0 t0 l0;let fA:=f.ext x0;rfl';rw[aD];let mh:=aN "hanging" 0 pD aC [c_ l,Zm 0,b_] hA (mV 0) cQ (by simp) fA.fo (by simp[pD]) rfl;let⟨_,h1,e1,lh,rfl,x1,g1,b1⟩:=dY<|Dw fA (λu h'=>∃l,u=.ref l/\Ext hA h'/\h'[l]?=a_ (.lst [pv root,pv (w0,1),pv (w0,2)])/\hA.length<=l) λl h' x g b=>⟨l,rfl,x,g,b⟩;refine NF (n:=lh) (xs:=[pv root,pv (w0,1),pv (w0,2)]) (h1:=h1) (TIv w0 R l lh h) (by simp[mh,e1]) g1 ⟨x0.trans x1,g1,⟨_,rfl⟩,[],0,0,cD x1 t0,by simp,⟨⋯,⋯,⋯⟩⟩ ?_ ?_ ?_
 ·rintro q δ h' hq ⟨_,g,_⟩;show g
 ·rintro q y δ h' hy ⟨x,g,⟨x2,rfl⟩,kvs,s,r,tk,lk,c1,c2,c3⟩;refine⟨_,rfl,?_⟩;let fh:=f.ext x;let⟨o,ho,_,RP⟩:=aY tk;let bo:=(SC.mp ho).1;let mt:∀p:Nm,_:=λp=>aN "telling" 2 pE (aA (mV 2)<|aA (mV 1) aC) [c_ l,Zm 0,a_<|pv p] h' (mV 0) bX (by simp) fh.fo (by simp[pE]) rfl;let fin:∀(p:Nm)(u:PV)(h2:PH)(s' r':Nat),Ext h' h2->TQ w0 R s' r' (q+1) (bM kvs (pv p) u) (h2.set h.length<|.dD<|bM kvs (pv p) u)->∃h3,fT (.ref h.length) (pv p) u h2=a_ h3/\TIv w0 R l lh h (q+1) [c_ l,Zm 0,a_<|pv p] h3:=λp u h2 s' r' x2 tq=>by let lq:q<3:=(SC.mp hy).1;let hp:fT (.ref h.length) (pv p) u h2=a_ (h2.set h.length<|.dD<|bM kvs (pv p) u):=tX (cD x2 tk) rfl ⋯;have:=Es kvs (pv p) u;show⟨_,hp,(x.trans x2).setN<|U6 _,aL (x2 _ _ g) ⋯,⟨_,rfl⟩,_,s',r',nH<|aW<|x2 _ _ ho,⋯,tq⟩
  let kl:∀{h2:PH}{i:Nat}{zs:Y6 0}{o'},Ext h' h2->h2[i]?=a_ (.lst zs)->(h2.set h.length o')[i]?=a_ (.lst zs):=λx2 e=>aL e (λz=>by rw[<-z,x2 _ _ ho]at e;cases e;show jA tk ho);unfold fC
  match q,hy,c1,c2,c3,fin with
  |0,hy,c1,c2,c3,fin=>
   cases hy
   let mt:=mt (w0,2);simp[mt];refine Q6 fh lR _ _ λs' h2 x2 gs=>?_;refine fin (w0,2) (T2v s') h2 s' 0 x2 ⟨λ_=>⟨by rw[cF,YX 0],kl x2 gs⟩,⋯,⋯⟩
  |1,hy,c1,c2,c3,fin=>
   cases hy
   let mt:=mt (w0,1);simp[mt];let⟨a1,a2⟩:=c1 ⋯;refine IJ fh (.inr<|.inl rfl) (λz=>n12 w0 z.symm) (sC fh.ta (nr1 w0)<|Ex w0 _) (wi1 w0 R) (Ey w0 R) tk a1 _ λr' h2 x2 g2=>?_;show fin (w0,1) (T1v r') h2 s r' x2 ⟨λ_=>⟨by rw[cF,if_neg<|λz=>n12 w0 (iS z).symm];show a1,kl x2<|x2 _ _ a2⟩,λ_=>⟨by rw[cF,YX 0],kl x2 g2⟩,⋯⟩
  |2,hy,c1,c2,c3,fin=>
   cases hy
   let mt:=mt root;simp[mt];let⟨a1,a2⟩:=c1 ⋯;let⟨b1,b2⟩:=c2 ⋯;refine IJ fh (.inl rfl) (nr2 w0) (sA _ _) (wi0 w0 R) (Ex w0 _) tk b1 _ λl2 h2 x2 g2=>?_;show fin root (.tup [.str "map",.ref l2]) h2 s r x2 ⟨λ_=>⟨by rw[cF,if_neg<|λz=>nr2 w0<|iS z];show a1,kl x2<|x2 _ _ a2⟩,λ_=>⟨by rw[cF,if_neg<|λz=>nr1 w0<|iS z];show b1,kl x2<|x2 _ _ b2⟩,λ_=>⟨l2,by rw[cF,YX 0],kl x2 g2⟩⟩
  |q+3,hy,_,_,_,_=>simp at hy
 ·rintro δ h' ⟨x,g,⟨x2,rfl⟩,kvs,s,r,tk,lk,c1,c2,c3⟩;let⟨l2,e2,g2⟩:=c3 (by simp);let⟨_,gs⟩:=c1 (by simp);let⟨_,gr⟩:=c2 (by simp);rfl';let va:vAt (.ref h.length) (.tup [.str "",.int 0]) h'=.ok (.tup [.str "map",.ref l2]) h':=tE tk rfl e2;simp[va];show Z6 _ _ x g2 gr gs
def ttF:nM "Folding" = a_ cW:=by
 let n1:¬ (Vg "Folding")=Vg "Bag" := by decide +kernel
 simp[nM,n1]
variable{l2:Nat}
def KY(g1:h[l1]?=a_ (.lst [mW (t1 w0,.non),mW (Y4 R,.ref s)]))(gs:h[s]?=a_ (.lst<|R.map rwN))(lR:R.length<64)(g2:h[l2]?=a_ (.lst []))(Q:PV->PH->Prop)(k:∀l2 r s h',O_ h'->h'[l2]?=a_ (.lst<|rw6 w0 r)->h'[r]?=a_ (.lst<|rb6 w0 s)->h'[s]?=a_ (.lst<|nm6 R)->Q (.tup [.str "map",.ref l2]) h'):(Do [.tup [.ref l1,.ref l2]] h).W Q:=by
 refine bA ?_;unfold Dn;let g0:(h++[MO.ins "Folding" []])[h.length]?=a_ (.ins "Folding" []):=aE;let xA:O_ (h++[MO.ins "Folding" []]):=F_ _;let⟨_,h1,e1,lt,lm,lf,ll,rfl,x1,f1⟩:=dY (AO (cn:="Folding") (n:=1) (f:=bJ) (ms:=aA (mV 0) aC) (δ:=[a_ (.tup [.ref l1,.ref l2])]) (ps:=[.tup [.ref l1,.ref l2]]) (h:=h) (h1:=h) (Q:=λu h'=>∃lt lm lf ll,u=.ref h.length/\O_ h'/\Zo [t1 w0,Y4 R]) (by simp) rfl
  (C4 (zs:=[(t1 w0,.non),(Y4 R,.ref s)]) (by simp[t1,t2]) (by simp) xA g0 (xA _ _ g1) (xA _ _ g2) (λz hz=>by
   let jj:z=(t1 w0,.non)\/z=(Y4 R,.ref s):=by simpa using hz
   rcases jj with rfl|rfl
   ·rfl
   ·show⟨s,rfl,xA _ _ gs,⋯⟩) λlt lm lf ll h1 x1 f1=>⟨rfl,lt,lm,lf,ll,rfl,x1,f1⟩))
 let mt:=aN "told" 0 nM aC [a_<|.tup [.ref l1,.ref l2]] h (mI "Folding" 1 bJ<|aA (mV 0) aC) cW e1 f1.fo ttF rfl;simp[mt,-eL];show IK f1 lR _ λl2 r s h2 x2 b2 r2 g2=>k l2 r s h2 (x1.trans x2) b2 r2 g2
def IL(h:PH):uC [] h=.ok (.tup [.ref h.length,.ref<|h.length+1]) (h++[.lst []]++[.lst []]):=by
 let w:(uC [] h).W λq h'=>q=.tup [.ref h.length,.ref<|h.length+1]/\h'=h++[.lst []]++[.lst []]:=by refine bA ?_;unfold AJ;simp
 let⟨q,h',e,rfl,rfl⟩:=dY w;show e
def Dx{ds R:B_ Dd}(nd:(ds.map (·.nm)).Nodup)(wf:∀d∈ds,Wf d)(m:∀d,d∈hl↔d∈ds)(lh:hl.length<=63)(fo:sZ ds (mk1 w0::ZP 0::R) F)(br:eU (mk1 w0::ZP 0::R))(r:R6 w0 R)(ln:R.length<=50)(hf:∀d∈R,D6 w0 d<|f d)(gn:h[n]?=a_ (.lst<|hl.map dP))(Q:PV->PH->Prop)(k:∀l2 r s h',O_ h'->h'[l2]?=a_ (.lst<|rw6 w0 r)->h'[r]?=a_ (.lst<|rb6 w0 s)->h'[s]?=a_ (.lst<|nm6<|fZ f R)->Q (.tup [.str "map",.ref l2]) h'):(nN [.ref n] h).W Q:=by
 refine bA ?_;unfold rX;let x0:O_ (h++[MO.lst []]++[MO.lst []]):=(F_ _).trans<|F_ _;let e0:=IL h;let ga:(h++[MO.lst []]++[MO.lst []])[h.length]?=a_ (.lst []):=F_ _ _ _ aE;let gb:(h++[MO.lst []]++[MO.lst []])[h.length+1]?=a_ (.lst []):=by
  have:h.length+1=(h++[MO.lst []]).length:=by simp
  rw[this];show aE
 generalize h++[MO.lst []]++[MO.lst []]=h1 at x0 e0 ga gb;let⟨_,h2,e2,lo,rfl,x2,g2⟩:=dY (tB hl (λd hd=>wf d<|(m d).mp hd) lh (λd hd e he=>nP nd d ((m d).mp hd) e<|(m e).mp he) n h1 (x0 _ _ gn) (λu h'=>∃l,u=.ref l/\Ext h1 h'/\h'[l]?=a_ (.lst<|(mk1 w0::ZP 0::R).map dP)) λout F' l h' x g mn xq=>⟨l,rfl,x,by rw[FV m nd fo mn br xq]at g;show g⟩);let⟨_,h3,e3,la,lb,s,rfl,x3,g3,gs,_,g4⟩:=dY<|KR r ln hf br (x2 _ _ ga) (x2 _ _ gb) g2 (λu h'=>∃l l2 s,u=.tup [.ref l,.ref l2]/\Ext h2 h'/\h'[l]?=a_ (.lst [mW (t1 w0,.non),mW (Y4<|fZ f R,.ref s)])/\h'[s]?=a_ (.lst<|(fZ f R).map rwN)/\(fZ f R).length<=100/\h'[l2]?=a_ (.lst [])) λl l2 s h' x a b c d=>⟨l,l2,s,rfl,x,a,b,c,d⟩;simp[e0,e2,e3];let ll:=wK f R;show KY g3 gs ⋯ g4 _ λl2 r s h4 x4 g5 g6 g7=>k l2 r s h4 ((x0.trans x2).trans<|x3.trans x4) g5 g6 g7
structure AOk(w0 w:Str)(A:B_ PV)(kd:Kd):Prop where
 wf:WfA kd A
 pl:A.all (PV.pl 37)=true
 ac:(∃v,A=[.str "put",pv (w0,2),.int v])\/(∃v,A=[.str "take",pv (w0,2),.int v])\/kd≠.other
 bk:w=w0->∀f l,kd=.back f l->3<=f
variable{hs:Zg 0}{lg lh:Nat}
def NK{xs:Z9 0}{c N a b:Int}(jq:xs.length=9)(gx:h[lx]?=a_ (.lst<|Zx 0))(gh:h[lh]?=a_ (.lst<|(w0::hs).map PV.str))(gg:h[lg]?=a_ (.lst [.int a,.int b]))(Q:PV->PH->Prop)(k:∀A kd,AOk w0 w A kd->Q (.tup A) h):(Ei [.ref lx,.int c,.tup [.str w,.int N],.ref lh,.ref lg] h).W Q:=by
 let ix:∀i:Nat,(hi:i<9)->vIx (.ref lx) (.int i) h=.ok (.int<|xs[i]'⋯) h:=λi hi=>by rw[bW gx,pI ⋯];rfl
 let i1:vIx (.ref lx) (.int 1) h=.ok (.int xs[1]) h:=ix 1 ⋯;let i2:vIx (.ref lx) (.int 2) h=.ok (.int xs[2]) h:=ix 2 ⋯;let i3:vIx (.ref lx) (.int 3) h=.ok (.int xs[3]) h:=ix 3 ⋯;let i4:vIx (.ref lx) (.int 4) h=.ok (.int xs[4]) h:=ix 4 ⋯;let ih:vIx (.ref lh) (.int 0) h=.ok (.str w0) h:=by rw[bW gh,show atI (List.map PV.str (w0::hs)) 0=a_ (.str w0) from kE (i:=0) (by simp)];rfl
 generalize xs[1]=v1 at i1;generalize xs[2]=v2 at i2;generalize xs[3]=v3 at i3;generalize xs[4]=v4 at i4;obtain⟨z2,ig⟩:∃z,vIx (.ref lg) (.int<|v2%2) h=.ok (.int z) h:=by
  rcases(show v2%2=0\/v2%2=1 by omega) with e|e
  ·rw[e,bW gg];show⟨a,rfl⟩
  ·rw[e,bW gg];show⟨b,rfl⟩
 refine bA ?_;unfold Ib;rw[aD];simp(disch:=omega) [i2];let rest:∀n:Int,Lt (aG (cA (aT (aB vLt (ZY (r_ (mV 0) (q_ 1)) (q_ 8)) (q_ 4)))
  (aV<|aO<|aA (mC<|.str "put")<|aA (aO<|aA (r_ (mV 3)<|q_ 0)<|aA (q_ 2) aC)<|aA (mV 5) aC)
  cG)
 (aG (cA (aT (aB vLt (ZY (r_ (mV 0) (q_ 1)) (q_ 8)) (q_ 6)))
  (aV<|aO<|aA (mC<|.str "take")<|aA (aO<|aA (r_ (mV 3)<|q_ 0)<|aA (q_ 2) aC)<|aA (mV 5) aC)
  cG)
 (aG (cA (aT (ZC (ZY (r_ (mV 0) (q_ 1)) (q_ 8)) (q_ 6)))
  (aG (aP 6 (mCB Bo (aA (q_ 1) (aA (aB nQ (aB nQ (r_ (mV 2) (q_ 1)) (q_ 1)) (ZY (r_ (mV 0) (q_ 2)) (q_ 4))) aC))))
  (aG (cA (aT (ZC (r_ (mV 2) (q_ 0)) (r_ (mV 3) (q_ 0))))
   (aP 6<|mCB Bo<|aA (q_ 3)<|aA (mV 6) aC)
   cG)
  (aV (aO (aA (mC (.str "back")) (aA (mV 6) (aA (ZH (mV 6) (ZY (r_ (mV 0) (q_ 4)) (q_ 4))) aC)))))))
  cG)
 (aV (aO (aA (mC (.str "settle")) aC)))))) { nx:=λ_ h=>Q .non h,rt:=Q} [c_ lx,d_ c,a_ (.tup [.str w,.int N]),c_ lh,c_ lg,d_ n,b_] h:=λn=>by
  rfl';rw[aD,bI];by_cases c1:v1%8<4
  ·simp(disch:=omega) [i1,c1,ih];show k _ .other ⟨⟨_,_,rfl,by decide +kernel,by decide +kernel⟩,rfl,.inl ⟨n,rfl⟩,λ_ f l z=>Zq 0⟩
  ·simp(disch:=omega) [i1,c1];rfl';rw[aD,bI];by_cases c2:v1%8<6
   ·simp(disch:=omega) [i1,c2,ih];show k _ .other ⟨⟨_,_,rfl,by decide +kernel,by decide +kernel⟩,rfl,.inr<|.inl ⟨n,rfl⟩,λ_ f l z=>Zq 0⟩
   ·simp(disch:=omega) [i1,c2];rfl';rw[aD,bI];by_cases c3:v1%8=6
    ·simp(disch:=omega) [i1,c3];rw[aD];simp(disch:=omega) [i2];rfl';rw[aD,bI];let es:vEq (.str w) (.str w0) h=.ok (.bl<|decide (w=w0)) h:=by
      rw[Ak rfl rfl];by_cases e:w=w0
      ·simp[e]
      ·have:¬ PV.str w=PV.str w0:=λz=>e<|PV.str.inj z;simp[e,this]
     generalize (if N-1-v2%4>1 then N-1-v2%4 else 1)=g0;by_cases c4:w=w0
     ·rw[decide_eq_true c4]at es;simp[ih,es];rfl';simp(disch:=omega) [i4];refine k _ (.back (if 3<g0 then g0 else 3) ((if 3<g0 then g0 else 3)+v4%4)) ⟨rfl,rfl,.inr<|.inr<|by simp,λ_ f l z=>?_⟩;cases z
      split <;> omega
     ·rw[decide_eq_false c4]at es;simp[ih,es];rfl';simp(disch:=omega) [i4];show k _ (.back g0<|g0+v4%4) ⟨rfl,rfl,.inr<|.inr<|by simp,λz=>(c4 z).elim⟩
    ·simp(disch:=omega) [i1,c3];rfl';simp;show k _ .settle ⟨rfl,rfl,.inr<|.inr<|by simp,λ_ f l z=>Zq 0⟩
 rfl';rw[aD,bI];by_cases c0:v3%3=0
 ·simp(disch:=omega) [i3,c0,i2,ig];show rest _
 ·simp(disch:=omega) [i3,c0];show rest _
def dM(S:Seen)(h h':Str)(n:Int):look (dput S h n) h'=if h'=h then a_ n else look S h':=by
 let e:=cF (emb S) (Wd h:Key) (.int n)<|Wd h';rw[qN,fY,fY]at e;by_cases c:h'=h
 ·rw[if_pos<|by rw[c]]at e;rw[if_pos c];cases e2:look (dput S h n) h' with
  |none=>rw[e2]at e;cases e
  |some m=>rw[e2]at e;cases e;rfl
 ·rw[if_neg<|λz=>c<|Sum.inr.inj z]at e;rw[if_neg c];cases e2:look (dput S h n) h' with
  |none=>rw[e2]at e;cases e3:look S h' with
   |none=>rfl
   |some m=>rw[e3]at e;cases e
  |some m=>rw[e2]at e;cases e3:look S h' with
   |none=>rw[e3]at e;cases e
   |some k=>rw[e3]at e;cases e;rfl
def IM{x:Str}{m:Int}(e:h[n]?=a_ (.dK<|emb S))(hl:look S x=a_ m):vIx (.ref n) (.str x) h=.ok (.int m) h:=by let e2:=fY x S;rw[hl]at e2;rw[L2.vIx_dK e,e2];rfl
abbrev prs(E:Seen)(zs:Zg 0):Seen:=(zs.filter λz=>decide (0<(look E z).getD 0)).map λz=>(z,(look E z).getD 0)
def EA{E:Seen}{p:Str×Int}:p∈prs E zs↔p.1∈zs/\p.2=(look E p.1).getD 0/\0<p.2:=by
 unfold prs;rw[Vp];constructor
 ·rintro⟨z,hz,rfl⟩;let⟨a,b⟩:=WK.mp hz;show⟨a,rfl,of_decide_eq_true b⟩
 ·rintro⟨a,b,c⟩;show⟨p.1,WK.mpr ⟨a,decide_eq_true (by rw[<-b];show c)⟩,by rw[<-b]⟩
def NL{E:Seen}(h:zs.Nodup):((prs E zs).map (·.1)).Nodup:=by
 unfold prs;rw[VJ,show((λx:Str×Int=>x.1)∘λz=>(z,(look E z).getD 0))=id from rfl,List.map_id]
 show h.sublist Ye
def NM(h:∀p∈S,0<=p.2){q:Str×Int}(hq:q∈S):q.2<=tot S:=by
 unfold tot;let nn:∀S:Seen,(∀p∈S,0<=p.2)->0<=(S.map (·.2)).sum:=λS h=>by
  induction S with
  |nil=>exact Int.le_refl _
  |cons p r ih=>rw[Vi,List.sum_cons];have:=h p UV;have:=ih λx hx=>h x (U8 _ hx);omega
 induction S with
 |nil=>cases hq
 |cons p r ih=>
  rw[Vi,List.sum_cons];let h0:=h p UV;let hr:=λx(hx:x∈r)=>h x<|U8 _ hx;rcases U9.mp hq with rfl|hq
  ·have:=nn r hr;omega
  ·have:=ih hr hq;omega
structure DN(w0:Str)(rest:B_ Dd)(D:Seen):Prop where
 r:R6 w0 rest
 h0:∃n,look D w0=some n/\2<=n
 nn:∀w,0<=(look D w).getD 0
 cnt:∀d∈rest,d.nm.2<=(look D d.nm.1).getD 0
set_option tactic.hygienic true in
def DN.snoc{rest:B_ Dd}{D:Seen}(i:DN w0 rest D){d:Dd}(ok:Ok6 w0 d)(e:d.nm.2=(look D d.nm.1).getD 0+1):DN w0 (rest++[d]) (dput D d.nm.1 d.nm.2):=by
 let⟨n,hn,n2⟩:=i.h0;refine⟨⟨λx hx=>?_,?_⟩,?_,λw=>?_,λx hx=>?_⟩
 ·rcases Vx.mp hx with z|z
  ·show i.r.ok x z
  ·rw[Vc.mp z];show ok
 ·rw[VW,Xk];refine⟨i.r.nd,by simp,λa ha b hb z=>?_⟩;let⟨x,hx,rfl⟩:=Vp.mp ha;let hb:b=d.nm:=by simpa using hb
  let e1:x.nm=d.nm:=z.trans hb;have:=i.cnt x hx;rw[e1]at this;omega
 ·rw[dM];split
  ·rename_i c;refine⟨_,rfl,?_⟩;rw[<-c,hn]at e;let e:d.nm.2=n+1:=e;omega
  ·show⟨n,hn,n2⟩
 ·rw[dM];have:=i.nn d.nm.1;split
  ·change 0<=d.nm.2
   omega
  ·show i.nn w
 ·rw[dM];have:=i.nn d.nm.1;rcases Vx.mp hx with z|z
  ·have:=i.cnt x z;split
   ·rename_i c;rw[c]at this
    change x.nm.2<=d.nm.2
    omega
   ·show this
  ·rw[Vc.mp z,YX 0];show Int.le_refl _
abbrev SE6(w0:Str)(hs:Zg 0)(n:Int)(q:Nat)(E:Seen):Prop:=look E w0=a_ n/\(∀z∈hs.take q,∃m,look E z=a_ m)/\(∀w,0<=(look E w).getD 0)/\E.length<=q+1
abbrev SJ(w0:Str)(hs:Zg 0)(n:Int)(lc lh lr lm:Nat)(h:PH)(c:Int)(lx ls:Nat)(w:Str)(x4 x9 dt:C_ PV)(q:Nat)(δ:Ev)(h':PH):Prop:=∃E x8,SE6 w0 hs n q E/\(∀i o,i≠ls->h[i]?=a_ o->h'[i]?=a_ o)/\h'[ls]?=a_ (.dK<|emb E)/\δ=[c_ lc,c_ lh,c_ lr,c_ lm,x4,d_ c,c_ lx,a_<|.str w,c_ ls,x8,x9,dt]
variable{E':FE}{dt x4 x9:C_ PV}{lc ls:Nat}
set_option tactic.hygienic true in
def KZ(i9:(w0::hs).Nodup)(lhs:hs.length<=3){D:Seen}(nn:∀w,0<=(look D w).getD 0){xs:Z9 0}(jq:xs.length=9)(bx:∀x∈xs,0<=x/\x<2147483647){c n:Int}{y8:C_ PV}(n0:0<=n)(gx:h[lx]?=a_ (.lst<|Zx 0))(gh:h[lh]?=a_ (.lst<|(w0::hs).map PV.str))(gm:h[lm]?=a_ (.dK<|emb D))(gs:h[ls]?=a_ (.dK<|emb [(w0,n)]))(nx:lx≠ls)(nh:lh≠ls)(nm:lm≠ls)(k:∀E x8 h',SE6 w0 hs n hs.length E->(∀i o,i≠ls->h[i]?=a_ o->h'[i]?=a_ o)->h'[ls]?=a_ (.dK<|emb E)->E'.nx [c_ lc,c_ lh,c_ lr,c_ lm,x4,d_ c,c_ lx,a_<|.str w,c_ ls,x8,x9,dt] h'):
  (eX (vG<|aA (q_ 1)<|aA (mCB lW<|aA (mV 1) aC) aC) (gN 9) jT [c_ lc,c_ lh,c_ lr,c_ lm,x4,d_ c,c_ lx,a_<|.str w,c_ ls,y8,x9,dt] h).W E':=by
 let ll:((w0::hs).map PV.str).length=hs.length+1:=by simp
 refine MZ (lo:=1) (j:=(hs.length:Int)+1) (SJ w0 hs n lc lh lr lm h c lx ls w x4 x9 dt) (by simp[vK gh]) ⋯ ⟨[(w0,n)],_,⟨by simp[look],by simp,λw=>?_,by simp⟩,λ_ _ _ e=>e,gs,rfl⟩ ?_ ?_
 ·simp only[look];split
  ·show n0
  ·show Int.le_refl _
 ·rintro q δ h' hq ⟨E,x8,⟨s1,s2,s3,s4⟩,fr,g,rfl⟩;let f9:q<hs.length:=⋯;let zi:=fr _ _ nx gx;let q0:=fr _ _ nh gh;let Se:=fr _ _ nm gm;let ih:vIx (.ref lh) (.int<|1+(q:Int)) h'=.ok (.str hs[q]) h':=by
   let e1:(1+(q:Int))=((q+1:Nat):Int):=⋯;rw[e1,bW q0,show atI ((w0::hs).map PV.str) ((q+1:Nat):Int)=a_ (.str hs[q]) from kE (by simp[f9])]
   rfl
  let ix:vIx (.ref lx) (.int<|5+(1+(q:Int))) h'=.ok (.int xs[6+q]) h':=by
   let e1:(5+(1+(q:Int)))=((6+q:Nat):Int):=⋯;rw[e1,bW zi,pI ⋯];rfl
  let bq:=bx xs[6+q]<|V9 _;generalize xs[6+q]=v at ix bq;let hz:hs[q]≠w0:=λz=>by have:=(Wl.mp i9).1;show this<|z▸V9 _
  let ez:hs.take (q+1)=hs.take q++[hs[q]]:=by rw[WX,VM f9];rfl
  generalize hs[q]=z at ih hz ez;let jo:=qG (x:=z) (z:=.int 0) Se;rw[fY]at jo;let ev:((look D z).map PV.int).getD (.int 0)=.int ((look D z).getD 0):=by cases look D z <;> rfl
  rw[ev]at jo;let dz:=nn z;let hp:fT (.ref ls) (.str z) (.int<|v%((look D z).getD 0+1)) h'=a_ (h'.set ls<|.dK<|emb<|dput E z<|v%((look D z).getD 0+1)):=by rw[Aw g (by unfold emb;rw[U5];omega),qN]
  let m0:=YM v (b:=(look D z).getD 0+1) ⋯;unfold jT;generalize (look D z).getD 0=dz0 at*;simp(disch:=omega) [ix,ih,mD Se,jo];refine⟨_,hp,dput E z<|v%(dz0+1),_,⟨?_,λy hy=>?_,λy=>?_,?_⟩,λi o hi e=>aL (fr i o hi e)<|Wx hi,aW g,rfl⟩
  ·rw[dM,if_neg<|Wx hz];show s1
  ·rw[dM];rw[ez]at hy;split
   ·show⟨_,rfl⟩
   ·rename_i c2;rcases Vx.mp hy with hy|hy
    ·show s2 y hy
    ·show(c2<|Vc.mp hy).elim
  ·rw[dM];split
   ·show m0
   ·show s3 y
  ·have:=AK (S:=E) (h:=z) (n:=v%(dz0+1));omega
 ·rintro δ h' ⟨E,x8,s,fr,g,rfl⟩;have:((hs.length:Int)+1-1).toNat=hs.length:=⋯;rw[this]at s;show k E _ h' s fr g
def NN(e:h[n]?=a_ (.lst<|S.map pv)):oK [.ref n] h=.ok (sv S) h:=by simp[oK,aM,e,Ik]
def IP(gj:hs≠[])(i:Int):∃w,atI (hs.map PV.str) (i%(hs.length:Int))=a_ (.str w)/\w∈hs:=by
 let⟨p,e,m⟩:=JZ (xs:=hs.map PV.str) (i:=i)<|l_ gj;let⟨w,hw,rfl⟩:=Vp.mp m;rw[U5]at e;show⟨w,e,hw⟩
abbrev DJ(w0:Str)(lc lh:Nat)(h:PH)(q:Nat)(δ:Ev)(h':PH):Prop:=∃rest D,O_ h'/\h'[h.length]?=a_ (.lst<|(mk1 w0::ZP 0::rest).map dP)/\h'[h.length+1]?=a_ (.dK<|emb D)/\DN w0 rest D/\rest.length=q/\D.length<=q+1/\∃lg a b,h.length+1<lg/\h'[lg]?=a_ (.lst [.int a,.int b])/\∃x4 x5 x6 x7 x8 x9 dt,δ=[c_ lc,c_ lh,Zm 0,c_<|h.length+1,c_ lg,x4,x5,x6,x7,x8,x9,dt]
abbrev dF:Ms:=(aG (aP 11 (mCB oK (aA (bG [b_,a_ 8] (bF (mCB mE (aA (mV 1) aC))) (gN 0) (aT (aB vGt (r_ (mV 1) (mV 0)) (q_ 0))) (aO (aA (mV 0) (aA (r_ (mV 1) (mV 0)) aC)))) aC)))
  (lI (mMt isL (onL cI) (mV 2) (aA (aO (aA (mV 10) (aA (mV 11) (aA (bO 5 Ei (aA (mV 6) (aA (mV 5) (aA (mV 10) (aA (mV 1) (aA (mV 4) aC)))))) aC)))) aC))))
abbrev dE:Ms:=(aG (gM (mMt bR mH (mV 3) (aA (mV 7) (aA (q_ 0) aC))) (mV 8) (mV 7))
  (aG (aP 10 (aO (aA (mV 7) (aA (ZH (r_ (mV 8) (mV 7)) (q_ 1)) aC))))
  (aG (gM (r_ (mV 10) (q_ 1)) (mV 3) (mV 7))
  (aG (cA (aT (ZC (ZY (r_ (mV 6) (q_ 3)) (q_ 3)) (q_ 1)))
   (aP 4<|gW<|aA (r_ (mV 4)<|q_ 1)<|aA (ZH (aB nQ (ZY (mV 5)<|aB nQ (aB Ad (q_ 2)<|aB Bm (q_ 10)<|q_ 40)<|q_ 1)<|aB Bm (q_ 10)<|q_ 40)<|q_ 1) aC)
   cG)
  dF))))
variable{ga gb:Int}{x8:C_ PV}
def Lo(lhs:hs.length<=3)(i9:(w0::hs).Nodup){q:Nat}{c N0:Int}{rest:B_ Dd}{D E1:Seen}{xs:Z9 0}(jq:xs.length=9)(j4:(look D w).getD 0=N0)(dw:0<=N0)(p9:∃m,look D w0=a_ m/\2<=m)(x2:O_ h2)(g2:h2[h.length]?=a_ (.lst<|(mk1 w0::ZP 0::rest).map dP))(rm:h2[h.length+1]?=a_ (.dK<|emb<|dput D w<|N0+1))(dn:DN w0 rest D)(lr:rest.length=q)(hq:q<=60)(lD:D.length<=q+1)(pw:h2[lx]?=a_ (.lst<|Zx 0))(ow:h2[lh]?=a_ (.lst<|(w0::hs).map PV.str))(oj:h2[ls]?=a_ (.dK<|emb E1))(e0:∃m,look E1 w0=a_ m/\2<=m)(eA:∀z∈w0::hs,∃m,look E1 z=a_ m)(bg:h.length+1<lg)(gg:h2[lg]?=a_ (.lst [.int ga,.int gb]))(k:∀δ h',DJ w0 lc lh h (q+1) δ h'->E'.nx δ h'):(dF [c_ lc,c_ lh,Zm 0,c_<|h.length+1,c_ lg,d_ c,c_ lx,a_<|.str w,c_ ls,x8,a_<|.tup [.str w,.int<|N0+1],dt] h2).W E':=by
 unfold dF;rw[aD];let⟨zs,pz,so⟩:=BF ow (by simp;omega);let lz:zs.length=hs.length+1:=by rw[pz.length_eq];rfl
 let x3:Ext h2 (h2++[MO.lst<|Z4 0]):=F_ _;let gz:(h2++[MO.lst<|Z4 0])[h2.length]?=a_ (.lst<|Z4 0):=aE;generalize h2.length=l3 at so gz;generalize h2++[MO.lst<|Z4 0]=h3 at so x3 gz;let hc:=eI (m:=mCB mE<|aA (mV 1) aC) (js:=[b_,a_ 8]) (tg:=gN 0) (tst:=aT<|aB vGt (r_ (mV 1)<|mV 0)<|q_ 0) (elt:=aO<|aA (mV 0)<|aA (r_ (mV 1)<|mV 0) aC) (δ:=[c_ lc,c_ lh,Zm 0,c_<|h.length+1,c_ lg,d_ c,c_ lx,a_<|.str w,c_ ls,x8,a_<|.tup [.str w,.int<|N0+1],dt]) (h:=h2) (h1:=h3) (n:=l3) (ys:=zs) (emb:=PV.str)
  (λz=>if 0<(look E1 z).getD 0 then a_ (pv (z,(look E1 z).getD 0)) else b_) (by simp[so]) gz ⋯
  (λz hz=>⟨[a_ (.str z),c_ ls],by simp[dB],λh4 x4=>by
   let⟨m,em⟩:=eA z<|pz.mem_iff.mp hz;let ix:=IM ((x3.trans x4) _ _ oj) em;let eg:(look E1 z).getD 0=m:=by rw[em];rfl
   rw[eg];by_cases c1:0<m
   ·simp[ix,c1,pv]
   ·simp[ix,c1]⟩)
 let ef:∀zs:Zg 0,zs.filterMap (λz=>if 0<(look E1 z).getD 0 then a_ (pv (z,(look E1 z).getD 0)) else b_)=(prs E1 zs).map pv:=λzs=>by
  induction zs with
  |nil=>rfl
  |cons z zs ih=>
   unfold prs at ih⊢;rw[Wj,ih,WT];by_cases c1:0<(look E1 z).getD 0 <;> simp[c1]
 rw[ef]at hc;let lP:(prs E1 zs).length<=100:=by unfold prs;rw[U5];have:=List.length_filter_le (λz=>decide (0<(look E1 z).getD 0)) zs;omega
 let zm:=NL (E:=E1)<|pz.nodup_iff.mpr i9;let jm:2<=tot (prs E1 zs):=by let⟨m,a,b⟩:=e0;let hm:(w0,m)∈prs E1 zs:=EA.mpr ⟨pz.mem_iff.mpr UV,by change m=(look E1 w0).getD 0;rw[a];rfl,by change 0<m;omega⟩;have:=NM (λp hp=>by have:=(EA.mp hp).2.2;omega) hm;have:m<=tot (prs E1 zs):=this;omega
 generalize prs E1 zs=S at hc lP zm jm;let x4:Ext h3 (h3++[MO.lst<|S.map pv]):=F_ _;let gS:(h3++[MO.lst<|S.map pv])[h3.length]?=a_ (.lst<|S.map pv):=aE;generalize h3.length=l5 at hc gS;generalize h3++[MO.lst<|S.map pv]=h4 at hc gS x4;simp[hc,NN gS];rfl';let m9:=x3.trans x4;let g4:=m9 _ _ g2;simp[gZ g4];refine NK jq (m9 _ _ pw) (m9 _ _ ow) (m9 _ _ gg) _ λA kd ao=>?_;let TJ:((w,N0+1):Nm).2=(look D ((w,N0+1):Nm).1).getD 0+1:=by change N0+1=(look D w).getD 0+1;rw[j4]
 let Tj:Ok6 w0 ⟨(w,N0+1),S,kd,A⟩:=by
  refine⟨⟨lP,ao.wf,ao.pl⟩,?_,jm,by change 1<=N0+1;omega,λz=>?_,zm,λz=>ao.bk z⟩
  ·rcases ao.ac with⟨v,e⟩|⟨v,e⟩|e
   ·show⟨.put v,e⟩
   ·show⟨.tak v,e⟩
   ·show⟨.oth,e⟩
  ·let z:w=w0:=z;let⟨m,a,b⟩:=p9;rw[z,a]at j4;have:m=N0:=j4
   change 3<=N0+1
   omega
 let ur:=dn.snoc Tj TJ;let ap:=dQ (p:=dP ⟨(w,N0+1),S,kd,A⟩) g4 (by simp;omega);rw[show(mk1 w0::ZP 0::rest).map dP++[dP ⟨(w,N0+1),S,kd,A⟩]=(mk1 w0::ZP 0::(rest++[(⟨(w,N0+1),S,kd,A⟩:Dd)])).map dP by simp]at ap;let Su:(rest++[(⟨(w,N0+1),S,kd,A⟩:Dd)]).length=q+1:=by simp[lr]
 let ur:DN w0 (rest++[(⟨(w,N0+1),S,kd,A⟩:Dd)]) (dput D w<|N0+1):=ur;generalize rest++[(⟨(w,N0+1),S,kd,A⟩:Dd)]=R2 at ap Su ur;let ap:onL cI (.ref h.length) [.tup [.tup [.str w,.int<|N0+1],sv S,.tup A]] h4=.ok .non (h4.set h.length<|.lst<|(mk1 w0::ZP 0::R2).map dP):=ap;let g5:=aW (o':=MO.lst<|(mk1 w0::ZP 0::R2).map dP) g4;let x5:O_ (h4.set h.length<|.lst<|(mk1 w0::ZP 0::R2).map dP):=(x2.trans m9).setN<|U6 _;let Sg:(h4.set h.length<|.lst<|(mk1 w0::ZP 0::R2).map dP)[h.length+1]?=a_ (.dK<|emb<|dput D w<|N0+1):=aL (m9 _ _ rm) ⋯;let Sv:(h4.set h.length<|.lst<|(mk1 w0::ZP 0::R2).map dP)[lg]?=a_ (.lst [.int ga,.int gb]):=aL (m9 _ _ gg) ⋯;generalize h4.set h.length (.lst<|(mk1 w0::ZP 0::R2).map dP)=h5 at ap g5 x5 Sg Sv;simp[ap];let lD2:=AK (S:=D) (h:=w) (n:=N0+1);show Z6 ⟨R2,_,x5,g5,Sg,ur,Su,⋯,lg,ga,gb,bg,Sv,_,_,_,_,_,_,_,rfl⟩
set_option tactic.hygienic true in
def Q7(lhs:hs.length<=3)(i9:(w0::hs).Nodup)(hw:w∈w0::hs){q:Nat}{c n:Int}{rest:B_ Dd}{D E:Seen}{xs:Z9 0}(jq:xs.length=9)(n2:2<=n)(x:O_ h')(g:h'[h.length]?=a_ (.lst<|(mk1 w0::ZP 0::rest).map dP))(gm:h'[h.length+1]?=a_ (.dK<|emb D))(dn:DN w0 rest D)(lr:rest.length=q)(hq:q<=60)(lD:D.length<=q+1)(gx:h'[lx]?=a_ (.lst<|Zx 0))(gh:h'[lh]?=a_ (.lst<|(w0::hs).map PV.str))(gs:h'[ls]?=a_ (.dK<|emb E))(bs:h.length+1<ls)(nx:lx≠h.length+1)(nh:lh≠h.length+1)(UZ:lx≠ls)(UW:lh≠ls)(se:SE6 w0 hs n hs.length E)(bg:h.length+1<lg)(gg:h'[lg]?=a_ (.lst [.int ga,.int gb]))(ng:lg≠ls)(k:∀δ h',DJ w0 lc lh h (q+1) δ h'->E'.nx δ h'):(dE [c_ lc,c_ lh,Zm 0,c_<|h.length+1,c_ lg,d_ c,c_ lx,a_<|.str w,c_ ls,x8,x9,dt] h').W E':=by
 let⟨s1,s2,s3,s4⟩:=se;rw[Xs]at s2;unfold dE;rw[aD];let jo:=qG (x:=w) (z:=.int 0) gm;rw[fY]at jo;let ev:((look D w).map PV.int).getD (.int 0)=.int ((look D w).getD 0):=by cases look D w <;> rfl
 rw[ev]at jo;let dw:=dn.nn w;let p9:=dn.h0;obtain⟨N0,j4⟩:∃N0,(look D w).getD 0=N0:=⟨_,rfl⟩;rw[j4]at jo dw;let hp:fT (.ref ls) (.str w) (.int N0) h'=a_ (h'.set ls<|.dK<|emb<|dput E w N0):=by rw[Aw gs (by unfold emb;rw[U5];omega),qN]
 simp[mD gm,jo];refine⟨_,hp,?_⟩
 -- what the dict says now
 let e0:∃m,look (dput E w N0) w0=a_ m/\2<=m:=by
  rw[dM];split
  ·rename_i c0;let⟨m,a,b⟩:=p9;rw[<-c0,a]at j4;show⟨_,rfl,by rw[<-j4];show b⟩
  ·show⟨n,s1,n2⟩
 let eA:∀z∈w0::hs,∃m,look (dput E w N0) z=a_ m:=λz hz=>by
  rw[dM];split
  ·show⟨_,rfl⟩
  ·rcases U9.mp hz with rfl|hz
   ·show⟨n,s1⟩
   ·show s2 z hz
 let eW:look (dput E w N0) w=a_ N0:=by rw[dM,YX 0]
 let lE:=AK (S:=E) (h:=w) (n:=N0);let vm:=aW (o':=MO.dK<|emb<|dput E w N0) gs;let x1:O_ (h'.set ls<|.dK<|emb<|dput E w N0):=x.setN ⋯;let nj:∀i o,i≠ls->h'[i]?=a_ o->(h'.set ls<|.dK<|emb<|dput E w N0)[i]?=a_ o:=λi o hi e=>aL e<|Wx hi;let g1:=nj _ _ ⋯ g;let w6:=nj _ _ ⋯ gm;let Sf:=nj _ _ UZ gx;let RY:=nj _ _ UW gh;let RR:=nj _ _ ng gg;generalize h'.set ls (.dK<|emb<|dput E w N0)=h1 at vm x1 nj g1 w6 Sf RY RR;generalize dput E w N0=E1 at e0 eA eW lE vm;clear nj hp jo gs g gm gx gh s1 s2 s3;rfl';rw[aD];simp[IM vm eW];rfl';rw[aD];let rn:fT (.ref<|h.length+1) (.str w) (.int<|N0+1) h1=a_ (h1.set (h.length+1)<|.dK<|emb<|dput D w<|N0+1):=by rw[Aw w6 (by unfold emb;rw[U5];omega),qN]
 simp;refine⟨_,rn,?_⟩;let x2:O_ (h1.set (h.length+1)<|.dK<|emb<|dput D w<|N0+1):=x1.setN ⋯;let pj:∀i o,i≠h.length+1->h1[i]?=a_ o->(h1.set (h.length+1)<|.dK<|emb<|dput D w<|N0+1)[i]?=a_ o:=λi o hi e=>aL e<|Wx hi;let g2:=pj _ _ ⋯ g1;let rm:=aW (o':=MO.dK<|emb<|dput D w<|N0+1) w6;let pw:=pj _ _ nx Sf;let ow:=pj _ _ nh RY;let oj:=pj _ _ ⋯ vm;let wm:=pj _ _ ⋯ RR;generalize h1.set (h.length+1) (.dK<|emb<|dput D w<|N0+1)=h2 at x2 pj g2 rm pw ow oj wm;rfl';rw[aD,bI];let i3:vIx (.ref lx) (.int 3) h2=.ok (.int xs[3]) h2:=by
  have:=pI (xs:=xs) (i:=3) ⋯;rw[bW pw,show atI (Zx 0) 3=a_ (.int xs[3]) from this]
  rfl
 generalize xs[3]=v3 at i3;by_cases c3:v3%3=1
 ·let ib:vIx (.ref lg) (.int 1) h2=.ok (.int gb) h2:=by rw[bW wm];rfl
  simp(disch:=omega) [i3,c3,ib];generalize c%19999999999999999999999999999999999999999-10000000000000000000000000000000000000000+1=gc;let xG:Ext h2 (h2++[MO.lst [.int gb,.int gc]]):=F_ _;let gG:(h2++[MO.lst [.int gb,.int gc]])[h2.length]?=a_ (.lst [.int gb,.int gc]):=aE;let bm:=(SC.mp oj).1;generalize hlg:h2.length=lg2 at gG bm;generalize h2++[MO.lst [.int gb,.int gc]]=h3 at xG gG;show now<|Lo lhs i9 jq j4 dw p9 (x2.trans xG) (xG _ _ g2) (xG _ _ rm) dn lr hq lD (xG _ _ pw) (xG _ _ ow) (xG _ _ oj) e0 eA ⋯ gG k
 ·simp(disch:=omega) [i3,c3];show now<|Lo lhs i9 jq j4 dw p9 x2 g2 rm dn lr hq lD pw ow oj e0 eA bg wm k
def IQ(cs:Z9 0)(qi:cs.length<=36)(w0:Str)(hs:Zg 0)(lhs:hs.length<=3)(i9:(w0::hs).Nodup)(lc lh:Nat)(h:PH)(gc:h[lc]?=a_ (.lst<|cs.map PV.int))(gh:h[lh]?=a_ (.lst<|(w0::hs).map PV.str))(Q:PV->PH->Prop)
  (k:∀rest l h',O_ h'->h'[l]?=a_ (.lst<|(mk1 w0::ZP 0::rest).map dP)->R6 w0 rest->rest.length=cs.length->Q (.ref l) h'):(AD [.ref lc,.ref lh] h).W Q:=by
 let bc:=(SC.mp gc).1;let bh:=(SC.mp gh).1;let ih:∀{h'},O_ h'->vIx (.ref lh) (.int 0) h'=.ok (.str w0) h':=λx=>by rw[bW<|x _ _ gh,show atI (List.map PV.str (w0::hs)) 0=a_ (.str w0) from kE (i:=0) (by simp)];rfl
 refine bA ?_;unfold AC;rw[aD];simp[ih<|Ext.refl _];let xA:O_ (h++[MO.lst [dP<|mk1 w0]]):=F_ _;let gA:(h++[MO.lst [dP<|mk1 w0]])[h.length]?=a_ (.lst [dP<|mk1 w0]):=aE;let lA:(h++[MO.lst [dP<|mk1 w0]]).length=h.length+1:=by simp
 let eA:h++[MO.lst [.tup [.tup [.str w0,.int 1],.tup [],.tup [.str "make",.str "row",.tup [.str "",.int 0],.str "list"]]]]=h++[MO.lst [dP<|mk1 w0]]:=rfl;rw[eA];generalize h++[MO.lst [dP<|mk1 w0]]=hA at xA gA lA;rfl';rw[aD];let ap:=dQ (p:=dP<|ZP 0) gA (by simp);let ap:onL cI (.ref h.length) [.tup [.tup [.str w0,.int 2],.tup [.tup [.str w0,.int 1]],.tup [.str "make",.str "bag",.tup [.str w0,.int 1],.tup [.tup [],.int 1]]]] hA=.ok .non (hA.set h.length<|.lst [dP<|mk1 w0,dP<|ZP 0]):=ap;let xB:O_ (hA.set h.length<|.lst [dP<|mk1 w0,dP<|ZP 0]):=xA.setN<|U6 _;let gB:=aW (o':=MO.lst [dP<|mk1 w0,dP<|ZP 0]) gA;let lB:(hA.set h.length<|.lst [dP<|mk1 w0,dP<|ZP 0]).length=h.length+1:=by rw[Wz];show lA
 generalize hA.set h.length (.lst [dP<|mk1 w0,dP<|ZP 0])=hB at ap xB gB lB;simp[gZ gA,ih xA,ap];rfl';rw[aD];let xC:Ext hB (hB++[MO.dK []]):=F_ _;let gC:(hB++[MO.dK []])[h.length+1]?=a_ (.dK []):=by rw[<-lB];show aE
 simp;rw[lB];generalize hB++[MO.dK []]=hC at xC gC;let Sk:=xB.trans xC;let pd:=Eh (z:=w0) (y:=.int 2) gC (by simp);let gD:(hC.set (h.length+1)<|.dK<|bM [] (Wd w0)<|.int 2)[h.length+1]?=a_ (.dK<|emb [(w0,2)]):=aW gC;let xD:O_ (hC.set (h.length+1)<|.dK<|bM [] (Wd w0)<|.int 2):=Sk.setN ⋯;let gR:(hC.set (h.length+1)<|.dK<|bM [] (Wd w0)<|.int 2)[h.length]?=a_ (.lst<|(mk1 w0::ZP 0::[]).map dP):=aL (xC _ _ gB) ⋯;generalize hC.set (h.length+1) (.dK<|bM [] (Wd w0)<|.int 2)=hD at pd gD xD gR;simp[ih Sk,pd];rfl';rw[aD];simp;generalize (1000000000000000000000000000000000000000:Int)=ga;generalize (-9999999999999999999999999999999999999993:Int)=gb;let xG:Ext hD (hD++[MO.lst [.int ga,.int gb]]):=F_ _;let gG:(hD++[MO.lst [.int ga,.int gb]])[hD.length]?=a_ (.lst [.int ga,.int gb]):=aE;let bD:=(SC.mp gD).1;let gD:=xG _ _ gD;let gR:=xG _ _ gR;let xD:=xD.trans xG;generalize hD.length=lg at gG bD;generalize hD++[MO.lst [.int ga,.int gb]]=hD at gD gR xD gG;rfl';rw[aD];refine lY (n:=lc) (xs:=cs.map PV.int) (h1:=hD) (DJ w0 lc lh h) (by simp) (xD _ _ gc) ⟨[],[(w0,2)],xD,gR,gD,⟨⟨(λ_ z=>Zq 0),List.nodup_nil⟩,⟨2,by simp[look],⋯⟩,λw=>?_,λ_ z=>Zq 0⟩,rfl,by simp,lg,ga,gb,⋯,gG,_,_,_,_,_,_,_,rfl⟩ ?_ ?_ ?_
 ·simp only[look];split
  ·change(0:Int)<=2
   omega
  ·show Int.le_refl _
 ·rintro q δ h' hq ⟨rest,D,x,_⟩;show x _ _ gc
 ·rintro q y δ h' hy ⟨rest,D,x,g,gm,dn,lr,lD,lg,ga,gb,bg,gg,x4,x5,x6,x7,x8,x9,dt,rfl⟩;let hq:q<cs.length:=by have:=(SC.mp hy).1;simpa using this
  rw[Vk]at hy;let⟨c,hc,rfl⟩:=Vr.mp hy;refine⟨_,rfl,?_⟩;rw[show rT=aG (aP 6<|bO 2 mK<|aA (mV 5)<|aA (q_ 9) aC) (aG (aP 7<|r_ (mV 1)<|ZY (r_ (mV 6)<|q_ 0)<|mCB lW<|aA (mV 1) aC)<|aG (aP 8<|oV (r_ (mV 1)<|q_ 0)<|ZH (q_ 2)<|ZY (r_ (mV 6)<|q_ 5)<|aB nQ (r_ (mV 3)<|r_ (mV 1)<|q_ 0)<|q_ 1)<|aG (eX (vG<|aA (q_ 1)<|aA (mCB lW<|aA (mV 1) aC) aC) (gN 9) jT) dE) from rfl]
  rw[aD];simp;refine zP c 9 ⋯ h' _ λxs lx hS xS gx jq bx=>?_
  try simp
  let xx:=x.trans xS;let q0:=xx _ _ gh;let UE:=(SC.mp gx).1;let i0:vIx (.ref lx) (.int 0) hS=.ok (.int xs[0]) hS:=by
   have:=pI (xs:=xs) (i:=0) ⋯;rw[bW gx,show atI (Zx 0) 0=a_ (.int xs[0]) from this]
   rfl
  let b0:=bx xs[0]<|V9 _;generalize xs[0]=v0 at i0 b0;let⟨w,ew,hw⟩:=IP (hs:=w0::hs) (by simp) v0;let ep:vIx (.ref lh) (.int<|v0%((w0::hs).length:Int)) hS=.ok (.str w) hS:=by rw[bW q0,ew];rfl
  let ll:lW [.ref lh] hS=.ok (.int ((w0::hs).length:Int)) hS:=by
   have:=vK q0
   rwa[U5]at this
  let ye:(0:Int)<((w0::hs).length:Int):=by rw[VN];omega
  rfl';rw[aD];generalize ((w0::hs).length:Int)=lw at ep ll ye;simp(disch:=omega) [i0,ll,ep];rfl';rw[aD];let xT:Ext hS (hS++[MO.dK []]):=F_ _;let gT:(hS++[MO.dK []])[hS.length]?=a_ (.dK []):=aE;let bS:=xx.len;let bm:=(SC.mp<|xS _ _ gm).1;simp;generalize pb:hS.length=ls at gT UE bS bm;generalize hS++[MO.dK []]=hT at xT gT;let⟨n0,TB,n02⟩:=dn.h0;let i5:vIx (.ref lx) (.int 5) hT=.ok (.int xs[5]) hT:=by
   have:=pI (xs:=xs) (i:=5) ⋯;rw[bW<|xT _ _ gx,show atI (Zx 0) 5=a_ (.int xs[5]) from this]
   rfl
  let b5:=bx xs[5]<|V9 _;generalize xs[5]=v5 at i5 b5;let im:=IM ((xS.trans xT) _ _ gm) TB;let m5:=YM v5 (b:=n0-1) ⋯;let pd:=Eh (z:=w0) (y:=.int<|2+v5%(n0-1)) gT (by simp);let gE:(hT.set ls<|.dK<|bM [] (Wd w0)<|.int<|2+v5%(n0-1))[ls]?=a_ (.dK<|emb [(w0,2+v5%(n0-1))]):=aW gT;let fr:∀i o,i≠ls->hT[i]?=a_ o->(hT.set ls<|.dK<|bM [] (Wd w0)<|.int<|2+v5%(n0-1))[i]?=a_ o:=λi o hi e=>aL e<|Wx hi;generalize hT.set ls (.dK<|bM [] (Wd w0)<|.int<|2+v5%(n0-1))=hU at pd gE fr;simp(disch:=omega) [ih<|xx.trans xT,i5,im,pd];rfl';rw[aD];let u4:=xS.trans xT;let SM:=fr _ _ ⋯ (xT _ _ gx);let So:=fr _ _ ⋯ (xT _ _ q0);let Sh:=fr _ _ ⋯ (u4 _ _ gm);let gU:=fr _ _ ⋯ (u4 _ _ g);let bgS:=(SC.mp<|xS _ _ gg).1;let UY:=fr _ _ ⋯ (u4 _ _ gg);refine KZ i9 lhs dn.nn jq bx ⋯ SM So Sh gE ⋯ ⋯ ⋯ λE x8' hV se ph gV=>?_;rfl';let xV:O_ hV:=λi o e=>ph i o (by have:=(SC.mp e).1;omega) (fr i o (by have:=(SC.mp e).1;omega)<|(x.trans u4) _ _ e);let bxh:h.length+1<lx\/lx<h.length\/lx=h.length\/lx=h.length+1:=⋯
  let Uu:lx≠h.length+1:=λz=>by rw[z,xS _ _ gm]at gx;cases gx
  show Q7 lhs i9 hw jq ⋯ xV (ph _ _ ⋯ gU) (ph _ _ ⋯ Sh) dn lr ⋯ lD (ph _ _ ⋯ SM) (ph _ _ ⋯ So) gV ⋯ Uu ⋯ ⋯ ⋯ se bg (ph _ _ ⋯ UY) ⋯ λ_ _ z=>z
 ·rintro δ h' ⟨rest,D,x,g,gm,dn,lr,lD,lg,ga,gb,bg,gg,x4,x5,x6,x7,x8,x9,dt,rfl⟩;rw[U5]at lr;rfl';simp;show k rest _ h' x g dn.r lr
abbrev d1(one:Seen):Seen:=one.foldl (λacc p=>dput acc p.1 p.2) []
def C5:∀{S:Seen}{h:Str},(∀q∈S,q.1≠h)->look S h=b_
 |[],_,_=>rfl
 |p::r,h,n=>by rw[rY,if_neg<|n p UV];show C5 λq hq=>n q (U8 _ hq)
def EB:∀(one:Seen)(acc:Seen),(one.map (·.1)).Nodup->∀h,look (one.foldl (λacc p=>dput acc p.1 p.2) acc) h=(look one h).or (look acc h)
 |[],acc,_,h=>by simp[look]
 |p::r,acc,hn,h=>by
  rw[Vi,Wl]at hn;rw[List.foldl_cons,EB r _ hn.2,dM]
  change _=(look (p::r) h).or _
  rw[rY];by_cases e:p.1=h
  ·have:look r h=b_:=C5 λq hq z=>hn.1 (by rw[e,<-z];show Vp.mpr ⟨q,hq,rfl⟩);rw[if_pos e.symm,Z_ 0,this];rfl
  ·rw[if_neg λz=>e z.symm,Zs 0]
def zS:∀S:Seen,mB (S.map λp=>PV.tup [.str p.1,.int p.2])=a_ (emb S)
 |[]=>rfl
 |p::r=>by rw[Vi];unfold mB;rw[zS r];rfl
def zT:∀(S acc:Seen),rK (emb acc) (emb S)=emb (S.foldl (λacc p=>dput acc p.1 p.2) acc)
 |[],_=>rfl
 |p::r,acc=>by
  change rK (bM (emb acc) (.inr p.1)<|.int p.2) (emb r)=_
  rw[qN,zT r];rfl
variable{nm:Nm}
def NO{d:Dd}(nS:(d.seen.map (·.1)).Nodup)(h1:1<=nm.2)(h:PH):∃h',Ej [dP d,pv nm] h=.ok (.bl<|ZM nm) h'/\O_ h':=by
 let w:(Ej [dP d,pv nm] h).W λq h'=>q=.bl (ZM nm)/\O_ h':=by
  refine bA ?_;unfold Ic;let m0:rK [] (emb d.seen)=emb (d1 d.seen):=zT d.seen [];let v0:qE [ZR 0] h=.ok (.ref h.length) (h++[.dK<|emb<|d1 d.seen]):=by have:qE [ZR 0] h=qE [ZR 0] h:=rfl;rw[this,<-m0];show BA<|zS d.seen
  let lk:∀x,look (d1 d.seen) x=look d.seen x:=λx=>by unfold d1;rw[EB d.seen _ nS];simp[look]
  let x1:O_ (h++[MO.dK<|emb<|d1 d.seen]):=F_ _;let g1:(h++[MO.dK<|emb<|d1 d.seen])[h.length]?=a_ (.dK<|emb<|d1 d.seen):=aE;let gt:=qG (x:=nm.1) (z:=.int 0) g1;rw[fY,lk]at gt;let eg:((look d.seen nm.1).map PV.int).getD (.int 0)=.int ((look d.seen nm.1).getD 0):=by cases look d.seen nm.1 <;> rfl
  rw[eg]at gt;let ev:ZM nm=decide (nm.2<=(look d.seen nm.1).getD 0):=by
   unfold cvB;cases look d.seen nm.1 with
   |none=>simp;omega
   |some m=>rfl
  generalize h.length=ln at v0 g1 gt;generalize h++[MO.dK<|emb<|d1 d.seen]=hA at v0 x1 g1 gt;simp[dP1,v0,mD g1,pv0,pv1,gt,ev];show x1
 let⟨q,h',e,rfl,x⟩:=dY w;show⟨h',e,x⟩
def Dy(hx:x.pl 40=true):∀n,eqF n x x h=a_ true
 |0=>by unfold eqF;rw[Aj hx hx];simp
 |n+1=>by unfold eqF;rw[Aj hx hx];simp
variable{a b:Nat}
def EC(g1:h[a]?=a_ (.lst xs))(g2:h[b]?=a_ (.lst xs))(hx:xs.all (PV.pl 39)=true):∀n,eqF n (.ref a) (.ref b) h=a_ true
 |0=>by unfold eqF;rw[Br g1 g2 hx hx];simp
 |n+1=>by unfold eqF;rw[Br g1 g2 hx hx];simp
def Dz(e:eqF n (.ref a) (.ref b) h=a_ true):eqF (n+1) (.tup [.str z,.ref a]) (.tup [.str z,.ref b]) h=a_ true:=by
 unfold eqF;let n2:iH (.tup [.str z,.ref a]) (.tup [.str z,.ref b]) h=b_:=by unfold iH;simp[PV.d,PV.ds,dI]
 let e1:eqF n (.str z) (.str z) h=a_ true:=Dy rfl n;rw[n2];simp[eqL,e,e1]
def L0(hy:y.pl 40=true)(dy:y.d≠b_)(e:eqF n (.tup [.str w,.ref a]) (.tup [.str w,.ref b]) h=a_ true):eqF (n+1) (.tup [y,pv p,.tup [.str w,.ref a]]) (.tup [y,pv p,.tup [.str w,.ref b]]) h=a_ true:=by
 unfold eqF;let n2:iH (.tup [y,pv p,.tup [.str w,.ref a]]) (.tup [y,pv p,.tup [.str w,.ref b]]) h=b_:=by
  unfold iH;cases hd:y.d with
  |none=>exact(dy hd).elim
  |some dd=>simp[PV.d,PV.ds,dI,hd]
 let e1:eqF n y y h=a_ true:=Dy hy n;let e2:eqF n (pv p) (pv p) h=a_ true:=Dy rfl n;rw[n2];simp[eqL,e,e1,e2]
def ED{t:Nat}(hy:y.pl 40=true)(dy:y.d≠b_)(g1:h[a]?=a_ (.lst [.tup [y,pv p,.tup [.str w,.ref s]]]))(g2:h[b]?=a_ (.lst [.tup [y,pv p,.tup [.str w,.ref t]]]))(e:eqF n (.tup [.str w,.ref s]) (.tup [.str w,.ref t]) h=a_ true):eqF (n+2) (.ref a) (.ref b) h=a_ true:=by
 let q1:dI (.ref a) h=a_ [.tup [y,pv p,.tup [.str w,.ref s]]]:=by simp[dI,aM,g1]
 let q2:dI (.ref b) h=a_ [.tup [y,pv p,.tup [.str w,.ref t]]]:=by simp[dI,aM,g2]
 let q3:PV.ds [.tup [y,pv p,.tup [.str w,.ref s]]]=b_:=by
  cases hd:y.d with
  |none=>exact(dy hd).elim
  |some dd=>simp[PV.ds,PV.d,hd]
 let n2:iH (.ref a) (.ref b) h=b_:=by unfold iH;simp only[PV.d,q1,q2,q3]
 unfold eqF;rw[n2];simp only[q1,q2];let e1:=L0 (y:=y) (p:=p) hy dy e;simp[eqL,e1]
variable{N:Z9 0}
def IR{r r' t:Nat}(g1:h[a]?=a_ (.lst<|rw6 w0 r))(g2:h[b]?=a_ (.lst<|rw6 w0 r'))(k1:h[r]?=a_ (.lst<|rb6 w0 s))(k2:h[r']?=a_ (.lst<|rb6 w0 t))(g3:h[s]?=a_ (.lst<|N.map PV.int))(g4:h[t]?=a_ (.lst<|N.map PV.int)):FT (.tup [.str "map",.ref a]) (.tup [.str "map",.ref b]) h=.ok (.bl true) h:=by
 let al:(N.map PV.int).all (PV.pl 39)=true:=by rw[Vy];intro y hy;let⟨t,_,rfl⟩:=Vp.mp hy;rfl
 let e1:=EC g3 g4 al 2;let e2:eqF 3 (T2v s) (T2v t) h=a_ true:=Dz e1;let e3:eqF 5 (.ref r) (.ref r') h=a_ true:=ED (y:=plc w0) rfl (by simp[plc,PV.d,PV.ds]) k1 k2 e2;let e4:eqF 6 (T1v r) (T1v r') h=a_ true:=Dz e3;let e5:eqF 8 (.ref a) (.ref b) h=a_ true:=ED (y:=.str "list") rfl (by simp[PV.d]) g1 g2 e4;let e6:eqF 9 (.tup [.str "map",.ref a]) (.tup [.str "map",.ref b]) h=a_ true:=Dz e5;unfold FT;rw[e6];rfl
def Q8(S:Seen):(sv S).pl 38=true:=by
 change(S.map _).all (PV.pl 37)=true
 rw[Vy];intro y hy;let⟨t,_,rfl⟩:=Vp.mp hy;rfl
def Q9{ds:B_ Dd}(w:∀d∈ds,Wf d):(Z2 0).all (PV.pl 39)=true:=by
 rw[Vy];intro y hy;let⟨d,hd,rfl⟩:=Vp.mp hy;let hp:(PV.tup d.act).pl 38=true:=(w d hd).pl
 show[pv d.nm,ZR 0,.tup d.act].all (PV.pl 38)=true
 let h1:(pv d.nm).pl 38=true:=rfl;simp[h1,Q8,hp]
abbrev f2(w0:Str)(f:Dd->A6)(d:Dd):A6:=if d.nm=(w0,1)\/d.nm=(w0,2) then .oth else f d
abbrev D7(w0:Str)(d:Dd):A6->Prop
 |.put v=>d.act=[.str "put",pv (w0,2),.int v]
 |.tak v=>d.act=[.str "take",pv (w0,2),.int v]
 |.oth=>∃z r,d.act=.str z::r/\z≠"put" /\ z≠"take"
def Qa{R:B_ Dd}(r:R6 w0 R):∀d∈R,f2 w0 f d=f d:=λd hd=>by
 refine if_neg ?_;have:=(r.ok d hd).h0;rintro(e|e)
 ·rw[e]at this;have:=this rfl;dsimp only at this;omega
 ·rw[e]at this;have:=this rfl;dsimp only at this;omega
def Qb{R:B_ Dd}(r:R6 w0 R)(hf:∀d∈R,D6 w0 d<|f d):∀d∈mk1 w0::ZP 0::R,D7 w0 d (f2 w0 f d):=λd hd=>by
 rcases U9.mp hd with rfl|hd
 ·rw[show f2 w0 f (mk1 w0)=.oth from if_pos (.inl rfl)]
  show⟨_,_,rfl,by decide +kernel,by decide +kernel⟩
 ·rcases U9.mp hd with rfl|hd
  ·rw[show f2 w0 f (ZP 0)=.oth from if_pos (.inr rfl)]
   show⟨_,_,rfl,by decide +kernel,by decide +kernel⟩
  ·rw[Qa r d hd];let h1:=hf d hd;cases e:f d with
   |put v=>rw[e]at h1;show h1
   |tak v=>rw[e]at h1;show h1
   |oth=>
    rw[e]at h1;let h2:=(r.ok d hd).wf.act;let h1:d.kd≠.other:=h1;cases ek:d.kd with
    |other=>exact(h1 ek).elim
    |settle=>rw[ek]at h2;show⟨_,_,h2,by decide +kernel,by decide +kernel⟩
    |back a b=>rw[ek]at h2;show⟨_,_,h2,by decide +kernel,by decide +kernel⟩
def Qc{α:Type}{xs:B_ α}{q:Nat}(h:q<xs.length):eE xs (a_<|(q:Int)+1) b_=xs.drop (q+1):=by
 unfold eE HT.sIx;have:¬ ((q:Int)+1<0):=⋯;simp[this];let e1:((q:Int)+1).toNat=q+1:=⋯;let e2:min (q+1) xs.length=q+1:=⋯
 try simp[e1,e2]
 rw[Xq<|by simp]
def nPt:¬ (Vg "put")=Vg "take" := by decide +kernel
variable{C:B_ Dd}
def IS(uw:∀d∈C,D7 w0 d<|f d)(nS:∀d∈C,(d.seen.map (·.1)).Nodup){c:Dd}{v:Int}(fc:f c=.put v)(ac:c.act=[.str "put",pv (w0,2),.int v])(h1:1<=c.nm.2)(gn:h[n]?=a_ (.lst<|C.map dP)):∃h',tZ [dP c,.ref n] h=.ok (.bl<|C.any λe=>tk7 f c e) h'/\O_ h':=by
 let w:(tZ [dP c,.ref n] h).W λq h'=>q=.bl (C.any λe=>tk7 f c e)/\O_ h':=by
  refine bA ?_;unfold AF;rw[aD];refine lY (n:=n) (xs:=C.map dP) (h1:=h) (λq δ h'=>O_ h'/\(C.take q).any (λe=>tk7 f c e)=false/\∃x2,δ=[a_<|dP c,c_ n,x2]) (by simp) gn ⟨Ext.refl _,rfl,_,rfl⟩ (λq δ h' _ i=>i.1 _ _ gn) ?_ ?_
  ·rintro q y δ h' hy ⟨x,hn,x2,rfl⟩;rw[Vk]at hy;let⟨e,he,rfl⟩:=Vr.mp hy;refine⟨_,rfl,?_⟩;let hm:=VI he;let d7:=uw e hm;let et:C.take (q+1)=C.take q++[e]:=by rw[WX,he];rfl
   let yes:tk7 f c e=true->C.any (λe=>tk7 f c e)=true:=λz=>List.any_eq_true.mpr ⟨e,hm,z⟩;let no:tk7 f c e=false->(C.take<|q+1).any (λe=>tk7 f c e)=false:=λz=>by rw[et,List.any_append,hn];simp[z]
   let⟨h2,eh,xh⟩:=NO (nS e hm) h1 h';unfold rV;rw[bI];cases ef:f e with
   |oth=>
    rw[ef]at d7;let⟨z,r,e1,n1,n2⟩:=d7;let nt:tk7 f c e=false:=by unfold tk7;rw[ef];rfl
    simp[dP2,e1,n2];show⟨x,by have:=no nt;simpa using this⟩
   |put u=>
    rw[ef]at d7;let e1:e.act=_:=d7;let nt:tk7 f c e=false:=by unfold tk7;rw[ef];rfl
    simp[dP2,e1,nPt];show⟨x,by have:=no nt;simpa using this⟩
   |tak u=>
    rw[ef]at d7;let e1:e.act=_:=d7;let yf:tk7 f c e=(decide (u=v)&&cvB e.seen c.nm):=by unfold tk7;rw[ef,fc];rfl
    by_cases eu:u=v
    ·cases hb:cvB e.seen c.nm with
     |true=>rw[hb]at eh;have:=yes (by rw[yf,hb];simp[eu]);simp[dP2,dP0,e1,ac,eu,eh];show⟨l_ this,x.trans xh⟩
     |false=>rw[hb]at eh;have:=no (by rw[yf,hb];simp);simp[dP2,dP0,e1,ac,eu,eh];show⟨x.trans xh,l_ this⟩
    ·have:=no (by rw[yf];simp[eu]);simp[dP2,dP0,e1,ac,eu];show⟨x,l_ this⟩
  ·rintro δ h' ⟨x,hn,x2,rfl⟩;rw[U5,Xs]at hn;rfl';rw[hn];simp;show x
 let⟨q,h',e,rfl,x⟩:=dY w;show⟨h',e,x⟩
variable{l4:Nat}
def IT(uw:∀d∈C,D7 w0 d<|f d)(nS:∀d∈C,(d.seen.map (·.1)).Nodup)(n1:∀d∈C,1<=d.nm.2)(ln:C.length<=63){q:Nat}{S:Z9 0}(x:Ext h0 h)(g4:h0[l4]?=a_ (.lst<|C.map dP))(g5:h[h0.length]?=a_ (.lst<|S.map PV.int))(lS:S.length<=q){c:Dd}(hc:C[q]?=a_ c){x2 x7 z6:C_ PV}(k:∀h',Ext h0 h'->h'[h0.length]?=a_ (.lst<|(S++if ok7 f c (C.drop<|q+1)=true then[vC<|f c] else[]).map PV.int)->E.nx [x0,x1,x2,x3,c_ l4,c_ h0.length,d_ q,x7,x8,x9,dt,z6] h'):
  (qM [x0,x1,x2,x3,c_ l4,c_ h0.length,d_ q,x7,x8,x9,dt,z6] h).W E:=by
 let hq:q<C.length:=(SC.mp hc).1;let z8:c∈C:=VI hc;let ac:=uw c z8;let ic:∀{h'},Ext h0 h'->vIx (.ref l4) (.int (q:Int)) h'=.ok (dP c) h':=λx=>by rw[bW<|x _ _ g4,show atI (C.map dP) (q:Int)=a_ (dP c) from kE (i:=q) (by rw[Vk,hc];rfl)];rfl
 let TN:=x _ _ g4;unfold qM;rw[bI];cases ef:f c with
 |oth=>
  rw[ef]at ac;let⟨z,r,e1,n1,n2⟩:=ac;let nt:ok7 f c (C.drop<|q+1)=false:=by unfold ok7;rw[ef];rfl
  simp[ic x,dP2,e1,n1];refine k _ x ?_;rw[nt,if_neg Vj,Wy];show g5
 |tak u=>
  rw[ef]at ac;let e1:c.act=_:=ac;let nt:ok7 f c (C.drop<|q+1)=false:=by unfold ok7;rw[ef];rfl
  simp[ic x,dP2,e1,nPT];refine k _ x ?_;rw[nt,if_neg Vj,Wy];show g5
 |put v=>
  rw[ef]at ac;let e1:c.act=_:=ac;let es:=tV (lo:=a_<|(q:Int)+1) (hi:=b_) TN;rw[E5,Qc hq]at es;let gs:(h++[MO.lst<|(C.drop<|q+1).map dP])[h.length]?=a_ (.lst<|(C.drop<|q+1).map dP):=aE;let xs:O_ (h++[MO.lst<|(C.drop<|q+1).map dP]):=F_ _;generalize h.length=ls at es gs;generalize h++[MO.lst<|(C.drop<|q+1).map dP]=hs at es gs xs;let⟨hT,eT,xT⟩:=IS (λd hd=>uw d<|List.mem_of_mem_drop hd) (λd hd=>nS d<|List.mem_of_mem_drop hd) ef e1 (n1 c z8) gs;let xx:=xs.trans xT;let ek:ok7 f c (C.drop<|q+1)=!((C.drop<|q+1).any λe=>tk7 f c e):=by unfold ok7;rw[ef];rfl
  rw[ek]at k;let xo:=x.trans xx;let ux:=xx _ _ g5;cases hb:(C.drop<|q+1).any λe=>tk7 f c e with
  |true=>rw[hb]at eT k;simp[ic x,dP2,e1,es,eT];refine k _ xo ?_;rw[if_neg<|by simp,Wy];show ux
  |false=>rw[hb]at eT k;let ap:=dQ (p:=.int v) ux (by rw[U5];omega);simp[ic x,dP2,e1,es,eT,gZ ux,ic xo,ap];refine k _ (xo.setN<|U6 _) ?_;rw[if_pos<|by simp,VW,ef];show aW ux
abbrev lE6:Ms:=
 (aG (aP 8 (mCB jP (aA (mV 7) aC)))
 (aG (aP 9 (bO 1 nN (aA (mV 7) aC)))
 (aG (aP 10 (aO (aA (aO (aA (q_ 1) (aA (r_ (mV 2) (q_ 0)) (aA (q_ 2) (aA (q_ 0) aC))))) aC)))
 (aG (aP 11 (aO (aA (mV 10) (aA (aO (aA (r_ (mV 2) (q_ 0)) (aA (q_ 2) aC))) (aA (aO (aA (mC (.str "bag")) (aA (mUn fU (mV 5)) aC))) aC)))))
 (aV (yY (aB FT (mV 9) (aO (aA (mC (.str "map")) (aA (gW (aA (aO (aA (mC (.str "list")) (aA (aO (aA (r_ (mV 2) (q_ 0)) (aA (q_ 1) aC))) (aA (aO (aA (mC (.str "row")) (aA (gW (aA (mV 11) aC)) aC))) aC)))) aC)) aC)))) (aB FP (mV 7) (mV 8))))))))
def IU{ds R:B_ Dd}(nd:(ds.map (·.nm)).Nodup)(wf:∀d∈ds,Wf d)(m:∀d,d∈hl↔d∈ds)(lh:hl.length<=63)(fo:sZ ds (mk1 w0::ZP 0::R) F)(br:eU (mk1 w0::ZP 0::R))(r:R6 w0 R)(ln:R.length<=50)(hf:∀d∈R,D6 w0 d<|f d){l5 l7:Nat}(g2:h[l2]?=a_ (.lst<|(w0::hs).map PV.str))(g5:h[l5]?=a_ (.lst (((fZ f R).map (·.2)).map PV.int)))(g7:h[l7]?=a_ (.lst<|hl.map dP)){x6:C_ PV}(k:∀h,E.rt (.bl true) h):(lE6 [x0,x1,c_ l2,x3,x4,c_ l5,x6,c_ l7,b_,b_,b_,b_] h).W E:=by
 let ll:=wK f R;let ih:∀{h'},O_ h'->vIx (.ref l2) (.int 0) h'=.ok (.str w0) h':=λx=>by rw[bW<|x _ _ g2,show atI (List.map PV.str (w0::hs)) 0=a_ (.str w0) from kE (i:=0) (by simp)];rfl
 unfold lE6;rw[aD];let ev:=iD g7;let xA:O_ (h++[MO.lst<|hl.map dP]):=F_ _;let gA:(h++[MO.lst<|hl.map dP])[h.length]?=a_ (.lst<|hl.map dP):=aE;generalize h.length=l8 at ev gA;generalize h++[MO.lst<|hl.map dP]=hA at ev xA gA;simp[ev];rfl';rw[aD];simp;refine Dx nd wf m lh fo br r ln hf (xA _ _ g7) _ λla lr s hB xB gm gr gs=>?_
 try simp
 let rj:=xA.trans xB;rfl';rw[aD];simp[ih rj];rfl';rw[aD];let es:=wM (rj _ _ g5) (by rw[U5];omega);let xC:Ext hB (hB++[MO.lst ((sortI (ddI ((fZ f R).map (·.2)))).map PV.int)]):=F_ _;let gC:(hB++[MO.lst ((sortI (ddI ((fZ f R).map (·.2)))).map PV.int)])[hB.length]?=a_ (.lst ((sortI (ddI ((fZ f R).map (·.2)))).map PV.int)):=aE;generalize hB.length=lc at es gC;generalize hB++[MO.lst ((sortI (ddI ((fZ f R).map (·.2)))).map PV.int)]=hC at es xC gC;simp[ih rj,es];rfl';let xD:Ext hC (hC++[MO.lst<|rb6 w0 lc]):=F_ _;let gD:(hC++[MO.lst<|rb6 w0 lc])[hC.length]?=a_ (.lst<|rb6 w0 lc):=aE;let lD:(hC++[MO.lst<|rb6 w0 lc]).length=hC.length+1:=by simp
 let eD:hC++[MO.lst [.tup [.tup [.tup [.int 1,.str w0,.int 2,.int 0]],.tup [.str w0,.int 2],.tup [.str "bag",.ref lc]]],MO.lst [.tup [.str "list",.tup [.str w0,.int 1],.tup [.str "row",.ref hC.length]]]]=(hC++[MO.lst<|rb6 w0 lc])++[MO.lst<|rw6 w0 hC.length]:=(XS _ [_] [_]).symm;simp[ih<|rj.trans xC];rw[eD];generalize hC.length=ld at gD lD;generalize hC++[MO.lst<|rb6 w0 lc]=hD at xD gD lD;let xE:Ext hD (hD++[MO.lst<|rw6 w0 ld]):=F_ _;let gE:(hD++[MO.lst<|rw6 w0 ld])[ld+1]?=a_ (.lst<|rw6 w0 ld):=by rw[<-lD];show aE
 let ti:=(xC.trans xD).trans xE;let e1:=IR (ti _ _ gm) gE (ti _ _ gr) (xE _ _ gD) (ti _ _ gs)<|(xD.trans xE) _ _ gC;let e2:FP (.ref l7) (.ref l8) (hD++[MO.lst<|rw6 w0 ld])=.ok (.bl true) (hD++[MO.lst<|rw6 w0 ld]):=by unfold FP;rw[EC ((rj.trans ti) _ _ g7) ((xB.trans ti) _ _ gA)<|Q9 λd hd=>wf d<|(m d).mp hd];rfl
 simp[e1,e2];show k _
abbrev lM6:Ms:=
 (aG (aP 5 (gW aC))
 (aG (eX (lX (aA (mCB lW (aA (mV 4) aC)) aC)) (gN 6) qM)
 (aG (aP 7 (mCB jP (aA (mV 3) aC)))
 (aG (cA (aT (ZC (ZY (aB CT (mV 1) (q_ 72)) (q_ 2)) (q_ 1)))
  (aP 7<|ZH (mUn sU<|mV 3)<|mSl (mV 3) jO<|mP<|q_ 4)
  cG)
 lE6))))
def Qd{α:Type}{xs:B_ α}:eE xs b_ (a_ 4)=xs.take 4:=by
 unfold eE HT.sIx;simp
 try omega
abbrev G6(f:Dd->A6)(C:B_ Dd)(g:Dd->Int)(i:Nat):Z7 0:=match C[i]? with|some c=>if ok7 f c (C.drop<|i+1)=true then a_ (g c) else b_|none=>b_
def NP{ds R:B_ Dd}(nd:(ds.map (·.nm)).Nodup)(wf:∀d∈ds,Wf d)(ld:ds.length<=38)(fo:sZ ds (mk1 w0::ZP 0::R) F)(br:eU (mk1 w0::ZP 0::R))(r:R6 w0 R)(ln:R.length<=38){l3:Nat}{c:Int}(g2:h[l2]?=a_ (.lst<|(w0::hs).map PV.str))(g3:h[l3]?=a_ (.lst<|Z2 0))(g4:h[l4]?=a_ (.lst<|(mk1 w0::ZP 0::R).map dP))(k:∀h,E.rt (.bl true) h):(lM6 [x0,d_ c,c_ l2,c_ l3,c_ l4,b_,b_,b_,b_,b_,b_,b_] h).W E:=by
 let⟨f0,hf⟩:=Q3 r;let d7:=Qb r hf;let hg:∀d∈R,D6 w0 d (f2 w0 f0 d):=λd hd=>by rw[Qa r d hd];show hf d hd
 let o1:f2 w0 f0 (mk1 w0)=.oth:=if_pos<|.inl rfl;let o2:f2 w0 f0 (ZP 0)=.oth:=if_pos<|.inr rfl;generalize f2 w0 f0=f at d7 hg o1 o2;let eS:sel f (mk1 w0::ZP 0::R)=sel f R:=by rw[mU,mU,if_neg (by unfold ok7;rw[o1];simp[isP]),if_neg (by unfold ok7;rw[o2];simp[isP])]
 let eN:(sel f (mk1 w0::ZP 0::R)).map (λd=>vC<|f d)=(fZ f R).map (·.2):=by rw[eS,C2,VJ];rfl
 let nS:∀d∈mk1 w0::ZP 0::R,(d.seen.map (·.1)).Nodup:=λd hd=>by
  rcases U9.mp hd with rfl|hd
  ·simp[mk1]
  ·rcases U9.mp hd with rfl|hd
   ·simp[mk2]
   ·show(r.ok d hd).sn
 let n1:∀d∈mk1 w0::ZP 0::R,1<=d.nm.2:=λd hd=>by
  rcases U9.mp hd with rfl|hd
  ·show Int.le_refl _
  ·rcases U9.mp hd with rfl|hd
   ·change(1:Int)<=2
    omega
   ·show(r.ok d hd).nm
 let lC:(mk1 w0::ZP 0::R).length<=63:=by simp;omega
 generalize mk1 w0::ZP 0::R=C at g4 d7 eN nS n1 lC;unfold lM6;rw[aD];simp;let gC:(h++[MO.lst []])[h.length]?=a_ (.lst<|(((Vm 0).filterMap<|G6 f C λd=>vC<|f d)).map PV.int):=aE;let xC:O_ (h++[MO.lst []]):=F_ _;generalize h++[MO.lst []]=hC at gC xC;rfl';rw[aD];let zd:=vK<|xC _ _ g4;rw[U5]at zd;refine Hn (j:=(C.length:Int)) (λq δ h'=>O_ h'/\h'[h.length]?=a_ (.lst<|(((Vm q).filterMap<|G6 f C λd=>vC<|f d)).map PV.int)/\∃x6,δ=[x0,d_ c,c_ l2,c_ l3,c_ l4,Zm 0,x6,b_,b_,b_,b_,b_]) ?_ ⋯ ⟨xC,gC,_,rfl⟩ ?_ ?_
 ·simp[zd]
 ·rintro q δ h' hq ⟨x,g,x8,rfl⟩;let f9:q<C.length:=⋯;refine IT d7 nS n1 lC x g4 g (VS (List.length_filterMap_le _ _)<|by simp) (VM f9) λh2 x2 g2=>⟨x2,?_,_,rfl⟩;rw[List.range_succ,List.filterMap_append];have:List.filterMap (G6 f C λd=>vC<|f d) [q]=if ok7 f C[q] (C.drop<|q+1)=true then[vC<|f C[q]] else[]:=by
   rw[Wj,List.filterMap_nil];unfold G6;rw[VM f9];dsimp only;by_cases hb:ok7 f C[q] (C.drop<|q+1)=true
   ·rw[if_pos hb,if_pos hb]
   ·rw[if_neg hb,if_neg hb]
  rw[this];show g2
 ·rintro δ h' ⟨x,g,x6,rfl⟩;rfl';let sr:(Vm C.length).filterMap (G6 f C λd=>vC<|f d)=(sel f C).map λd=>vC (f d):=Er f _ C;rw[Xl,sr,eN]at g;let g2:=x _ _ g2;let g3:=x _ _ g3;generalize h.length=l5 at g;clear zd gC;rw[aD];let ev:=iD g3;let x9:Ext h' (h'++[MO.lst<|Z2 0]):=F_ _;let g9:(h'++[MO.lst<|Z2 0])[h'.length]?=a_ (.lst<|Z2 0):=aE;generalize h'.length=l9 at ev g9;generalize h'++[MO.lst<|Z2 0]=hF at ev x9 g9;simp[ev];let g7:=x9 _ _ g;let gh:=x9 _ _ g2;let gd:=x9 _ _ g3;rfl';rw[aD,bI];by_cases cc:c/72%2=1
  ·let e1:=FH gd;let g5:(hF++[MO.lst (Z2 0).reverse])[hF.length]?=a_ (.lst (Z2 0).reverse):=aE;let x5:Ext hF (hF++[MO.lst (Z2 0).reverse]):=F_ _;generalize hF.length=l5 at e1 g5;generalize hF++[MO.lst (Z2 0).reverse]=hG at e1 g5 x5;let e2:=tV (lo:=b_) (hi:=a_ 4)<|x5 _ _ gd;rw[Qd]at e2;let g6:(hG++[MO.lst<|(Z2 0).take 4])[hG.length]?=a_ (.lst<|(Z2 0).take 4):=aE;let x6:Ext hG (hG++[MO.lst<|(Z2 0).take 4]):=F_ _;generalize hG.length=l6 at e2 g6;generalize hG++[MO.lst<|(Z2 0).take 4]=hH at e2 g6 x6;let e3:=zJ (x6 _ _ g5) g6 (by simp;omega);let ee:(Z2 0).reverse++(Z2 0).take 4=(ds.reverse++ds.take 4).map dP:=by rw[VW,List.map_reverse,Yc]
   rw[ee]at e3;let mm:∀d,d∈ds.reverse++ds.take 4↔d∈ds:=λd=>by rw[Vx,List.mem_reverse];show⟨λz=>z.elim id List.mem_of_mem_take,.inl⟩
   let ll:(ds.reverse++ds.take 4).length<=63:=by simp;omega
   generalize ds.reverse++ds.take 4=cw at e3 mm ll;let xw:(hH++[MO.lst<|cw.map dP])[hH.length]?=a_ (.lst<|cw.map dP):=aE;let x7:=(x5.trans x6).trans<|Ext.app hH [MO.lst<|cw.map dP];generalize hH.length=l10 at e3 xw;generalize hH++[MO.lst<|cw.map dP]=hI at e3 xw x7;simp(disch:=omega) [cc,e1,e2,e3];show now<|IU nd wf mm ll fo br r ⋯ hg (x7 _ _ gh) (x7 _ _ g7) xw k
  ·simp(disch:=omega) [cc];show now<|IU nd wf (λ_=>Iff.rfl) ⋯ fo br r ⋯ hg gh g7 g9 k
def main(ns:Z9 0)(hl:ns.length<=63):∃h,Ig [.fl<|Zw 0] []=.ok (.bl true) h:=by
 let w:(Ig [.fl<|Zw 0] []).W λp _=>p=.bl true:=by
  refine bA ?_;unfold Ie;rw[aD];let c0:=Ku ns 0;simp only[Int.cast_ofNat_Int]at c0;simp(disch:=omega) [c0];generalize cell ns 0=c at c0;obtain⟨m,em⟩:∃m:Nat,2+c/24%3=(m:Int):=⟨(2+c/24%3).toNat,⋯⟩;let hm:2<=m/\m<=4:=⋯;rfl';rw[aD];simp(disch:=omega) [em];refine Iz c m ⋯ _ _ λhs lh hA gh lhs i9=>?_
  try simp
  obtain⟨w0,hs,rfl⟩:∃a r,hs=a::r:=by
   cases hs with
   |nil=>simp at lhs;omega
   |cons a r=>exact⟨a,r,rfl⟩
  rw[VN]at lhs;rfl';rw[aD];simp[E5];let gc:(hA++[MO.lst<|(eE ns (a_ 1)<|a_ 37).map PV.int])[hA.length]?=a_ (.lst<|(eE ns (a_ 1)<|a_ 37).map PV.int):=aE;let xC:Ext hA (hA++[MO.lst<|(eE ns (a_ 1)<|a_ 37).map PV.int]):=F_ _;let qu:(eE ns (a_ 1)<|a_ 37).length<=36:=by simp[eE,HT.sIx];omega
  generalize hA.length=lc at gc;generalize hA++[MO.lst<|(eE ns (a_ 1)<|a_ 37).map PV.int]=hC at gc xC;generalize eE ns (a_ 1) (a_ 37)=cs at gc qu;refine IQ cs qu w0 hs ⋯ i9 lc lh hC gc (xC _ _ gh) _ λrest ld hE xE ge r lr=>?_
  try simp
  let nd:=r.all_nd;let wf:=r.all_wf;let Ue:(mk1 w0::ZP 0::rest).length<=38:=by simp;omega
  rfl';rw[aD];simp;refine tB (mk1 w0::ZP 0::rest) wf ⋯ (nP nd) ld hE ge _ λout F l4 hF xF g4 fo br=>?_
  try simp
  let⟨R,rfl,hR,r2⟩:=IA r (λ_=>Iff.rfl) fo br;let lR:R.length<=38:=by let n1:R.Nodup:=(V2.mp r2.nd).imp λh e=>h (by rw[e]);have:=X4 (l₁:=R) (l₂:=rest) n1 λ_ z=>hR _ z;omega
  rfl';show NP nd wf Ue fo br r2 lR (xF _ _<|xE _ _<|xC _ _ gh) (xF _ _ ge) g4 λ_=>rfl
 let⟨p,h,e,rfl⟩:=dY w;show⟨h,e⟩
abbrev top(i:Nat):A_:=PySem.Challenge.pw_copymeet_k67_bags_of_deeds.main.body.getD i<|.Pass ⟨0,0,0,0⟩
@[reducible]def bsL:Zg 0:=["len","range","max","sorted","tuple","sum","dict","set","reversed","list","str","isinstance"]
@[reducible]def cC(w:x_)(K:UF)(cl:Str->C_ t_):MC:=⟨K,cl,bsL,λ_ _ _=>False,w⟩
@[reducible]def clF(fu dg ax:t_):Str->C_ t_:=λz=>if z=("Bag" : Str) then a_ fu else if z=("Tree" : Str) then a_ dg else if z=("Folding" : Str) then a_ ax else b_
def clI{p:t_->Prop}{fu dg ax a:t_}{c:Str}(hc:clF fu dg ax c=a_ a)(qe:p fu)(n8:p dg)(ip:p ax):p a:=by
 dsimp only[clF]at hc;split at hc
 ·cases hc
  show qe
 split at hc
 ·cases hc
  show n8
 split at hc
 ·cases hc
  show ip
 cases hc
@[reducible]def fL:Zg 0:=["failed","leaves","made","standing","tree"]
abbrev NfX(K:UF)(A:t_):Zg 0->Prop
 |[]=>True
 |f::r=>V3 K (.ref A) f=a_ b_/\NfX K A r
def NfX.at{K:UF}{A:t_}{f:Str}:∀{l:Zg 0},NfX K A l->f∈l->V3 K (.ref A) f=a_ b_
 |_::_,h,.head _=>h.1
 |_::_,h,.tail _ m=>NfX.at h.2 m
def anE{a b c:Prop}(h:a/\b)(f:a->b->c):c:=f h.1 h.2
abbrev tgN:z_->Zg 0
 |.Name x _=>[x]
 |.Tuple es _ _=>es.flatMap λe=>match e with
  |.Name x _=>[x]
  |.Tuple gs _ _=>gs.flatMap λe=>match e with
   |.Name x _=>[x]
   |_=>[]
  |_=>[]
 |_=>[]
abbrev mkN(o:Zg 0):B_ (C_ Nat)->Zg 0->Zg 0
 |some j::r,xs=>o.getD j "" :: mkN o r xs
 |none::r,x::xs=>x::mkN o r xs
 |_,_=>[]
abbrev ndB:Zg 0->Bool
 |[]=>true
 |x::r=>r.all (λy=>!decide (x=y))&&ndB r
def mX:∀{l:Zg 0},ndB l=true->l.Nodup
 |[],_=>.nil
 |x::r,h=>by simp only[ndB,VE,Vy]at h;show Wl.2 ⟨λm=>by simpa using h.1 x m,mX h.2⟩
section
variable{C:MC}{k i:Nat}{X:Cx}{elt iter tg:z_}{ifs:B_ z_}{sc os:Scope}{pos pos' dk:Pos}{oN:Zg 0}{js:B_ (C_ Nat)}{mi:Mi}{g:Mg}{tt:Ev->PH->ZG 0}{me:Me}{x:Str}
def Rv(e:X.env.scope=os)(e':X.N=oN)(h:kA os oN sc (mkN oN js<|tgN tg) js=true)(nd:ndB (mkN oN js<|tgN tg)=true)(hi:SI C k X tg iter mi)
  (hg:∀a b c d,(S1 (mkN oN js<|tgN tg) a b c d).N.Nodup->SG C k (S1 (mkN oN js<|tgN tg) a b c d) tg g/\STs C k (S1 (mkN oN js<|tgN tg) a b c d) ifs tt/\SE C k (S1 (mkN oN js<|tgN tg) a b c d) elt me)
  (hs:∀x,q0e 0=pure x:=by intro _;rfl):G_ (.ListComp elt [⟨tg,iter,ifs,0⟩] sc pos) (bG js mi g tt me):=MS e e' h hi (λa b c d=>(hg a b c d<|mX nd).1) (λa b c d=>(hg a b c d<|mX nd).2.1) (λa b c d=>(hg a b c d<|mX nd).2.2) hs
def Rw(nd:X.N.Nodup)(h1:X.N[i]?=a_ x)(h2:V_ 0=a_ .local)(e:X.env.scope=os)(e':X.N=oN)(h:kA os oN sc (mkN oN js<|tgN tg) js=true)(wx:ndB (mkN oN js<|tgN tg)=true)(hi:SI C k X tg iter mi)
  (hg:∀a b c d,(S1 (mkN oN js<|tgN tg) a b c d).N.Nodup->SG C k (S1 (mkN oN js<|tgN tg) a b c d) tg g/\STs C k (S1 (mkN oN js<|tgN tg) a b c d) ifs tt/\SE C k (S1 (mkN oN js<|tgN tg) a b c d) elt me)
  (t9:YI (.ListComp elt [⟨tg,iter,ifs,0⟩] sc pos) (a_<|.Name x pos') dk.line X.env=pure true:=by rfl) (hs:∀x,q0e 0=pure x:=by intro _;rfl):ZL (.Assign [.Name x pos'] (.ListComp elt [⟨tg,iter,ifs,0⟩] sc pos) dk) (aP i<|bG js mi g tt me):=Fs nd h1 h2 e e' h hi (λa b c d=>(hg a b c d<|mX wx).1) (λa b c d=>(hg a b c d<|mX wx).2.1) (λa b c d=>(hg a b c d<|mX wx).2.2) t9 hs
end
abbrev fsB(N:Zg 0)(n:Nat)(sc:Scope):Bool:=(match sc.kind with|.function=>true|_=>false) && !sc.isCoroutine && !sc.isGenerator&&ndB N&&decide (n<=N.length)&&(N.take n).all (λx=>match Ze 0 with|some .local=>true|some .cell=>true|_=>false)&&sc.names.all λy=>match y.2 with|.free=>false|_=>true
def IV{N:Zg 0}{n:Nat}{sc:Scope}(h:fsB N n sc=true):pL N (N.take n) sc/\(N.take n).length=n:=by
 simp only[fsB,VE,Bool.not_eq_true',Vy,decide_eq_true_eq]at h;let⟨⟨⟨⟨⟨⟨h1,h2⟩,h3⟩,h4⟩,h5⟩,h6⟩,h7⟩:=h;let hl:(N.take n).length=n:=by rw[V7];omega
 refine⟨⟨?_,h2,h3,mX h4,by rw[hl],λx m=>?_,λy m e=>?_⟩,hl⟩
 ·split at h1
  ·assumption
  ·cases h1
 ·have:=h6 x m;split at this
  ·show .inl (by assumption)
  ·show .inr (by assumption)
  ·cases this
 ·have:=h7 y m;rw[e]at this;cases this
abbrev FnX(K:UF)(f:t_)(nm qual:Str)(st:A_):Prop:=∃oc kV doc pm cdv ct od an osl,K.lookup f=a_ ⟨oc,od,.func<|WS nm qual (eC st) (cH st) (aU st) .none kV doc pm an cdv ct,osl⟩/\YS K cdv qual=true/\WZ K (.ref f)=true
abbrev MtX(K:UF)(A:t_)(nm qual:Str)(st:A_):Prop:=∃f,V3 K (.ref A) nm=a_ (c_ f)/\PySem.W.isFn K (.ref f)=true/\FnX K f nm qual st
abbrev DfX(K:UF)(nm:Str)(st:A_):Prop:=∃f,YU K We nm=a_ (c_ f)/\FnX K f nm nm st
abbrev DsL(K:UF):B_ (Str×Nat)->Prop
 |[]=>True
 |(x,i)::r=>DfX K x (top i)/\DsL K r
abbrev fA(K:UF)(x:Str):t_:=match YU K We x with
 |some (c_ f)=>f
 |_=>0
abbrev mA(K:UF)(A:t_)(x:Str):t_:=match V3 K (.ref A) x with
 |some (c_ f)=>f
 |_=>0
abbrev dA(K:UF)(a:t_):WU:=match K.lookup a with
 |some ⟨_,_,.func f,_⟩=>f
 |_=>WS "" "" (eC<|top 0) [] (aU<|top 0) .none .none .none .none b_ .none .none
def DsL.at{K:UF}{x:Str}{i:Nat}:∀{l:B_ (Str×Nat)},DsL K l->(x,i)∈l->DfX K x (top i)
 |_::_,h,.head _=>h.1
 |_::_,h,.tail _ m=>DsL.at h.2 m
@[reducible]def BdX(nm qual:Str)(st:A_)(n:Nat)(ps:Zg 0):Prop:=∀(kV doc pm:s_)(an:C_ t_)(cdv ct:s_)(us:ZQ 0),us.length=n->bindArgs (WS nm qual (eC st) (cH st) (aU st) .none kV doc pm an cdv ct) ⟨us,[]⟩=pure (ps.zip us)
structure ClX(K:UF)(A:t_)(nm:Str)(fs:B_ Str):Prop where
 n:YU K We nm=some (c_ A)
 pg:Yw K A Str.empty=true
 hd:PySem.W.hasDictIn K A=true
 po:PySem.W.plainOver K A=true
 sa:V3 K (.ref A) "__setattr__" = some (some (.builtin "object.__setattr__"))
 mx:PySem.W.makesIn K A=true
 kc:WZ K (.ref A)=true
 nf:NfX K A fs
def ClX.cls9{K:UF}{A:t_}{nm:Str}{fs:Zg 0}(q:ClX K A nm fs):Cls K A:=⟨q.pg,q.hd,q.po,q.sa⟩
structure ClZ(w:x_)(K:UF)(mg:o_ 0)(cl:Str->C_ t_)(c:Str)(A:t_):Prop where
 cl:cl c=some A
 hc:Cls K A
 mg:mg c=c_ A
 mx:PySem.W.makesIn K A=true
 kc:WZ K (.ref A)=true
def mtN{C:MC}{k:Nat}{X:Cx}{m c:Str}{n j:Nat}{a g:t_}{fd:WU}{ps:Zg 0}{f:Fn}{tb:Str->C_ Fn}(h:(C.cl c=a_ a/\Cls C.K a)/\Cj C.K a m g/\M_ g fd ps (spM C (n+1) f)/\Binds C.K fd ps [])(h6:j<=k)(r:Au C X k m n tb):Au C X k m n (λz=>if z=c then a_ f else tb z):=Kg h.1.1 h.1.2 h.2.1 h6 h.2.2.1 h.2.2.2 r
abbrev MsL(K:UF)(A:t_):B_ (Str×Str×Nat×Nat)->Prop
 |[]=>True
 |(x,q,i,j)::r=>MtX K A x q (inClass (top i) j)/\MsL K A r
@[reducible]def dL:B_ (Str×Nat):=[("_law_cell_at",48),("_law_stream",49),("_law_hands",50),("_law_act",51),("_law_deeds",52),("stamp",4),("rank",5),("in_order",6),("name_of",8),("taker_of",9),("takers",10),("in_force",11),("_law_had",53),("_law_taken",54),("numbers_of",13),("rank_of",19),("leaf_of",35),("told",45),("covers",3),("place_of",21),("stand_of",39),("kind_for",36),("row_thing",40),("fold",44),("empty",43),("reading",46),("law",55)]
@[reducible]def Lp:B_ (Str×Str×Nat×Nat):=[("__init__","Bag.__init__",17,0),("content","Bag.content",17,3),("fill","Bag.fill",17,4),("hear","Bag.hear",17,1),("told","Bag.told",17,2)]
@[reducible]def IW:B_ (Str×Str×Nat×Nat):=[("__init__","Tree.__init__",38,0),("fill","Tree.fill",38,12),("hear","Tree.hear",38,1),("hear_make","Tree.hear_make",38,2),("held","Tree.held",38,7),("kind_of","Tree.kind_of",38,6),("lost","Tree.lost",38,10),("rows","Tree.rows",38,11),("takes","Tree.takes",38,4),("within","Tree.within",38,9)]
@[reducible]def zU:B_ (Str×Str×Nat×Nat):=[("__init__","Folding.__init__",42,0),("add_leaf","Folding.add_leaf",42,1),("base","Folding.base",42,4),("content_of","Folding.content_of",42,5),("hanging","Folding.hanging",42,8),("hear","Folding.hear",42,2),("hear_tree","Folding.hear_tree",42,3),("telling","Folding.telling",42,9),("told","Folding.told",42,7)]
section
variable{P:y_}{w:x_}{K:UF}{mg:o_ 0}{base:w_}{cl:Str->C_ t_}
variable(P w K mg base cl)
@[reducible]def tC(j:Nat)(x:Str)(t:Nat)(N:Zg 0)(n:Nat)(m:Fn):Prop:=Def K mg x (top t) (fA K x) (dA K<|fA K x) (N.take n)/\q0a CX0 j (fA K x) (dA K<|fA K x) (N.take n) (spM (cC w K cl) n m)
@[reducible]def tM(c:Str)(A:t_)(j:Nat)(x:Str)(N:Zg 0)(n:Nat)(m:Fn):Prop:=(cl c=a_ A/\Cls K A)/\Cj K A x (mA K A x)/\q0a CX0 j (mA K A x) (dA K<|mA K A x) (N.take n) (spM (cC w K cl) n m)/\Binds K (dA K<|mA K A x) (N.take n) []
@[reducible]def tI(c:Str)(A:t_)(j:Nat)(N:Zg 0)(n:Nat)(m:Fn):Prop:=cl c=a_ A/\Mk K A (mA K A "__init__")/\q0a CX0 j (mA K A "__init__") (dA K<|mA K A "__init__") (N.take n) (spM (cC w K cl) n m)/\mg c=c_ A/\Binds K (dA K<|mA K A "__init__") (N.take n) []
variable{P w K mg base cl}
def mbL{x:Str}(h:x∈bsL:=by decide +kernel):x∈(cC w K cl).bs:=h
structure ZZ(P:y_)(base:w_)(w:x_)(K:UF)(mg:o_ 0)(cl:Str->C_ t_)(A_Bag A_Tree A_Folding cK mY:t_):Prop where
 hbn:∀x∈bsL,mg x=none
 XG:∃h:w_,K.In h/\h.Ns We mg
 ds:DsL K dL
 z_Bag:ClZ w K mg cl "Bag" A_Bag
 m_Bag:MsL K A_Bag Lp
 z_Tree:ClZ w K mg cl "Tree" A_Tree
 m_Tree:MsL K A_Tree IW
 z_Folding:ClZ w K mg cl "Folding" A_Folding
 m_Folding:MsL K A_Folding zU
 MG_KIND_FOR:mg "KIND_FOR" = c_ cK
 GT_KIND_FOR:PZ (cC w K cl) cK [("add","count"),("choose","choice"),("put","bag"),("take","bag"),("write","text"),("cut","text"),("mark","text"),("clear","text")]
 MG_ROOT:mg "ROOT" = c_ mY
 GT_ROOT:PR K mY [.str "",.int (0)]
 ff:∀f∈fL,Hz (cC w K cl) f
variable{A_Bag A_Tree A_Folding cK mY:t_}(Z:ZZ P base w K mg cl A_Bag A_Tree A_Folding cK mY)
include Z
def dfM{k t:Nat}{x:Str}{N:Zg 0}{n:Nat}{body:Ms}(c:fsB N n (aU<|top t)=true)(b:BdX x x (top t) n (N.take n))(d:(x,t)∈dL)
  (h:∀f cdv A outer s H E,N.Nodup->SSs (cC w K cl) k (wX CX0 P w K mg base N x (aU<|top t) f cdv A outer s H E).nox (cH<|top t) body):H_ (k+1) x t N n (mFn N.length body):=by
 let⟨f,a,_,_,_,_,_,_,_,_,_,l,o,p⟩:=Z.ds.at d;let⟨_,X,G⟩:=Z.XG;let⟨S,e⟩:=IV c;let D:=Def.mk' X G a l o p (ps:=N.take n) (by rwa[e]);let F:=Le (C:=cC w K cl) (P:=P) (mg:=mg) (base:=base) (λ_ _ _ h=>h) Z.hbn D.fn S λcdv A outer s H E=>h f cdv A outer s H E S.nd;rw[e]at F;let q:fA K x=f:=by rw[fA,a]
 rw[tC,q,dA,l];show⟨D,F⟩
def fdL{f:Str}(h:f∈fL:=by decide +kernel):Hz (cC w K cl) f:=Z.ff f h
def mtM{k n:Nat}{A:t_}{c x q:Str}{st:A_}{N:Zg 0}{body:Ms}(z:ClZ w K mg cl c A)(y:MtX K A x q st)(c':fsB N n (aU st)=true)(b:BdX x q st n (N.take n))
  (h:∀f cdv A outer s H E,N.Nodup->SSs (cC w K cl) k (wX CX0 P w K mg base N q (aU st) f cdv A outer s H E).nox (cH st) body):K_ c A (k+1) x N n (mFn N.length body):=by
 let⟨f,a,i,_,_,_,_,_,_,_,_,_,l,o,p⟩:=y;let F:=Cu (st:=st) l o p;let⟨S,e⟩:=IV c';let G:=Le (C:=cC w K cl) (P:=P) (mg:=mg) (base:=base) (λ_ _ _ h=>h) Z.hbn F S λcdv A outer s H E=>h f cdv A outer s H E S.nd;rw[e]at G;let r:mA K A x=f:=by rw[mA,a]
 rw[tM,r,dA,l];show⟨⟨z.cl,z.hc⟩,⟨a,i,p⟩,G,F.binds (ps:=N.take n)<|by rwa[e]⟩
def mkM{k n:Nat}{A:t_}{c q:Str}{st:A_}{N:Zg 0}{body:Ms}(z:ClZ w K mg cl c A)(y:MtX K A "__init__" q st)(c':fsB N n (aU st)=true)(b:BdX "__init__" q st n (N.take n))
  (h:∀f cdv A outer s H E,N.Nodup->SSs (cC w K cl) k (wX CX0 P w K mg base N q (aU st) f cdv A outer s H E).nox (cH st) body):tI P w K mg base cl c A (k+1) N n (mFn N.length body):=by
 let⟨_,m,a,b'⟩:=mtM Z z y c' b h;show⟨z.cl,⟨z.mx,m.at_,m.fn,z.kc⟩,a,z.mg,b'⟩
local macro_rules|`(tactic|ac_rfl)=>`(tactic|repeat' first|((with_reducible show SSs _ _ _ [_] _);refine MM ?_)|exists (kJ _ Bool.false _),(anE (by ac_nf) λD G=>K9 D G ?_ (hb:=mbL))|exists SSt,(aP _ (bG _ _ _ _ _)),(Rw nd rfl rfl rfl rfl (by rfl) (by rfl) ?_ λ_ _ _ _ nd=>⟨?_,?_,?_⟩)|exists (bH _ 0 _ _ aC),(Kh ?_ ?_)|exists (mI _ 0 _ aC),(anE (by ac_nf) λc r=>anE r λm r=>anE r λg r=>anE r λq b=>Ki c m g q b)|exists (mV _),(OH _)|exists SA,(aA _ _),(MG ?_ ?_)|exists (mC (PV.int _)),OI|exists SA,aC,P4|exists (aB vAt _ _),(Rp ?_ ?_)|exists SSs,(aG _ _),(JO ?_ ?_)|((with_reducible show SE _ _ _ (.BinOp _ _ _ _) (aB _ _ _));refine OL ?_ ?_ ?_)|exists SG,(gN _),(MI nd)|exists SSt,(aV _),(Pe ?_)|exists (aO _),(P5 ?_)|exists SSt,(aP _ _),(Pb nd ?_)|exists SGs,(gCn _ _),(MJ ?_ ?_)|exists ST,(aT (aB _ _ _)),(OU ?_ ?_ ?_)|exists (mC (PV.str _)),OK|exists SSt,(cA _ _ _),(Ra ?_ ?_ ?_)|exists SSs,cG,MK|exists (mUn (aQ _) _),(PP (fdL Z) ?_)|exists OpS,aS,MW|exists (bO _ _ _),(anE (by ac_nf) λD G=>s_call D G ?_)|exists OpS,vEq,Mz|exists OpS,cM,OR|((with_reducible show SI _ _ _ _ _ (bF _));refine Pf ?_)|exists (bH _ _ _ _ _),(Nf ?_ ?_ ?_)|exists (gW _),(P6 ?_)|exists SG,(gTp _ _),(P' ?_)|exists SGs,gNl,P9|exists SSt,(eX _ _ _),(Pg ?_ ?_ ?_)|exists SSt,(lI _),(Pd ?_)|exists (bG _ _ _ _ _),(Rv rfl rfl (by rfl) (by rfl) ?_ λ_ _ _ _ nd=>⟨?_,?_,?_⟩)|exists SO,(mP _),(MF ?_)|exists (mSl _ _ _),(R9 ?_ ?_ ?_)|exists STs,eY,MQ|exists SO,jO,ME|exists SSt,(gM _ _ _),(Nh ?_ ?_ ?_)|exists SSt,(iX _ _ _),(PQ (fdL Z) ?_ ?_)|exists SSt,(rF _ _),(Pc ?_ ?_)|exists OpS,nQ,OO|exists jC,JL|exists (mC PV.non),OJ|exists (mMt isL (onL cI) _ _),(Ph PySem.F.plainAttrs_list PySem.F.slot_list_append PySem.F.type_list_append Hj ?_ ?_)|exists OpS,fR,PC|exists (mCB jP _),(vF MH PyProof.Rows.Boot.«list» ?_ (hb:=mbL))|exists (mCB lW _),(nE P7 PyProof.Rows.Boot.«len» ?_ (hb:=mbL))|((with_reducible show SE _ _ _ (.Compare _ _ _ _) (aB _ _ _));refine OM ?_ ?_ ?_)|exists (mIf _ _ _),(JK ?_ ?_ ?_)|((with_reducible show SI _ _ _ _ _ (lX _));refine MN ?_ (hb:=mbL))|exists OpS,Ad,OP|exists OpS,Bm,OS|exists (mMt bR mH _ _),(N3 Xg Xx PySem.F.type_dict_get Nc ?_ ?_)|((with_reducible show STs _ _ _ [_] _);refine MR ?_)|((with_reducible show ST _ _ _ (.BoolOp _ _ _) _);refine SW.t ?_)|exists SW,(sO _ _),(w_and ?_ ?_)|exists OpS,vLt,R3|exists OpS,CT,OQ|exists OpS,vLe,R5|((with_reducible show SW _ _ _ (.BoolOp _ [_] _) _);refine MB ?_)|exists (mC (PV.bl _)),R1|exists (mC (.tup _)),(Nk Z.MG_ROOT Z.GT_ROOT)|exists ST,(vE _),(OW ?_)|exists (mCB Bo _),(nE P8 PyProof.Rows.Boot.«max» ?_ (hb:=mbL))|exists (oV _ _),(Kt ?_ ?_)|exists OpS,lV,JJ|exists OpS,eJ,Hs|exists (mUn fU _),(FO ?_ mbL mbL)|((with_reducible show SI _ _ _ _ _ (mJ _ _));refine Np _ (λ_=>⟨_,_,_,rfl⟩) ?_)|exists (nU bR cZ _),(Li Xg PySem.F.slot_dict_items PySem.F.type_dict_items HK ?_)|exists (mI _ _ _ _),(anE (by ac_nf) λc r=>anE r λm r=>anE r λg r=>anE r λq b=>Ng c m g q b ?_)|exists OpS,xQ,Pl|exists (mCB vJ _),(nE Ag PyProof.Rows.Boot.«isinstance» ?_ (hb:=mbL))|exists (mC (PV.ty "str")),(My PyProof.Rows.Boot.«str» (hb:=mbL))|exists (mMt Kk vX _ _),(N3 PySem.F.plainAttrs_str PySem.F.slot_str_join PySem.F.type_str_join Nj ?_ ?_)|((with_reducible show SI _ _ _ _ _ (vG _));refine MP ?_ (hb:=mbL))|exists (mCB oK _),(vF JM PyProof.Rows.Boot.«tuple» ?_ (hb:=mbL))|exists (mCB mE _),(nE K5 PyProof.Rows.Boot.«sorted» ?_ (hb:=mbL))|exists OpS,vGt,R4|exists (mCB Fw _),(nE PB PyProof.Rows.Boot.«sum» ?_ (hb:=mbL))|exists (nU bR zE _),(Li Xg PySem.F.slot_dict_values PySem.F.type_dict_values m_values ?_)|exists ST,(aT (Fo _ _ _ _ _)),(OV ?_ ?_ ?_ ?_ ?_)|exists (kJ _ _ _),(anE (by ac_nf) λD G=>Hx D G ?_ (hb:=mbL))|exists SSt,JN,Pa|exists (mMt bR vU _ _),(N3 Xg PySem.F.slot_dict_setdefault PySem.F.type_dict_setdefault Nb ?_ ?_)|exists OpS,vGe,R7|exists (mCB qE _),(vF N4 PyProof.Rows.Boot.«dict» ?_ (hb:=mbL))|exists (mCB mF _),(nE K8 PyProof.Rows.Boot.«sorted» ?_ (hb:=mbL))|exists SSt,(vH _ _ _),(JQ ?_ ?_)|exists (nU isL (onL CY) _),(Pi PySem.F.plainAttrs_list PySem.F.slot_list_pop PySem.F.type_list_pop Pj ?_)|exists (mMt isL kL _ _),(Ph PySem.F.plainAttrs_list PySem.F.slot_list_extend PySem.F.type_list_extend HZ ?_ ?_)|((with_reducible show SI _ _ _ _ _ (HY _));refine PY ?_ (hb:=mbL))|exists SW,(Fp _ _),(w_or ?_ ?_)|((with_reducible show SW _ _ _ (.BoolOp _ [_] _) _);refine OX ?_)|exists (mUn (vGd _) _),(Ks Z.MG_KIND_FOR Z.GT_KIND_FOR ?_)|exists (Az _),(anE (by ac_nf) λD G=>Kr D G)|exists (mUn sU _),(FG ?_ mbL mbL)|exists (yY _ _),(OZ ?_ ?_)|exists OpS,FT,Nw|((with_reducible show SE _ _ _ (.BoolOp _ [_] _) _);refine OY ?_)|exists OpS,FP,Nt|exists ST,(aT _),(OT ?_)|exists SSt,(oT _ _ _),(Nr _ _ ?_)|exists (rR _ _ _),(Nq _ _ ?_)|exists SSt,oB,Q1|((with_reducible show Au _ _ _ _ _ _);refine mtN (by ac_nf) nofun ?_)|((with_reducible show Au _ _ _ _ _ _);show Nd)|unfold oW|unfold jT|unfold rT|unfold kM|unfold kN|unfold pA|unfold rV|unfold cB|unfold fC|unfold jH|unfold cX|unfold pG|unfold wH|unfold qM)
local macro_rules|`(tactic|and_intros)=>`(tactic|intro _ _ _ _ _ _ us hl;rcases us with _|⟨_,_|⟨_,_|⟨_,_|⟨_,_|⟨_,_|⟨_,_⟩⟩⟩⟩⟩⟩<;>first|rfl|cases hl)
local macro_rules|`(tactic|exists $e:ident)=>`(tactic|(refine dfM Z (by decide +kernel) (by and_intros) (by decide +kernel) λ_ _ _ _ _ _ _ nd=>?_;(conv=>arg 4;whnf);unfold $e;ac_rfl))|`(tactic|exists $a,$b,$c,$d:ident)=>`(tactic|(refine $a Z $b $c (by decide +kernel) (by and_intros) λ_ _ _ _ _ _ _ nd=>?_;(conv=>arg 4;whnf);unfold $d;ac_rfl))|`(tactic|exists $e,$f)=>`(tactic|((with_reducible show SE _ _ _ _ $e);refine $f))|`(tactic|exists $k,$e,$f)=>`(tactic|((with_reducible show $k _ _ _ _ $e);refine $f))
local macro_rules|`(tactic|ac_nf)=>`(tactic|first|exact FZ Z|exact IX Z|exact L1 Z|exact Qe Z|exact L3 Z|exact L4 Z|exact NQ Z|exact DA Z|exact G0 Z|exact DB Z|exact IY Z|exact DC Z|exact Qf Z|exact L5 Z|exact AU Z|exact G1 Z|exact G2 Z|exact NR Z|exact IZ Z|exact DD Z|exact DE Z|exact DF Z|exact C6 Z|exact NS Z|exact L6 Z|exact G3 Z|exact wO Z|exact xX Z|exact DG Z|exact DH Z|exact DI Z|exact tQ Z|exact C7 Z|exact C8 Z|exact sD Z|exact C9 Z|exact wQ Z|exact Ca Z|exact Cb Z|exact AV Z|exact xY Z|exact pJ Z|exact pK Z|exact wR Z|exact mZ Z|exact qP Z|exact wU Z|exact nV Z|exact qQ Z|exact wV Z)
def FZ:H_ 1 "_law_cell_at" 48 ["_law_script","_law_k"] 2 nI:=by exists rS
def IX:H_ 1 "_law_stream" 49 ["_law_cell","_law_many","_law_found","_law_number","_law_k"] 2 mK:=by exists wA
def L1:H_ 2 "_law_hands" 50 ["_law_cell","_law_many","_law_letters","_law_xs","_law_stem","_law_at"] 2 AB:=by exists AA
def Qe:H_ 1 "_law_act" 51 ["_law_xs","_law_cell","_law_name","_law_hands_here","_law_great","_law_number","_law_first"] 5 Ei:=by exists Ib
def L3:H_ 2 "_law_deeds" 52 ["_law_cells","_law_hands_here","_law_rows","_law_many","_law_great","_law_cell","_law_xs","_law_hand","_law_seen","_law_k","_law_name","_law_pairs"] 2 AD:=by exists AC
def L4:H_ 1 "stamp" 4 ["deed"] 1 AE:=by exists tY
def NQ:H_ 2 "rank" 5 ["deed","hand","n"] 1 Dm:=by exists Dl
def DA:H_ 5 "in_order" 6 ["deeds","by_name","deed"] 1 iL:=by exists oX
def G0:H_ 1 "name_of" 8 ["deed"] 1 nJ:=by exists rU
def DB:H_ 1 "taker_of" 9 ["n","backs","back","word","first","last"] 2 oZ:=by exists oY
def IY:H_ 4 "takers" 10 ["deeds","taken","backs","deed","hand","n","word","by"] 1 wC:=by exists wB
def DC:H_ 6 "in_force" 11 ["deeds","ordered","taken"] 1 iM:=by exists pB
def Qf:H_ 1 "_law_had" 53 ["_law_deed","_law_name"] 2 Ej:=by exists Ic
def L5:H_ 2 "_law_taken" 54 ["_law_deed","_law_later","_law_one"] 2 tZ:=by exists AF
def AU:H_ 1 "numbers_of" 13 ["rows"] 1 qK:=by exists kO
def DI:K_ "Bag" A_Bag 2 "told" ["self"] 1 iN   := by exists mtM,Z.z_Bag,Z.m_Bag.2.2.2.2.1,pC
def wQ:K_ "Tree" A_Tree 1 "kind_of" ["self","thing"] 2 aI   := by exists mtM,Z.z_Tree,Z.m_Tree.2.2.2.2.2.1,eM
def G1:H_ 1 "rank_of" 19 ["place"] 1 jU:=by exists rW
def xY:K_ "Tree" A_Tree 2 "within" ["self","thing","spots"] 2 dJ   := by exists mtM,Z.z_Tree,Z.m_Tree.2.2.2.2.2.2.2.2.2.1,jG
def qP:K_ "Folding" A_Folding 3 "hanging" ["self","found","left","thing"] 1 cQ   := by exists mtM,Z.z_Folding,Z.m_Folding.2.2.2.2.1,eO
def C9:K_ "Tree" A_Tree 1 "held" ["self","thing"] 2 fV   := by exists mtM,Z.z_Tree,Z.m_Tree.2.2.2.2.1,mL
def qQ:K_ "Folding" A_Folding 3 "telling" ["self","thing","tellings","kind"] 3 bX   := by exists mtM,Z.z_Folding,Z.m_Folding.2.2.2.2.2.2.2.1,cR
def wV:K_ "Folding" A_Folding 4 "told" ["self","tellings","thing"] 1 cW   := by exists mtM,Z.z_Folding,Z.m_Folding.2.2.2.2.2.2.2.2.1,iO
def tQ:tI P w K mg base cl "Tree" A_Tree 1 ["self"] 1 gK   := by exists mkM,Z.z_Tree,Z.m_Tree.1,gJ
def DG:K_ "Bag" A_Bag 1 "fill" ["self","content"] 2 iP   := by exists mtM,Z.z_Bag,Z.m_Bag.2.2.1,pF
def C7:K_ "Tree" A_Tree 1 "fill" ["self","rows","lost","thing","kind","holder","spot"] 3 iY   := by exists mtM,Z.z_Tree,Z.m_Tree.2.1,mM
def wO:tI P w K mg base cl "Bag" A_Bag 1 ["self"] 1 mN   := by exists mkM,Z.z_Bag,Z.m_Bag.1,iQ
def G2:H_ 3 "leaf_of" 35 ["kind"] 1 jV:=by exists nK
def pK:K_ "Folding" A_Folding 4 "add_leaf" ["self","thing","kind","leaf"] 3 aX   := by exists mtM,Z.z_Folding,Z.m_Folding.2.1,cJ
def pJ:tI P w K mg base cl "Folding" A_Folding 5 ["self","base","rows","lost","thing","kind","holder","spot","content"] 2 bJ   := by exists mkM,Z.z_Folding,Z.m_Folding.1,dR
def NR:H_ 7 "told" 45 ["base"] 1 Do:=by exists Dn
def IZ:H_ 1 "covers" 3 ["seen","name","hand","n"] 2 jW:=by exists wD
def DH:K_ "Bag" A_Bag 2 "hear" ["self","deed","name","seen","act"] 2 fD   := by exists mtM,Z.z_Bag,Z.m_Bag.2.2.2.1,kQ
def AV:K_ "Tree" A_Tree 2 "takes" ["self","holder","spot"] 3 bY   := by exists mtM,Z.z_Tree,Z.m_Tree.2.2.2.2.2.2.2.2.1,iA
def DD:H_ 1 "place_of" 21 ["spot","name","under","side","hand","n"] 2 wF:=by exists pH
def DE:H_ 2 "stand_of" 39 ["spot","name"] 2 dS:=by exists kR
def sD:K_ "Tree" A_Tree 3 "hear_make" ["self","name","act","word","kind","holder","spot"] 3 fF   := by exists mtM,Z.z_Tree,Z.m_Tree.2.2.2.1,fE
def C8:K_ "Tree" A_Tree 4 "hear" ["self","deed","name","seen","act"] 2 fW   := by exists mtM,Z.z_Tree,Z.m_Tree.2.2.1,mO
def nV:K_ "Folding" A_Folding 5 "hear_tree" ["self","deed","fate","act"] 2 dG   := by exists mtM,Z.z_Folding,Z.m_Folding.2.2.2.2.2.2.1,dC
def DF:H_ 1 "kind_for" 36 ["word"] 1 fG:=by exists kU
def wU:K_ "Folding" A_Folding 6 "hear" ["self","deed","act"] 2 cE   := by exists mtM,Z.z_Folding,Z.m_Folding.2.2.2.2.2.1,eQ
def xX:K_ "Bag" A_Bag 1 "content" ["self"] 1 fK   := by exists mtM,Z.z_Bag,Z.m_Bag.2.1,jI
def mZ:K_ "Folding" A_Folding 2 "content_of" ["self","thing"] 2 bZ   := by exists mtM,Z.z_Folding,Z.m_Folding.2.2.2.1,cY
def C6:H_ 1 "row_thing" 40 ["row"] 1 sX:=by exists mQ
def Cb:K_ "Tree" A_Tree 4 "rows" ["self"] 1 iZ   := by exists mtM,Z.z_Tree,Z.m_Tree.2.2.2.2.2.2.2.1,mR
def Ca:K_ "Tree" A_Tree 1 "lost" ["self"] 1 fX   := by exists mtM,Z.z_Tree,Z.m_Tree.2.2.2.2.2.2.1,mS
def wR:K_ "Folding" A_Folding 5 "base" ["self"] 1 eR   := by exists mtM,Z.z_Folding,Z.m_Folding.2.2.1,iR
def NS:H_ 7 "fold" 44 ["base","deeds","folding","deed"] 2 Dq:=by exists Dp
def L6:H_ 1 "empty" 43 [] 0 uC:=by exists AJ
def G3:H_ 8 "reading" 46 ["deeds"] 1 nN:=by exists rX
def Qg:H_ 9 "law" 55 ["_law_script","_law_first","_law_hands_here","_law_deeds_here","_law_force","_law_stand","_law_k","_law_handed","_law_kept","_law_found","_law_place","_law_bag"] 1 Ig:=by exists Ie
end
abbrev spL(K:UF):Sp:=λvs H Q _=>∃(a:t_)(ns:Z9 0),vs=[.ref a]/\Gw H/\ZW a (ZS 0)/\ns.length<=63/\∀H',Q (.bl true) H'
def all_mk{l:PySem.W.OpenLaw}{w:x_}{K:UF}{h:w_}{mg:o_ 0}{fa A_Bag A_Tree A_Folding cK mY:t_}(X:K.In h)(G:h.Ns We mg)(UD:mg "law" = c_ fa)(hbn:∀x∈bsL,mg x=b_)
  (ds:DsL K dL)
  (c6:ClX K A_Bag "Bag" fL)
  (m_Bag:MsL K A_Bag Lp)
  (bj:ClX K A_Tree "Tree" fL)
  (m_Tree:MsL K A_Tree IW)
  (ai:ClX K A_Folding "Folding" fL)
  (m_Folding:MsL K A_Folding zU)
  {av:Array Xw} {bw:Nat} (DK:YU K We "KIND_FOR" = a_ (c_ cK)) (e9:K.lookup cK=a_ ⟨.type "dict",b_,.dict av bw,#[]⟩) (fg:GEs w.params [("add","count"),("choose","choice"),("put","bag"),("take","bag"),("write","text"),("cut","text"),("mark","text"),("clear","text")] av.toList) (fe:(cK == Wi)=false)
  {bf:YY 0} {gu:Nat} {j8:n_ 0} (NT:YU K We "ROOT" = a_ (c_ mY)) (oa:K.lookup mY=a_ ⟨.type "tuple",b_,.seq bf gu,j8⟩) (kz:aJ [.str "",.int<|0] bf.toList) (oe:bf.size<=Ve)
  : ∃fd:WU,(∀(s:td)(v:s_),BindsTo s fd ⟨[v],[]⟩ [("_law_script",v)])/\∀base:w_,K.In base->base.Ns We mg->cL l.prog w K mg base CX0 9 fa fd ["_law_script"] (spL K):=by
 let Z:∀b,ZZ l.prog b w K mg (clF A_Bag A_Tree A_Folding) A_Bag A_Tree A_Folding cK mY:=λ_=>⟨hbn,⟨_,X,G⟩,ds,⟨(YX 0),c6.cls9,Yt X G c6.n,c6.mx,c6.kc⟩,m_Bag,⟨((q0k 0).trans<|YX 0),bj.cls9,Yt X G bj.n,bj.mx,bj.kc⟩,m_Tree,⟨((q0k 0).trans<|(q0k 0).trans<|YX 0),ai.cls9,Yt X G ai.n,ai.mx,ai.kc⟩,m_Folding,Yt X G DK,⟨fe,nofun,av,bw,e9,fg⟩,Yt X G NT,⟨_,bf,gu,[.str "",.int<|0],oa,rfl,rfl,oe,kz,rfl,rfl⟩,λf i c a hc=>clI (p:=λa=>Cls K a/\jZ K a f) hc ⟨c6.cls9,c6.nf.at i⟩ ⟨bj.cls9,bj.nf.at i⟩ ⟨ai.cls9,ai.nf.at i⟩⟩;let⟨f,a,oc,kV,doc,pm,cdv,ct,od,an,osl,l',c,k⟩:=(Z h).ds.at (x:="law") (i:=55) (by decide +kernel);cases UD.symm.trans (Yt X G a)
 refine⟨_,λs v=>.of_eq (fd:=WS "law" "law" (eC<|top 55) (cH<|top 55) (aU<|top 55) .none kV doc pm an cdv ct) rfl,λbase _ _=>?_⟩;let⟨_,F⟩:=Qg<|Z base;let q:fA K "law" = fa:=by rw[fA,a]
 rw[q,dA,l']at F;refine F.imp λvs H Q E hh=>?_;let⟨a,ns,rfl,hO,hS,hl,hq⟩:=hh;show MT (C:=cC w K<|clF A_Bag A_Tree A_Folding) hO hS (main ns hl) hq
def walk{l:PySem.W.OpenLaw}{q:y_}{loose:Zg 0}{XP:(o_ 0)->w_->Prop}{YP:x_->w_->Prop}{d:DefRec}{K:Params->UF}(hn:l.most=a_ 63)(uk:d.params.defaults=[])
  (hY:∀(w:x_)(h:w_),YP w h->(K w.params).In h)
  (F:∀(w:x_)(mg:o_ 0)(fa:t_)(h:w_),(K w.params).In h->h.Ns We mg->mg d.name=c_ fa->
   ∃fd:WU,(∀(s:td)(u:s_),BindsTo s fd ⟨[u],[]⟩ [("_law_script",u)])/\∀base:w_,(K w.params).In base->base.Ns We mg->cL l.prog w (K w.params) mg base CX0 9 fa fd ["_law_script"] (spL (K w.params))):
  PySem.W.WalkO q loose XP YP l.row.toRowW d [] (λf vs=>PySem.call f vs):=
 L2.walk_of (n:=63) (k:=9) (x:="_law_script") (CX:=λ_=>CX0) (sp:=λw=>spL<|K w.params) hn nofun uk ⟨rfl,nofun,nofun⟩ hY F (λw H a ns hl hO hS=>⟨a,ns,rfl,hO,hS,hl,λ_=>rfl⟩) λ_ _ _ _ _ z=>z
end K67
open PySem PySem.W PyProof.Rows
namespace PySem.W.Fast
theorem tw12048131666686146321:True:=⟨⟩
theorem tw6483096502767725061:True:=⟨⟩
theorem tw17222697602158680106:True:=⟨⟩
theorem tw7488723032879934730:True:=⟨⟩
theorem tw114434793328861908:True:=⟨⟩
theorem tw2036707700791850986:True:=⟨⟩
theorem tw13379244519969568014:True:=⟨⟩
theorem tw16589598622397600029:True:=⟨⟩
theorem tw15880168011899958497:True:=⟨⟩
theorem tw14876084212718920702:True:=⟨⟩
theorem tw16446688440765791588:True:=⟨⟩
theorem tw2152163130767726255:True:=⟨⟩
theorem tw8238793597107343623:True:=⟨⟩
theorem tw13519768080554152662:True:=⟨⟩
theorem tw12754406121203572453:True:=⟨⟩
theorem tw5342336582943921494:True:=⟨⟩
theorem tw5884495404393914628:True:=⟨⟩
theorem tw10504410041654009553:True:=⟨⟩
theorem tw17246696426295639772:True:=⟨⟩
theorem tw7556218703162275978:True:=⟨⟩
theorem tw14108917042389347794:True:=⟨⟩
theorem tw5870702440775536966:True:=⟨⟩
theorem tw6611334900810783779:True:=⟨⟩
theorem tw8353311471549419283:True:=⟨⟩
theorem tw16811627221103779641:True:=⟨⟩
theorem tw97049112981812788:True:=⟨⟩
theorem tw5112756372721778881:True:=⟨⟩
theorem tw11534251715546759043:True:=⟨⟩
theorem tw12642909581692778223:True:=⟨⟩
theorem tw10610083289536927691:True:=⟨⟩
theorem tw13363440771811165927:True:=⟨⟩
theorem tw5921166743482188832:True:=⟨⟩
theorem tw11828069121659891407:True:=⟨⟩
theorem tw3037655562910252585:True:=⟨⟩
theorem tw2125758614035284298:True:=⟨⟩
theorem tw12261142393366938001:True:=⟨⟩
theorem tw9230422836569331084:True:=⟨⟩
theorem tw4842537257899116354:True:=⟨⟩
theorem tw4395998127019631408:True:=⟨⟩
theorem tw5012945595991772206:True:=⟨⟩
theorem tw16461224375898699065:True:=⟨⟩
theorem tw10740225564888651809:True:=⟨⟩
theorem tw11279113110789249186:True:=⟨⟩
theorem tw1083004657793743732:True:=⟨⟩
theorem tw4107275302531696723:True:=⟨⟩
theorem tw2086884931971263781:True:=⟨⟩
theorem tw13089489352043653872:True:=⟨⟩
theorem tw13831457576510851754:True:=⟨⟩
theorem tw3889764687969712569:True:=⟨⟩
theorem tw4690933263210292577:True:=⟨⟩
theorem tw5639127998580071418:True:=⟨⟩
theorem tw17900465773248484577:True:=⟨⟩
theorem tw11101881329240063853:True:=⟨⟩
theorem tw18289153223281997904:True:=⟨⟩
theorem tw8967391226726894046:True:=⟨⟩
theorem tw8047511663198077845:True:=⟨⟩
theorem tw13323684374283564853:True:=⟨⟩
theorem tw9053821354166277055:True:=⟨⟩
theorem tw14857256109142031782:True:=⟨⟩
theorem tw6813766467291152065:True:=⟨⟩
theorem tw9043792271459363217:True:=⟨⟩
theorem tw419008672154993223:True:=⟨⟩
theorem tw16853807714323860047:True:=⟨⟩
theorem tw13447197289324729798:True:=⟨⟩
theorem tw1910914212363999783:True:=⟨⟩
theorem tw5865053195831283698:True:=⟨⟩
theorem tw6733120238838123492:True:=⟨⟩
theorem tw4625154138002925549:True:=⟨⟩
theorem tw6578298384699119385:True:=⟨⟩
theorem tw5888922393564072465:True:=⟨⟩
theorem tw4748870707850424671:True:=⟨⟩
theorem tw16245811709992644250:True:=⟨⟩
theorem tw1524731909986520628:True:=⟨⟩
theorem tw16261738591092937038:True:=⟨⟩
theorem tw7432531677550425435:True:=⟨⟩
theorem tw16435201217706694889:True:=⟨⟩
theorem tw8940639401833202229:True:=⟨⟩
theorem tw582633181573093347:True:=⟨⟩
theorem tw8800831457673223354:True:=⟨⟩
theorem tw18241826160319174746:True:=⟨⟩
theorem tw13866195067222239380:True:=⟨⟩
theorem tw8863989485573438348:True:=⟨⟩
theorem tw1980208882208899905:True:=⟨⟩
theorem tw11586441612324684343:True:=⟨⟩
theorem tw1348378365343022578:True:=⟨⟩
theorem tw3198637485574384672:True:=⟨⟩
theorem tw12917188543077364399:True:=⟨⟩
theorem tw9841534898585558384:True:=⟨⟩
theorem tw16565622123029613392:True:=⟨⟩
theorem tw13354202887662744176:True:=⟨⟩
theorem tw3132678352334063583:True:=⟨⟩
theorem tw10381049035823125896:True:=⟨⟩
theorem tw12565494560614855713:True:=⟨⟩
theorem tw14992319288409218978:True:=⟨⟩
theorem tw12077299736723505637:True:=⟨⟩
theorem tw1906335450229738341:True:=⟨⟩
theorem tw6264004362980488747:True:=⟨⟩
theorem tw16627019739530667003:True:=⟨⟩
theorem tw4490500499131901787:True:=⟨⟩
theorem tw5849570218824441837:True:=⟨⟩
theorem tw10074190671043230193:True:=⟨⟩
theorem tw13118468072108207288:True:=⟨⟩
theorem tw10702378640421342911:True:=⟨⟩
theorem tw16404210136802943375:True:=⟨⟩
theorem tw10982684711538625659:True:=⟨⟩
theorem tw17949794464398500851:True:=⟨⟩
theorem tw15630497735090734126:True:=⟨⟩
theorem tw6348965778235514355:True:=⟨⟩
theorem tw8208541671294605576:True:=⟨⟩
theorem tw9522186922464853163:True:=⟨⟩
theorem tw12718777852308864324:True:=⟨⟩
theorem tw9776181063633435859:True:=⟨⟩
theorem tw17326676048864969271:True:=⟨⟩
theorem tw99442606310104428:True:=⟨⟩
theorem tw11871340633477930558:True:=⟨⟩
theorem tw2547367820580405821:True:=⟨⟩
theorem tw3058085423808439628:True:=⟨⟩
theorem tw10031697254090544827:True:=⟨⟩
theorem tw17366120871805517710:True:=⟨⟩
theorem tw15982286814594400950:True:=⟨⟩
theorem tw5576615958660823303:True:=⟨⟩
theorem tw3191881407526040171:True:=⟨⟩
theorem tw11972700926278411548:True:=⟨⟩
theorem tw1272201019239864330:True:=⟨⟩
theorem tw12876753720495794898:True:=⟨⟩
theorem tw16260714778996805025:True:=⟨⟩
theorem tw7527975478464217214:True:=⟨⟩
theorem tw12515104796894705566:True:=⟨⟩
theorem tw13218603674928705579:True:=⟨⟩
theorem tw6416355332372208498:True:=⟨⟩
theorem tw1734551338015197407:True:=⟨⟩
theorem tw15591485968897270426:True:=⟨⟩
theorem tw3848446578658890482:True:=⟨⟩
theorem tw386404420701470286:True:=⟨⟩
theorem tw12834250494699867263:True:=⟨⟩
theorem tw10448896837673715710:True:=⟨⟩
theorem tw1273321095185042025:True:=⟨⟩
theorem tw14542342398640244823:True:=⟨⟩
theorem tw5137046974580092766:True:=⟨⟩
theorem tw5512759928456233903:True:=⟨⟩
theorem tw16131534731715905426:True:=⟨⟩
theorem tw12921552899610551422:True:=⟨⟩
theorem tw6752942125899456695:True:=⟨⟩
theorem tw8064439157112789271:True:=⟨⟩
theorem tw14045135120365219452:True:=⟨⟩
theorem tw14018376461234323256:True:=⟨⟩
theorem tw17397103288739058132:True:=⟨⟩
theorem tw6399713730759349653:True:=⟨⟩
theorem tw12025737494524716627:True:=⟨⟩
theorem tw154465961274093742:True:=⟨⟩
theorem tw3063558478658720905:True:=⟨⟩
theorem tw9212374702046040241:True:=⟨⟩
theorem tw5877350918088357910:True:=⟨⟩
theorem tw8901128380873382715:True:=⟨⟩
theorem tw9197726011084361959:True:=⟨⟩
theorem tw10635419357347879594:True:=⟨⟩
theorem tw2661118835646844562:True:=⟨⟩
theorem tw2555980014399586431:True:=⟨⟩
theorem tw12960122947477539144:True:=⟨⟩
theorem tw6734539397267716611:True:=⟨⟩
theorem tw1975590393718175405:True:=⟨⟩
theorem tw3044391577567801161:True:=⟨⟩
theorem tw15903749012911244084:True:=⟨⟩
theorem tw17692833114346060458:True:=⟨⟩
theorem tw15209160611838307619:True:=⟨⟩
theorem tw4148232877357230380:True:=⟨⟩
theorem tw13215329591272169601:True:=⟨⟩
theorem tw2708005123952463942:True:=⟨⟩
theorem tw12107571244592893040:True:=⟨⟩
theorem tw2120912341044946119:True:=⟨⟩
theorem tw16960184499380573883:True:=⟨⟩
theorem tw9792625796253366774:True:=⟨⟩
theorem tw8035467789954478056:True:=⟨⟩
theorem tw9521206435670947192:True:=⟨⟩
theorem tw7272163634343974176:True:=⟨⟩
theorem tw16472214895122423868:True:=⟨⟩
theorem tw8783645474018734712:True:=⟨⟩
theorem tw17071538054849947376:True:=⟨⟩
theorem tw9632786637472891610:True:=⟨⟩
theorem tw5422685401329710782:True:=⟨⟩
theorem tw12935094946851849255:True:=⟨⟩
theorem tw3307072181736942027:True:=⟨⟩
theorem tw4961685592470637371:True:=⟨⟩
theorem tw18377027775520145668:True:=⟨⟩
theorem tw4234547951968062237:True:=⟨⟩
theorem tw7034031324067541912:True:=⟨⟩
theorem tw15813379139998793698:True:=⟨⟩
theorem tw18171786885035903308:True:=⟨⟩
theorem tw17433682295851545752:True:=⟨⟩
theorem tw10849956451840061628:True:=⟨⟩
theorem tw16428450739164467570:True:=⟨⟩
theorem tw7700228309349508966:True:=⟨⟩
theorem tw17648209733567828157:True:=⟨⟩
theorem tw13276860739600593839:True:=⟨⟩
theorem tw7387305071501651686:True:=⟨⟩
theorem tw16409324593670110224:True:=⟨⟩
theorem tw18063574620623666506:True:=⟨⟩
theorem tw17094183806655660665:True:=⟨⟩
theorem tw1074668403597618426:True:=⟨⟩
theorem tw8469839001525469104:True:=⟨⟩
theorem tw8520993151590424640:True:=⟨⟩
theorem tw15264675756789649702:True:=⟨⟩
theorem tw940049898737943489:True:=⟨⟩
theorem tw18205909288670738129:True:=⟨⟩
theorem tw6775964500906358508:True:=⟨⟩
theorem tw745663255816599002:True:=⟨⟩
theorem tw2653610688966472253:True:=⟨⟩
theorem tw5956817954387726537:True:=⟨⟩
theorem tw8820384344913294141:True:=⟨⟩
theorem tw16329457515900016703:True:=⟨⟩
theorem tw2770545958266271414:True:=⟨⟩
theorem tw15522106060009837541:True:=⟨⟩
theorem tw10226025124882664158:True:=⟨⟩
theorem tw12799115513340360508:True:=⟨⟩
theorem tw14391525208454799582:True:=⟨⟩
theorem tw1773099761619100123:True:=⟨⟩
theorem tw11749837031702680863:True:=⟨⟩
theorem tw5545586474625036750:True:=⟨⟩
theorem tw1300194243844284451:True:=⟨⟩
theorem tw12227922636563372147:True:=⟨⟩
theorem tw16085541046223412564:True:=⟨⟩
theorem tw6885056939303913932:True:=⟨⟩
theorem tw8142515159606868649:True:=⟨⟩
theorem tw1948893191087838222:True:=⟨⟩
theorem tw11993424186610057675:True:=⟨⟩
theorem tw3614596057199150143:True:=⟨⟩
theorem tw2241420032732349113:True:=⟨⟩
theorem tw10306271683117253773:True:=⟨⟩
theorem tw3527521598745049952:True:=⟨⟩
theorem tw5091401596893779103:True:=⟨⟩
theorem tw9849344778772537426:True:=⟨⟩
theorem tw8897404879553530303:True:=⟨⟩
theorem tw13163303166069722342:True:=⟨⟩
theorem tw10974463604139892765:True:=⟨⟩
theorem tw3238601789454661595:True:=⟨⟩
theorem tw14810191871665161123:True:=⟨⟩
theorem tw7851896556098807117:True:=⟨⟩
theorem tw9807271068307323373:True:=⟨⟩
theorem tw5793908657099161171:True:=⟨⟩
theorem tw18324303122456839074:True:=⟨⟩
theorem tw7937592666836248213:True:=⟨⟩
theorem tw9359886771137197549:True:=⟨⟩
theorem tw17513207669889473999:True:=⟨⟩
theorem tw7262458366424642699:True:=⟨⟩
theorem tw6349886636296771298:True:=⟨⟩
theorem tw8882316599925721590:True:=⟨⟩
theorem tw16198377305588166519:True:=⟨⟩
theorem tw2993708973978619747:True:=⟨⟩
theorem tw10762611869581598974:True:=⟨⟩
theorem tw9776517208579066995:True:=⟨⟩
theorem tw16172367532929269735:True:=⟨⟩
theorem tw11646477312628457929:True:=⟨⟩
theorem tw6187270303742830911:True:=⟨⟩
theorem tw17225396334499871980:True:=⟨⟩
theorem tw11390200632965757539:True:=⟨⟩
theorem tw7307911575438586644:True:=⟨⟩
theorem tw741056154530197859:True:=⟨⟩
theorem tw6777588663959593694:True:=⟨⟩
theorem tw2682521993171012928:True:=⟨⟩
theorem tw17902729993722764965:True:=⟨⟩
theorem tw3143009545241152080:True:=⟨⟩
theorem tw9499991133702475781:True:=⟨⟩
theorem tw186214989182026694:True:=⟨⟩
theorem tw12721429700076680207:True:=⟨⟩
theorem tw16501591579745808965:True:=⟨⟩
theorem tw5970990094971548952:True:=⟨⟩
theorem tw6307618199512126106:True:=⟨⟩
theorem tw9751652911806867359:True:=⟨⟩
theorem tw7449659281760002000:True:=⟨⟩
theorem tw10478864539900491778:True:=⟨⟩
theorem tw1466971110493373322:True:=⟨⟩
theorem tw17480059708364807368:True:=⟨⟩
theorem tw1387135926088047838:True:=⟨⟩
theorem tw16849089549232729622:True:=⟨⟩
theorem tw15540990368045955754:True:=⟨⟩
theorem tw15444598675540194237:True:=⟨⟩
theorem tw15483445283973567479:True:=⟨⟩
theorem tw12659806998679743897:True:=⟨⟩
theorem tw5773539175029968301:True:=⟨⟩
theorem tw8998698690453334319:True:=⟨⟩
theorem tw18054607153849091359:True:=⟨⟩
theorem tw8733769254319795149:True:=⟨⟩
theorem tw1986871605218257823:True:=⟨⟩
theorem tw13346323047386209244:True:=⟨⟩
theorem tw13388063167119112123:True:=⟨⟩
theorem tw1497279398054884221:True:=⟨⟩
theorem tw16008464520705314920:True:=⟨⟩
theorem tw12204858062431968785:True:=⟨⟩
theorem tw14168002421625618541:True:=⟨⟩
theorem tw8683205268820524943:True:=⟨⟩
theorem tw4970091275320108994:True:=⟨⟩
theorem tw16861915110788904682:True:=⟨⟩
theorem tw13360462565671287465:True:=⟨⟩
theorem tw7878190623809243490:True:=⟨⟩
theorem tw16403762035463898783:True:=⟨⟩
theorem tw11429026195422137697:True:=⟨⟩
theorem tw5609400027865253623:True:=⟨⟩
theorem tw14187692394571837179:True:=⟨⟩
theorem tw9668133808862563304:True:=⟨⟩
theorem tw11356459079780892710:True:=⟨⟩
theorem tw8930595790626895174:True:=⟨⟩
theorem tw12588457944422886739:True:=⟨⟩
theorem tw2417483995679877116:True:=⟨⟩
theorem tw3799419747316312404:True:=⟨⟩
theorem tw7317068852588900849:True:=⟨⟩
theorem tw8066695224379167604:True:=⟨⟩
theorem tw12648413272410717791:True:=⟨⟩
theorem tw14160798417626864489:True:=⟨⟩
theorem tw1651247065606833548:True:=⟨⟩
theorem tw12796281459228624536:True:=⟨⟩
theorem tw10000047914941106316:True:=⟨⟩
theorem tw3997094616011728873:True:=⟨⟩
theorem tw17636653614155442027:True:=⟨⟩
theorem tw11728170690481852900:True:=⟨⟩
theorem tw6807996094712103168:True:=⟨⟩
theorem tw17098023746286338005:True:=⟨⟩
theorem tw13963569484458254803:True:=⟨⟩
theorem tw2997735994605799846:True:=⟨⟩
theorem tw17958962003489721602:True:=⟨⟩
theorem tw2906503435739084393:True:=⟨⟩
theorem tw8263219750386373521:True:=⟨⟩
theorem tw18112735406531206292:True:=⟨⟩
theorem tw17618225775093190038:True:=⟨⟩
theorem tw2116008496978704388:True:=⟨⟩
theorem tw2951771967018664379:True:=⟨⟩
theorem tw7936516273572217233:True:=⟨⟩
theorem tw14075844577525861944:True:=⟨⟩
theorem tw8769476279634079858:True:=⟨⟩
theorem tw10271987112540603294:True:=⟨⟩
theorem tw17791897463048068469:True:=⟨⟩
theorem tw14529057135926137205:True:=⟨⟩
theorem tw12707074149816362650:True:=⟨⟩
theorem tw11813808455141084550:True:=⟨⟩
theorem tw17705725137300302748:True:=⟨⟩
theorem tw16445875190789718047:True:=⟨⟩
theorem tw13704623741378531285:True:=⟨⟩
theorem tw12004639461484871049:True:=⟨⟩
theorem tw357008002304018463:True:=⟨⟩
theorem tw13970366367141940368:True:=⟨⟩
theorem tw9372161749492776013:True:=⟨⟩
theorem tw1926156510017270447:True:=⟨⟩
theorem tw8909667249731674137:True:=⟨⟩
theorem tw14196350912546105537:True:=⟨⟩
theorem tw4138344020095998138:True:=⟨⟩
theorem tw8591814347001364000:True:=⟨⟩
theorem tw10352480619050513891:True:=⟨⟩
theorem tw18154403406348167107:True:=⟨⟩
theorem tw10892409836786177853:True:=⟨⟩
theorem tw12862899209668198190:True:=⟨⟩
theorem tw9357660235939369048:True:=⟨⟩
theorem tw5299047433424711977:True:=⟨⟩
theorem tw317369853229255210:True:=⟨⟩
theorem tw13079404822465370936:True:=⟨⟩
theorem tw13660822579300785075:True:=⟨⟩
theorem tw4173578716691754605:True:=⟨⟩
theorem tw8503212427884129232:True:=⟨⟩
theorem tw4678360686887677258:True:=⟨⟩
theorem tw5216665917750231928:True:=⟨⟩
theorem tw7734575413216171361:True:=⟨⟩
theorem tw10903009943851027021:True:=⟨⟩
theorem tw6515245613785752226:True:=⟨⟩
theorem tw4259468710037264560:True:=⟨⟩
theorem tw12099392534525271790:True:=⟨⟩
theorem tw3999683278230478345:True:=⟨⟩
theorem tw8440963169583804102:True:=⟨⟩
theorem tw8321581125322304969:True:=⟨⟩
theorem tw10284947377673625710:True:=⟨⟩
theorem tw1612805105211808267:True:=⟨⟩
theorem tw401630292092891694:True:=⟨⟩
theorem tw1409745097291707139:True:=⟨⟩
theorem tw13641515045804962216:True:=⟨⟩
theorem tw17643662860614318625:True:=⟨⟩
theorem tw14211715027163762662:True:=⟨⟩
theorem tw7394874707274515949:True:=⟨⟩
theorem tw12633020437382706287:True:=⟨⟩
theorem tw732379340403997608:True:=⟨⟩
theorem tw8051336766900818355:True:=⟨⟩
theorem tw17041659082075068021:True:=⟨⟩
theorem tw16203810773942561256:True:=⟨⟩
theorem tw13301893658466352313:True:=⟨⟩
theorem tw3868806780135341461:True:=⟨⟩
theorem tw6672223404920843272:True:=⟨⟩
theorem tw9990030598253333271:True:=⟨⟩
theorem tw8722292852702638140:True:=⟨⟩
theorem tw15604785712258978951:True:=⟨⟩
theorem tw270634733691693107:True:=⟨⟩
theorem tw12466199441425900119:True:=⟨⟩
theorem tw14561517747953475218:True:=⟨⟩
theorem tw17963329506073422312:True:=⟨⟩
theorem tw3803056894409349332:True:=⟨⟩
theorem tw1566286046981835412:True:=⟨⟩
theorem tw3768982351583988376:True:=⟨⟩
theorem tw18250241466914602579:True:=⟨⟩
theorem tw11147348388026899617:True:=⟨⟩
theorem tw5935829533299166072:True:=⟨⟩
theorem tw5168270757940555982:True:=⟨⟩
theorem tw3761029361026186162:True:=⟨⟩
theorem tw4273182453140756768:True:=⟨⟩
theorem tw18420001509724998917:True:=⟨⟩
theorem tw10732679698731205090:True:=⟨⟩
theorem tw221151015869693780:True:=⟨⟩
theorem tw13519314969316057337:True:=⟨⟩
theorem tw3502238844938110110:True:=⟨⟩
theorem tw11789840573010009485:True:=⟨⟩
theorem tw2113329275336356536:True:=⟨⟩
theorem tw6521205601431926625:True:=⟨⟩
theorem tw4879186704836168374:True:=⟨⟩
theorem tw2310524805318915141:True:=⟨⟩
theorem tw4460742052298887597:True:=⟨⟩
theorem tw4818683250827439108:True:=⟨⟩
theorem tw14625017265689565475:True:=⟨⟩
theorem tw3266294440101644481:True:=⟨⟩
theorem tw1719296460125054564:True:=⟨⟩
theorem tw1989977643874490620:True:=⟨⟩
theorem tw11278686549038093870:True:=⟨⟩
theorem tw9943534638821195798:True:=⟨⟩
theorem tw6414118387900576678:True:=⟨⟩
theorem tw12050839314250595602:True:=⟨⟩
theorem tw9225320280723850485:True:=⟨⟩
theorem tw18037364679918926759:True:=⟨⟩
theorem tw13657433424044802225:True:=⟨⟩
theorem tw677078272854513801:True:=⟨⟩
theorem tw17196856154217354379:True:=⟨⟩
theorem tw17402361709811565851:True:=⟨⟩
theorem tw5455991104437904319:True:=⟨⟩
theorem tw12637946190492368265:True:=⟨⟩
theorem tw5865303390283128732:True:=⟨⟩
theorem tw12271432850292796787:True:=⟨⟩
theorem tw16832865903287602016:True:=⟨⟩
theorem tw14547483396134693499:True:=⟨⟩
theorem tw1946494045523053637:True:=⟨⟩
theorem tw7896030468543074809:True:=⟨⟩
theorem tw7638015353989130919:True:=⟨⟩
theorem tw8967172811938646587:True:=⟨⟩
theorem tw13953542881448580604:True:=⟨⟩
theorem tw2763708224668907711:True:=⟨⟩
theorem tw12307806845338991818:True:=⟨⟩
theorem tw9348730327626264182:True:=⟨⟩
theorem tw2625713462894072823:True:=⟨⟩
theorem tw7760089947956797769:True:=⟨⟩
theorem tw11044179634114240025:True:=⟨⟩
theorem tw9837960292740364154:True:=⟨⟩
theorem tw3840330964115735297:True:=⟨⟩
theorem tw15109824455175445900:True:=⟨⟩
theorem tw17856169589205603765:True:=⟨⟩
theorem tw15124414108930594952:True:=⟨⟩
theorem tw1786358324366187893:True:=⟨⟩
theorem tw2807546899380309567:True:=⟨⟩
theorem tw980501941679083716:True:=⟨⟩
theorem tw17330804766231317661:True:=⟨⟩
theorem tw13798723357032125298:True:=⟨⟩
theorem tw11612637759748392804:True:=⟨⟩
theorem tw11939471852511584825:True:=⟨⟩
theorem tw8618673339621743029:True:=⟨⟩
theorem tw16700022888241603104:True:=⟨⟩
theorem tw2608791161892235475:True:=⟨⟩
theorem tw1444057335282711493:True:=⟨⟩
theorem tw3034042070207211796:True:=⟨⟩
theorem tw6523713250345004446:True:=⟨⟩
theorem tw495086880230113020:True:=⟨⟩
theorem tw14547674503761082986:True:=⟨⟩
theorem tw5560176820269691306:True:=⟨⟩
theorem tw1576741355118675903:True:=⟨⟩
theorem tw6293309844436684103:True:=⟨⟩
theorem tw14603590714219333610:True:=⟨⟩
theorem tw10174174617419162833:True:=⟨⟩
theorem tw6403674344678863847:True:=⟨⟩
theorem tw16358273744809220316:True:=⟨⟩
theorem tw14308426458679695606:True:=⟨⟩
theorem tw874725100147646859:True:=⟨⟩
theorem tw7142578945902804378:True:=⟨⟩
theorem tw8569388790036736510:True:=⟨⟩
theorem tw17037805823853529110:True:=⟨⟩
theorem tw17955627238727147749:True:=⟨⟩
theorem tw2454539131118322311:True:=⟨⟩
theorem tw7696980899560908426:True:=⟨⟩
theorem tw11377215716721106639:True:=⟨⟩
theorem tw9530275802816730603:True:=⟨⟩
theorem tw16353831190379179500:True:=⟨⟩
theorem tw11726662649122973879:True:=⟨⟩
theorem tw2990256606473337908:True:=⟨⟩
theorem tw9421045546643685312:True:=⟨⟩
theorem tw16306704000884966855:True:=⟨⟩
theorem tw14746864409247738262:True:=⟨⟩
theorem tw10878023927297147351:True:=⟨⟩
theorem tw15101608633084698423:True:=⟨⟩
theorem tw3243281844433129224:True:=⟨⟩
theorem tw7826888736539602442:True:=⟨⟩
theorem tw16214695371220208641:True:=⟨⟩
theorem tw14179883189519900202:True:=⟨⟩
theorem tw17846302499504083958:True:=⟨⟩
theorem tw7672039607801744493:True:=⟨⟩
theorem tw14405943324659094689:True:=⟨⟩
theorem tw6348523373899202483:True:=⟨⟩
theorem tw9002457248476875493:True:=⟨⟩
theorem tw2282353102520446215:True:=⟨⟩
theorem tw11008979199246773779:True:=⟨⟩
theorem tw13488234408138882126:True:=⟨⟩
theorem tw1267688438912375243:True:=⟨⟩
theorem tw2189820040497650097:True:=⟨⟩
theorem tw14705809977472729367:True:=⟨⟩
theorem tw6851031841859320937:True:=⟨⟩
theorem tw8932519975750548749:True:=⟨⟩
theorem tw6100392760108975441:True:=⟨⟩
theorem tw2478685743533872155:True:=⟨⟩
theorem tw7223557212818671327:True:=⟨⟩
theorem tw371912755323640247:True:=⟨⟩
theorem tw4155325827712162033:True:=⟨⟩
theorem tw9840176335275549732:True:=⟨⟩
theorem tw18206813902821429532:True:=⟨⟩
theorem tw3217759040965374253:True:=⟨⟩
theorem tw7628621790832801433:True:=⟨⟩
theorem tw12374878443552515509:True:=⟨⟩
theorem tw3577321500941008305:True:=⟨⟩
theorem tw9403781398320053603:True:=⟨⟩
theorem tw11352947155684440614:True:=⟨⟩
theorem tw16286942366362188376:True:=⟨⟩
theorem tw739211920083769550:True:=⟨⟩
theorem tw10371754409483745992:True:=⟨⟩
theorem tw9720657536637947525:True:=⟨⟩
theorem tw8293931521279038303:True:=⟨⟩
theorem tw8098207188977294881:True:=⟨⟩
theorem tw16531892428405521912:True:=⟨⟩
theorem tw12462891954751121434:True:=⟨⟩
theorem tw1119958469872636799:True:=⟨⟩
theorem tw2553820705698893804:True:=⟨⟩
theorem tw16153546325890796303:True:=⟨⟩
theorem tw13082129291696485977:True:=⟨⟩
theorem tw5646077259513363997:True:=⟨⟩
theorem tw1025887612586119119:True:=⟨⟩
theorem tw14827410996077336898:True:=⟨⟩
theorem tw11715391093431381000:True:=⟨⟩
theorem tw10851322763955258869:True:=⟨⟩
theorem tw14333409882559561557:True:=⟨⟩
theorem tw4598144396081293215:True:=⟨⟩
theorem tw10824678600673332986:True:=⟨⟩
theorem tw5207737019732576202:True:=⟨⟩
theorem tw467292243591271213:True:=⟨⟩
theorem tw1123963561374795236:True:=⟨⟩
theorem tw2083501659019352565:True:=⟨⟩
theorem tw15129283013599836308:True:=⟨⟩
theorem tw14062292452620602559:True:=⟨⟩
theorem tw6034838063802287102:True:=⟨⟩
theorem tw7753429870130411562:True:=⟨⟩
theorem tw18071517124757593987:True:=⟨⟩
theorem tw8274422217447209947:True:=⟨⟩
theorem tw9255125063609286823:True:=⟨⟩
theorem tw11820077744012437318:True:=⟨⟩
theorem tw578366692499002364:True:=⟨⟩
theorem tw10944659941739913331:True:=⟨⟩
theorem tw1578147232184219854:True:=⟨⟩
theorem tw3265165089272946271:True:=⟨⟩
theorem tw12694732054096522655:True:=⟨⟩
theorem tw5598913865357789254:True:=⟨⟩
theorem tw7103963290767880610:True:=⟨⟩
theorem tw5444536959197417681:True:=⟨⟩
theorem tw15776073043775851930:True:=⟨⟩
theorem tw11863651920499917767:True:=⟨⟩
theorem tw18059671825905024574:True:=⟨⟩
theorem tw4575095764633873619:True:=⟨⟩
theorem tw6783971760600032834:True:=⟨⟩
theorem tw10557219084992393572:True:=⟨⟩
theorem tw10574104065400943911:True:=⟨⟩
theorem tw14825426192252678761:True:=⟨⟩
theorem tw8000759498128101942:True:=⟨⟩
theorem tw7156495666552200541:True:=⟨⟩
theorem tw6503556020304306488:True:=⟨⟩
theorem tw9829649060368041371:True:=⟨⟩
theorem tw1012057674165302282:True:=⟨⟩
theorem tw1516263238706645234:True:=⟨⟩
theorem tw15238345287875938067:True:=⟨⟩
theorem tw8705333215848491444:True:=⟨⟩
theorem tw10548452684843565210:True:=⟨⟩
theorem tw7212788570659554732:True:=⟨⟩
theorem tw17326632893162498544:True:=⟨⟩
theorem tw9701822012751087329:True:=⟨⟩
theorem tw6302198083988576818:True:=⟨⟩
theorem tw3336957998692130346:True:=⟨⟩
theorem tw12781770035387895364:True:=⟨⟩
theorem tw14812119440214567304:True:=⟨⟩
theorem tw7870514614296632969:True:=⟨⟩
theorem tw4950950140571313892:True:=⟨⟩
theorem tw15607457408182857511:True:=⟨⟩
theorem tw10127390090199744703:True:=⟨⟩
theorem tw4877381405232527539:True:=⟨⟩
theorem tw3478760902079879438:True:=⟨⟩
theorem tw5766679146110314668:True:=⟨⟩
theorem tw17518799033064424180:True:=⟨⟩
theorem tw5655637722844149418:True:=⟨⟩
theorem tw17983522608462664927:True:=⟨⟩
theorem tw7281259743906891851:True:=⟨⟩
theorem tw8889416440648084479:True:=⟨⟩
theorem tw3089225324830945358:True:=⟨⟩
theorem tw12061694849707349860:True:=⟨⟩
theorem tw12365169802723190860:True:=⟨⟩
theorem tw3475441048650104036:True:=⟨⟩
theorem tw15585149519893259471:True:=⟨⟩
theorem tw6433734452098812130:True:=⟨⟩
theorem tw14061793606711623765:True:=⟨⟩
theorem tw6752939459332996235:True:=⟨⟩
theorem tw11000263019210584978:True:=⟨⟩
theorem tw12398526707283355566:True:=⟨⟩
theorem tw1761255972661606671:True:=⟨⟩
theorem tw5437196103575243498:True:=⟨⟩
theorem tw13875859151836792569:True:=⟨⟩
theorem tw7762404429216076771:True:=⟨⟩
theorem tw14162039887515483982:True:=⟨⟩
theorem tw8768877640554578914:True:=⟨⟩
theorem tw9565762424837280569:True:=⟨⟩
theorem tw6678481004516558740:True:=⟨⟩
theorem tw7011815314318071658:True:=⟨⟩
theorem tw12668450693711420433:True:=⟨⟩
theorem tw5775935817338038374:True:=⟨⟩
theorem tw14224336847415869341:True:=⟨⟩
theorem tw2930412063369684878:True:=⟨⟩
theorem tw5580032938892383159:True:=⟨⟩
theorem tw8787209202406002296:True:=⟨⟩
theorem tw2638268706354003114:True:=⟨⟩
theorem tw17904927394694308137:True:=⟨⟩
theorem tw15533081778544158297:True:=⟨⟩
theorem tw16785659652342433477:True:=⟨⟩
theorem tw17230566982585840324:True:=⟨⟩
theorem tw18334754239063804592:True:=⟨⟩
theorem tw15618232574176964317:True:=⟨⟩
theorem tw16732466255659410654:True:=⟨⟩
theorem tw2307000799367778426:True:=⟨⟩
theorem tw298229212278225561:True:=⟨⟩
theorem tw1346163914098166252:True:=⟨⟩
theorem tw16917487476971154381:True:=⟨⟩
theorem tw13285125547374442701:True:=⟨⟩
theorem tw16152192074988173778:True:=⟨⟩
theorem tw9597322655884060928:True:=⟨⟩
theorem tw8194336264302468229:True:=⟨⟩
theorem tw30607965033161104:True:=⟨⟩
theorem tw5193149430595233333:True:=⟨⟩
theorem tw5904662834174077623:True:=⟨⟩
theorem tw5860325986139853782:True:=⟨⟩
theorem tw8315898611656580268:True:=⟨⟩
theorem tw415881235065872191:True:=⟨⟩
theorem tw13369683772728350849:True:=⟨⟩
theorem tw2507640372816009560:True:=⟨⟩
theorem tw7166428804776380552:True:=⟨⟩
theorem tw11255079012432723751:True:=⟨⟩
theorem tw7815865477473742402:True:=⟨⟩
theorem tw8829693208027336253:True:=⟨⟩
theorem tw6090051680381086252:True:=⟨⟩
theorem tw14045598784384832208:True:=⟨⟩
theorem tw15473709827865057831:True:=⟨⟩
theorem tw6642638010644531828:True:=⟨⟩
theorem tw14950666995700126871:True:=⟨⟩
theorem tw17820272869039823609:True:=⟨⟩
theorem tw303444933727392656:True:=⟨⟩
theorem tw3726299827181285216:True:=⟨⟩
theorem tw16116059534397488676:True:=⟨⟩
theorem tw14310541358560749758:True:=⟨⟩
theorem tw3098436831729250517:True:=⟨⟩
theorem tw15150086569046241456:True:=⟨⟩
theorem tw557595913693659108:True:=⟨⟩
theorem tw13855629056586380655:True:=⟨⟩
theorem tw4606106646669515594:True:=⟨⟩
theorem tw8362949154094345343:True:=⟨⟩
theorem tw18048054492056990628:True:=⟨⟩
theorem tw5257865262872818029:True:=⟨⟩
theorem tw5201366028727010469:True:=⟨⟩
theorem tw3063600072381799946:True:=⟨⟩
theorem tw10348201620354060543:True:=⟨⟩
theorem tw1788994191445899296:True:=⟨⟩
theorem tw18118314921730933424:True:=⟨⟩
theorem tw17632743564263287009:True:=⟨⟩
theorem tw82113905657955462:True:=⟨⟩
theorem tw6872290142681166681:True:=⟨⟩
theorem tw9970261059707958419:True:=⟨⟩
theorem tw8869715278351468621:True:=⟨⟩
theorem tw1567813814507132502:True:=⟨⟩
theorem tw16176294286039336044:True:=⟨⟩
theorem tw15507664863338831595:True:=⟨⟩
theorem tw2495460672700542397:True:=⟨⟩
theorem tw5205342886033633080:True:=⟨⟩
theorem tw8425108381584349963:True:=⟨⟩
theorem tw5809870446936251396:True:=⟨⟩
theorem tw366296598286835257:True:=⟨⟩
theorem tw14209779585332574276:True:=⟨⟩
theorem tw2926925800590025624:True:=⟨⟩
theorem tw7704832497218370545:True:=⟨⟩
theorem tw4794952483774022324:True:=⟨⟩
theorem tw9143377092153384730:True:=⟨⟩
theorem tw11471986799994991300:True:=⟨⟩
theorem tw14726342880984905230:True:=⟨⟩
theorem tw12482110402329603148:True:=⟨⟩
theorem tw11495912191416674147:True:=⟨⟩
theorem tw16792605403324011634:True:=⟨⟩
theorem tw8238621107510542990:True:=⟨⟩
theorem tw10839798389234589968:True:=⟨⟩
theorem tw4469288893685694399:True:=⟨⟩
theorem tw9324309414895755486:True:=⟨⟩
theorem tw16197135282988040024:True:=⟨⟩
theorem tw6852133307531275851:True:=⟨⟩
theorem tw551873519787118138:True:=⟨⟩
theorem tw5334980799412690228:True:=⟨⟩
theorem tw12797847676004401913:True:=⟨⟩
theorem tw16918736589517547912:True:=⟨⟩
theorem tw15820247829502243186:True:=⟨⟩
theorem tw15928296176289863113:True:=⟨⟩
theorem tw5971824443834260287:True:=⟨⟩
theorem tw12223702872686796613:True:=⟨⟩
theorem tw9134702271459942199:True:=⟨⟩
theorem tw5379919711069457673:True:=⟨⟩
theorem tw6364268625177048801:True:=⟨⟩
theorem tw10097596048129731084:True:=⟨⟩
theorem tw240514130610314421:True:=⟨⟩
theorem tw11850989339409748374:True:=⟨⟩
theorem tw10133830090727580173:True:=⟨⟩
theorem tw15356771573685403551:True:=⟨⟩
theorem tw15910574417976347219:True:=⟨⟩
theorem tw11795707367797307179:True:=⟨⟩
theorem tw5524322730552616424:True:=⟨⟩
theorem tw1519419545402283835:True:=⟨⟩
theorem tw1582318088342779539:True:=⟨⟩
theorem tw9103710212464891881:True:=⟨⟩
theorem tw10366297765731363278:True:=⟨⟩
theorem tw15035182738508827379:True:=⟨⟩
theorem tw2236144322597542601:True:=⟨⟩
theorem tw14777060459199878256:True:=⟨⟩
theorem tw12422512632056963844:True:=⟨⟩
theorem tw1596603154386745114:True:=⟨⟩
theorem tw15733073228281607545:True:=⟨⟩
theorem tw3058471350969659801:True:=⟨⟩
theorem tw12596120114837383223:True:=⟨⟩
theorem tw8531033917167452780:True:=⟨⟩
theorem tw11086796387408984973:True:=⟨⟩
theorem tw8243364149540630290:True:=⟨⟩
theorem tw7413147694575782650:True:=⟨⟩
theorem tw1028893605929433200:True:=⟨⟩
theorem tw22971189209111232:True:=⟨⟩
theorem tw7701760092124867838:True:=⟨⟩
theorem tw11732332198127693748:True:=⟨⟩
theorem tw3062854881633188996:True:=⟨⟩
theorem tw6263146092048947221:True:=⟨⟩
theorem tw11172666854756611229:True:=⟨⟩
theorem tw14803475614422325499:True:=⟨⟩
theorem tw11384181007366565352:True:=⟨⟩
theorem tw7442931138008393944:True:=⟨⟩
theorem tw11057187560319886186:True:=⟨⟩
theorem tw13536780608075859975:True:=⟨⟩
theorem tw2487502777254957471:True:=⟨⟩
theorem tw13358915216245603418:True:=⟨⟩
theorem tw7140554781862314438:True:=⟨⟩
theorem tw5989102234278479930:True:=⟨⟩
theorem tw652392520076787468:True:=⟨⟩
theorem tw7046581739513130533:True:=⟨⟩
theorem tw12571783314994888358:True:=⟨⟩
theorem tw10898502476406614319:True:=⟨⟩
theorem tw17067140314488611147:True:=⟨⟩
theorem tw10459436535348750859:True:=⟨⟩
theorem tw6043430492225569032:True:=⟨⟩
theorem tw11664051427644376580:True:=⟨⟩
theorem tw17395178079328295039:True:=⟨⟩
theorem tw1781164218728559616:True:=⟨⟩
theorem tw16945977532763794512:True:=⟨⟩
theorem tw13309686480381748533:True:=⟨⟩
theorem tw6768123813479169493:True:=⟨⟩
theorem tw1331714669041046141:True:=⟨⟩
theorem tw9682424399535267534:True:=⟨⟩
theorem tw14069926825447369726:True:=⟨⟩
theorem tw3107526580222243479:True:=⟨⟩
theorem tw7928292842118021071:True:=⟨⟩
theorem tw242230574874407794:True:=⟨⟩
theorem tw7298363540423223048:True:=⟨⟩
theorem tw25405063679121313:True:=⟨⟩
theorem tw10078446743281716940:True:=⟨⟩
theorem tw16163291077925887610:True:=⟨⟩
theorem tw15665349866115768756:True:=⟨⟩
theorem tw11610265181151681274:True:=⟨⟩
theorem tw10013597972205870341:True:=⟨⟩
theorem tw1015406453009581026:True:=⟨⟩
theorem tw6727013781364261223:True:=⟨⟩
theorem tw4852626682588750234:True:=⟨⟩
theorem tw14003978326791953740:True:=⟨⟩
theorem tw414877060450556563:True:=⟨⟩
theorem tw4375683703145861568:True:=⟨⟩
theorem tw9920799583796814680:True:=⟨⟩
theorem tw344229446310977476:True:=⟨⟩
theorem tw17479753345064623434:True:=⟨⟩
end PySem.W.Fast
end
set_option maxRecDepth 100000 in
set_option maxHeartbeats 0 in
theorem PySem.Challenge.cw_copymeet_k67_bags_of_deeds_holds : PySem.Challenge.rw_copymeet_k67_bags_of_deeds.Holds := by
 w_on; o_law; k_head; (case hw=>w_witness2)
 k_fill
 refine K67.walk (l:=PySem.Challenge.rw_copymeet_k67_bags_of_deeds) rfl rfl (fun w h Y=>PySem.W.kIn_of Y) ?F
 case F=>
  intro w mg fa h KX G hmg
  have hbn:∀ x∈K67.bsL,mg x=none:=fun x hx=>by
   iterate 12 (rcases List.mem_cons.mp hx with rfl | hx; · exact PySem.W.mg_none_of KX G (by k_is))
   cases hx
  refine' K67.all_mk KX G hmg hbn ?h0 ?h1 ?h2 ?h3 ?h4 ?h5 ?h6 ?h7 ?h8 ?h9 ?h10 ?h11 ?h12 ?h13 ?h14
  (case h0=>repeat' first | exact trivial | refine ⟨⟨_,by k_is,_,_,_,_,_,_,_,_,_,by k_is,by k_is,by k_is⟩,?_⟩)
  (case h1=>exact ⟨by k_is,by k_is,by k_is,by k_is,by k_is,by k_is,by k_is,by k_is,by k_is,by k_is,by k_is,by k_is,trivial⟩)
  (case h2=>repeat' first | exact trivial | refine ⟨⟨_,by k_is,by k_is,_,_,_,_,_,_,_,_,_,by k_is,by k_is,by k_is⟩,?_⟩)
  (case h3=>exact ⟨by k_is,by k_is,by k_is,by k_is,by k_is,by k_is,by k_is,by k_is,by k_is,by k_is,by k_is,by k_is,trivial⟩)
  (case h4=>repeat' first | exact trivial | refine ⟨⟨_,by k_is,by k_is,_,_,_,_,_,_,_,_,_,by k_is,by k_is,by k_is⟩,?_⟩)
  (case h5=>exact ⟨by k_is,by k_is,by k_is,by k_is,by k_is,by k_is,by k_is,by k_is,by k_is,by k_is,by k_is,by k_is,trivial⟩)
  (case h6=>repeat' first | exact trivial | refine ⟨⟨_,by k_is,by k_is,_,_,_,_,_,_,_,_,_,by k_is,by k_is,by k_is⟩,?_⟩)
  case h7|h8|h11|h12=>k_is
  (case h9=>exact ⟨rfl,⟨_,rfl⟩,⟨_,rfl⟩,rfl,⟨_,rfl⟩,⟨_,rfl⟩,rfl,⟨_,rfl⟩,⟨_,rfl⟩,rfl,⟨_,rfl⟩,⟨_,rfl⟩,rfl,⟨_,rfl⟩,⟨_,rfl⟩,rfl,⟨_,rfl⟩,⟨_,rfl⟩,rfl,⟨_,rfl⟩,⟨_,rfl⟩,rfl,⟨_,rfl⟩,⟨_,rfl⟩,trivial⟩)
  (case h10=>decide +kernel)
  (case h13=>exact (.cons ⟨_,rfl⟩ (.cons ⟨_,rfl⟩ .nil)))
  (case h14=>decide +kernel)
