import PyProof.Rows.All
import Wide.All
import OpenK.AllK
import Wide.FinOn
import Lean
import PyProof.EqAt
import PyProof.EqKinds
import PyProof.TupleCall
import PyProof.Rows.SortShell
import PyProof.NeKinds
import KE.KDictOf
import PyProof.AttrMissHeap
import PyProof.WalksMore
import PyProof.MeetsDict
import KE.KDictList
import KE.KRevIter
import PyProof.DictItemsLoops
import PyProof.DictWalks
import KE.KSortTup
import KE.KDictSum
import PyProof.SumAny
import PyProof.Conv_int_bool
import PyProof.Conv_int
import KE.KRevSl
import PyProof.MeetsStr
import PyProof.StrCalls3
import PyProof.Rows.TupDisplay
import PyProof.ZipIter
import PyProof.Draws
import PyProof.EnumMake
import PySem.Challenge.RW_copymeet_k44_written_into_a_mark
set_option compiler.extract_closed false
open PySem renaming wpAny_bind->XJ,wpAny_pure->XM,sizeLine->X5,starEach->Yr,compareOp->YD,wpAny_newObj_type->YJ,FuncData->YK,sizeLine_eq->YL,Spec->YQ,wpAny_callSpecial?_slot->YT,wpAny_holding->YZ,wpAny_call_entry->Y1,sysModules->Zf,cellsFrom->Zl,wpAny_dictEntries->Zp,mainGlobals->Zt,wpAny_mono->ZG,wpAny_field->ZL,binaryOp->ZQ,codeAny_builtin->ZW,wpAny_isInstance->ZY,wpAny_ite_false->y0b,wpAny_typeNameOfWhole_itemiter->y0d,wpAny_rule->y0f,wpAny_typeNameOfWhole_keyiter->y0n,DictEntry->y0o,wpAny_attempt->y0t,foldedSetIterable->y0z,wpAny_truthy_bool->y0A,assignEach->y0L,wpAny_notOrdered_dict->y0T,plainId_quiet->y0U,wpAny_setField_rec->y0W,wpAny_of_eq->y0Z,wpAny_typeNameOf_itemiter->y01,wpAny_typeNameOf_keyiter->y08,bootBuiltins->y09,mem_of_lookup->y1c,wpAny_seqItems->y1m,wpAny_Call_Name_kw->y1o,NameKind->y1p,wpAny_typeOf->y1v,wpAny_specialOf->y1y,wpAny_dictEpoch->y1A,attributeBase->y1I,wpAny_setState_of->y1L,wpAny_pyIter_list->y1M,dictSetDefault->y1T,wpAny_setField->y1U,wpAny_fieldsOf->y1V,firstArgMember->y1W,wpAny_askSetting->y10,codeAny_mono->y12
open List renaming getElem?_eq_some_iff->XN,length_map->XR,mem_append_right->XS,getElem?_map->XT,append_assoc->XU,mem_cons_of_mem->XW,getElem?_append_right->XX,mem_cons_self->XY,prefix_rfl->X0,size_toArray->X3,replicate->X4,length_append->X6,mem_append->X7,getD_eq_getElem?_getD->X8,length_take->X9,pairwise_append->Ya,getElem?_append_left->Yb,getElem?_eq_getElem->Yd,getElem?_set_ne->Ye,mem_cons->Yf,take_append_drop->Yh,length_drop->Yi,mem_of_mem_take->Ym,pairwise_iff_getElem->Yq,mem_map->Yt,mem_append_left->Yu,mem_of_getElem?->Yv,getElem_mem->Yw,lookup_cons->Yx,all_eq_true->Yy,mem_of_mem_drop->Yz,map_cons->YA,mem_singleton->YC,map_append->YF,length_cons->YM,range->YN,take_of_length_le->YW,append_nil->YY,drop_zero->Y0,map_map->Y2,getElem?_cons_succ->Y4,drop_eq_getElem_cons->Y5,getElem?_eq_none_iff->Y6,getElem_of_mem->Y7,cons_lt_cons_iff->Zc,getElem_take->Zh,ext_getElem?->Zi,length_set->Zm,nodup_append->Zo,prefix_append->Zu,length_replicate->Zw,nil_append->Zx,pairwise_reverse->Zy,mem_reverse->ZC,reverse_perm->ZF,not_mem_nil->ZJ,length_reverse->ZM,getElem_drop->ZP,pairwise_singleton->ZU,getElem?_set_self->ZZ,map_take->Z5,nodup_cons->Z7,getElem?_eq_none->y0a,mem_iff_getElem?->y0c,pairwise_cons->y0g,getElem?_replicate->y0q,all_cons->y0r,map_drop->y0s,take_add_one->y0C,length->y0F,replicate_succ->y0G,find?_cons->y0H,map_congr_left->y0I,perm_append_comm->y0Q,getElem?_zip_eq_some->y0Y,length_range->y06,pairwise_map->y07,map_nil->y1b,any_cons->y1d,length_eq_zero_iff->y1e,eraseIdx_cons_succ->y1f,filter_eq_self->y1g,cons_append->y1j,eq_nil_of_length_eq_zero->y1k,take_length->y1l,getElem?_drop->y1q,lookup->y1u,foldl_cons->y1w,length_filter_le->y1F,flatten_cons->y1J,mem_range->y1P,all_map->y16
open PySem.Heap renaming get?_push_of_some->XO,lt_size->XZ,get?_push_size->X2,get?_update_self->YR,get?_update_other->Y8,size_push->Zn,SameBut->Zv,get?_push_ne->y1K,size_update->y1Z
open PySem.W renaming Frag->XQ,findIn->YI,keepIn->ZH,emptyDict->ZO,fnOf->ZX,instObj->y0D,plainGet->y0M,hasDictIn->y02,makesIn->y1t,plainOver->y1H,codeIn->y1Q,nsIn->y2a
open Nat renaming le_refl->X1,ne_of_lt->Yj,lt_of_lt_of_le->Yl,zero_le->YE,le_trans->Y9,ne_of_gt->Za,add_sub_cancel_left->Zk,lt_irrefl->ZD,zero_add->Z9,sub_zero->y0v,le_add_right->y0O,le_of_lt->y1a,lt_succ_self->y1i,add_zero->y14,sub_self->y15
open PyProof.Rows renaming wpS_bind->Yc,wpS_pure->Yk,pendingOf->YS,slot_tuple_getitem->Zg,wpS_forRange->Zr,callWith_type1->ZT,SortKind->y0e,wpS_mono->y0h,failedOf->y0P,listUpdate_at->y0S,setPending->y05,get?_update_seq->y1z
open Bool renaming false_ne_true->Yg,false_eq_true->YG,and_eq_true->YU,eq_iff_iff->Y3,not_eq_true'->y0B,beq_eq_decide_eq->y1E
open PySem.Value renaming none->Yn,ref->YH,type->y0y,str->y1h
open Option renaming map_eq_some_iff->Yo,isSome_iff_exists->y03
open Option.some renaming inj->Yp
open List.Perm renaming append_left->Ys,refl->Zd,append_right->Z0,trans->Z8
open PySem.Heap.SameBut renaming update->YB
open PySem.Obj renaming mapSeq->YO,data_mapDictKeys->y0p,mapFields->y0V,data_mapFields->y1r,isFreed_of_fields->y1C
open PySem.Paired renaming length->YV
open Array renaming getElem?_eq_getElem->YX,getElem?_eq_none->Ze,length_toList->y0E,getElem?_toList->y0R,toList_inj->y1Y
open PySem.NameKind renaming free->Zb,cell->y19
open PySem.Str renaming ofString->Zj
open PySem.Builtin.Tuple renaming tupleHashOf->Zq,tupleExact->y04,tupleItemsOf->y1N
open PySem.Around renaming under_plainId->Zs
open PySem.Builtin.List renaming listExtendWith->Zz,listSameRef->y0j,listTouch->y1n,listLengthHint->y1D,listTooLong->y13
open List.Pairwise renaming nil->ZE
open PySem.F renaming slot_dict_itemiterator_next->ZI,slot_dict_keyiterator_next->ZS,plain_extend_loop->Z6,slot_list_append->y0l,type_list_append->y0m,plainAttrs_list->y0u,slot_dict_setdefault->y1s,slot_zip_next->y1G,called_set->y17
open Ne renaming symm->ZK
open PySem.Builtin.SmallTypes renaming ownedTupleIsFree->ZN,nextOf->y00,ownedTupleHandOut->y1X
open PySem.Builtin.Dict_items renaming ownsTuple->ZR,ownedTupleIsFree->y11
open Classical renaming propDecidable->ZV
open False renaming elim->Z1
open Int renaming toNat_natCast->Z4,emod_lt_of_pos->y0k,emod_nonneg->y0J,toNat_of_nonneg->y0K
open Prod renaming fst->y0i
open PySem.SetTable renaming fresh->y0w
open PyProof.Rows.F renaming plain_set_update_loop->y0x
open True renaming intro->y0N
open PySem.Builtin.Slice renaming slicePlaces->y0X,sliceAdjust->y1R
open PySem.Builtin.Str renaming strSliceIndices->y1x
open PySem.Builtin.Dict renaming showsAll->y1B,keyAndDefault->y1O
open PySem.Txt renaming slice->y1S
open ForInStep renaming yield->y18
open PySem PySem.Spec PyProof.Rows
open Option renaming some->a_,none->b_
open PySem renaming Value->n_,Shared->oa,Addr->o_,Around->q_,Heap->r_,World->s_,Program->td,Expr->t_,Stmt->u_
local macro_rules|`(qa_ $n $x $y)=>`(show List.map some $x++List.replicate ($n-($x).length) none=$y from rfl)
local macro_rules|`(qb_ 0)=>`(⟨_,by k_is,by k_is,_,_,_,_,_,_,_,_,_,by k_is,by k_is,by k_is⟩)
local macro_rules|`(qc_ 0)=>`(⟨_,by k_is,_,_,_,_,_,_,_,_,_,by k_is,by k_is,by k_is⟩)
local macro_rules|`(tactic|omega)=>`(tactic|lia)
local macro_rules|`(gV 0)=>`(⟨rfl,rfl,rfl,by decide +kernel,rfl,by decide +kernel,by decide +kernel⟩)
local macro_rules|`(cu $x)=>`(some (.ref $x))
local macro_rules|`(cx $x)=>`(some (.int $x))
local macro_rules|`(fI $x)=>`(PySem.model ($x).prog ($x).w)
local macro_rules|`(c_ $x)=>`(($x).heap.objs.size)
local macro_rules|`(d_ 0)=>`(PySem.Value->PySem.Shared->Prop)
local macro_rules|`(e_ 0)=>`(List (PySem.Addr×PySem.Obj))
local macro_rules|`(g_ $x)=>`($x->PySem.Shared->Prop)
local macro_rules|`(jn $p $w $x*)=>`(PySem.wpAny (PySem.model $p $w) $x*)
local macro_rules|`(i_ $x)=>`(by simpa using $x)
local macro_rules|`(⋯)=>`(by omega)
local macro_rules|`(nofun)=>`(by decide)
local macro_rules|`(j_ 0)=>`(Array (Option PySem.Value))
local macro_rules|`(ke 0)=>`(PySem.Str->Option PySem.Value)
open Lean Parser Tactic in
def k_:Nat->Syntax->MacroM (TSyntax `rcasesPat)
|n+1,s=>match s with
 |`($x:ident)=>`(rcasesPat|$x:ident)
 |`(⟨$xs,*⟩)=>do
  let ys<-xs.getElems.mapM λx=>do`(rcasesPatLo|$(<-k_ n x):rcasesPat)
  `(rcasesPat|⟨$ys,*⟩)
 |_=>`(rcasesPat|_)
|_,_=>Macro.throwUnsupported
open Lean Parser Tactic in
local macro_rules|`(tactic|let $p:term:=$e)=>do let q<-`(rcasesPatMed|$(<-k_ 9 p):rcasesPat);`(tactic|obtain $q:rcasesPatMed:=$e)
local macro_rules|`(ve $x)=>`(List $x)
local macro_rules|`(v_ $x)=>`(Option $x)
set_option bootstrap.genMatcherCode false
set_option Elab.async false
set_option linter.all false
set_option maxRecDepth 1000000
set_option maxHeartbeats 4000000
noncomputable section
set_option genSizeOf false
local macro_rules|`(tactic|let $x:ident:=$e)=>`(tactic|have $x:ident:=$e)
local macro_rules|`(tactic|let $x:ident : $t :=$e)=>`(tactic|have $x:ident : $t :=$e)
local macro_rules|`(tactic|show $e)=>`(tactic|exact $e)
set_option hygiene false
local macro_rules|`(f_ $x*)=>`(Inv X FR σ $x*)
local macro_rules|`(m_ $x*)=>`(bD P w K mg base CX0 $x*)
local macro_rules|`(p_ 0)=>`(Ask M A E s κ pr n lt)
local macro_rules|`(w_ 0)=>`(Array Keyed)
local macro_rules|`(x_ $x*)=>`(jn prog w A $x*)
local macro_rules|`(y_ $x*)=>`(RV C φ H $x*)
local macro_rules|`(z_ $x*)=>`(wpAny _ _ $x*)
local macro_rules|`(A_ $x*)=>`(StateT SortSt Sem $x*)
local macro_rules|`(B_ $x*)=>`(arr pr $x*)
local macro_rules|`(C_ $x*)=>`(RVs C φ H $x*)
local macro_rules|`(D_ 0)=>`(cC w K cl)
local macro_rules|`(E_ $x*)=>`(wpS M A E s $x*)
local macro_rules|`(F_ $x*)=>`(aD vAt $x*)
local macro_rules|`(G_ $x*)=>`(SE C k X $x*)
local macro_rules|`(H_ $x*)=>`(RH C φ H $x*)
local macro_rules|`(I_ 0)=>`(s.heap.get? b)
local macro_rules|`(J_ 0)=>`(MI lt la lb lo ia ib)
local macro_rules|`(K_ 0)=>`(clF aI aJ aN)
local macro_rules|`(L_ $x*)=>`(Rn pr κ lt n $x*)
local macro_rules|`(M_ $x*)=>`(po.val rh $x*)
local macro_rules|`(N_ 0)=>`(MH lt la lb lo na nb)
local macro_rules|`(O_ $x*)=>`(Ext.app _ $x*)
local macro_rules|`(P_ $x*)=>`(f_ H $x*)
local macro_rules|`(Q_ $x*)=>`(post C φ H $x*)
local macro_rules|`(R_ 0)=>`(D.depths ds)
local macro_rules|`(S_ 0)=>`(Two lt n la lb)
local macro_rules|`(T_ $x*)=>`(bD X.prog X.w X.K X.mg X.base $x*)
local macro_rules|`(U_ $x*)=>`(X.comp sc N $x*)
local macro_rules|`(V_ 0)=>`(sd M z.1.1)
local macro_rules|`(W_ 0)=>`(ve Nat)
local macro_rules|`(X_ $x*)=>`(Mgd pr lt la lb $x*)
local macro_rules|`(Y_ $x*)=>`(kR X.env.cells sc.names $x*)
local macro_rules|`(Z_ 0)=>`(X.env.cells.lookup x)
local macro_rules|`(q0a 0)=>`(if_neg nofun)
local macro_rules|`(q0b $x*)=>`(HT.sIx xs.length $x*)
local macro_rules|`(q0c 0)=>`(X.env.scope.names.lookup x)
local macro_rules|`(q0d $x*)=>`(bD X.prog X.w C.K X.mg X.base CX0 j $x*)
local macro_rules|`(q0e $x*)=>`(sIx items.size $x*)
local macro_rules|`(q0f $x*)=>`(tMt P w K mg base cl $x*)
local macro_rules|`(q0g $x*)=>`(s.heap.update a $x*)
local macro_rules|`(q0h 0)=>`(re.mono p1 t1)
local macro_rules|`(q0i 0)=>`(Yr es X.env)
local macro_rules|`(q0j 0)=>`(eval e X.env)
local macro_rules|`(q0k $x*)=>`(OpS C k X $x*)
local macro_rules|`(q0l $x*)=>`(rh.at' n a _ ha $x*)
local macro_rules|`(q0m 0)=>`(jX u s hd n w.length)
local macro_rules|`(q0n $x*)=>`(Cxt C k $x*)
local macro_rules|`(q0o $x*)=>`(tMt l.prog w K mg base $x*)
local macro_rules|`(q0p 0)=>`(Array n_)
local macro_rules|`(q0q $x*)=>`(EP X FR σ $x*)
local macro_rules|`(q0r $x*)=>`(upd H $x*)
local macro_rules|`(q0s 0)=>`(if_pos rfl)
local macro_rules|`(q0t $x*)=>`(h FR s σ H $x*)
local macro_rules|`(q0u 0)=>`(vs.getD i Yn)
local macro_rules|`(q0v 0)=>`(RE C φ H δ σ)
local macro_rules|`(q0w 0)=>`(ns.map PV.int)
local macro_rules|`(q0x 0)=>`(Ext h h')
local macro_rules|`(q0y $x*)=>`(cI h t a d m l R $x*)
local macro_rules|`(q0z 0)=>`(out.push z)
local macro_rules|`(q0A 0)=>`(h'.get? b)
local macro_rules|`(q0B 0)=>`(sc.names.lookup x)
local macro_rules|`(q0C 0)=>`(s.heap.get? a)
local macro_rules|`(q0D $x*)=>`(FI CX P w K mg base N qual scope f $x*)
local macro_rules|`(q0E 0)=>`(Dv δ ns hd t M l5 l10)
local macro_rules|`(q0F $x*)=>`(aD aR $x*)
local macro_rules|`(q0G 0)=>`(RH C φ1 H1 h1)
local macro_rules|`(q0H $x*)=>`(RH C φ' H' $x*)
local macro_rules|`(q0I $x*)=>`(Tl pr κ X $x*)
local macro_rules|`(q0J $x*)=>`(OpR X $x*)
local macro_rules|`(q0K 0)=>`(cA u s hd n w)
local macro_rules|`(q0L $x*)=>`(katRev b $x*)
local macro_rules|`(q0M 0)=>`(model prog w)
local macro_rules|`(q0N 0)=>`(ha FR s σ H _ I h)
local macro_rules|`(q0O 0)=>`(X2 _ rfl)
local macro_rules|`(q0P 0)=>`(ha pos FR s σ H _ I h)
local macro_rules|`(q0Q $x*)=>`(backTo pos $x*)
local macro_rules|`(q0R $x*)=>`(slotAt w t $x*)
local macro_rules|`(q0S $x*)=>`(SqL K H $x*)
local macro_rules|`(q0T $x*)=>`(aY δ $x*)
local macro_rules|`(q0U 0)=>`(U_ C fp s₀ H₀)
local macro_rules|`(q0V 0)=>`(RKd C φ H kvs ks)
local macro_rules|`(q0W 0)=>`(uO I c.K c.w rh ha ht)
local macro_rules|`(q0X 0)=>`(cu h.length)
local macro_rules|`(q0Y $x*)=>`(congrArg y0F $x*)
local macro_rules|`(q0Z $x*)=>`(Draws prog w A $x*)
local macro_rules|`(q0_ $x*)=>`(envOfC qual scope $x*)
local macro_rules|`(q1a $x*)=>`(O.tr _ _ _ $x*)
local macro_rules|`(q1b $x*)=>`(SqT K H $x*)
local macro_rules|`(q1c 0)=>`(fB a b out na nb)
local macro_rules|`(q1d 0)=>`(Z.take m)
local macro_rules|`(q1e $x*)=>`(RKv C φ H $x*)
local macro_rules|`(q1f $x*)=>`(RelV x $x*)
local macro_rules|`(q1g $x*)=>`(atKey xs $x*)
local macro_rules|`(q1h $x*)=>`(mCB dN $x*)
local macro_rules|`(q1i 0)=>`(q0e items.size hi)
local macro_rules|`(q1j 0)=>`(kindOf st)
local macro_rules|`(q1k 0)=>`(Z'.getD i 0)
local macro_rules|`(q1l 0)=>`(JT h t a d m l R M l5 zs b)
local macro_rules|`(q1m 0)=>`(dB dG cG fW nofun hU hV eN)
local macro_rules|`(q1n $x*)=>`(iA left key arr base $x*)
local macro_rules|`(q1o $x*)=>`(Def K mg $x*)
local macro_rules|`(q1p $x*)=>`(HOk P w H $x*)
local macro_rules|`(q1q $x*)=>`(Inv X FR σ' H' $x*)
local macro_rules|`(q1r $x*)=>`(isD X.K H $x*)
local macro_rules|`(q1s $x*)=>`(jn prog w A.in1 $x*)
local macro_rules|`(q1t $x*)=>`(HR s.heap $x*)
local macro_rules|`(q1u 0)=>`(la.getD ia 0)
local macro_rules|`(q1v 0)=>`(c.2.2.2.1.push z)
local macro_rules|`(q1w 0)=>`(YN vs.length)
local macro_rules|`(q1x 0)=>`(nM w a ep es)
local macro_rules|`(tactic|rfl')=>`(tactic|refine now ?_)
local macro_rules|`(def $i:declId $s:optDeclSig $v:declVal)=>`(noncomputable def $i:declId $s:optDeclSig $v:declVal)
namespace L2
abbrev Key:=Sum Int Str
def zL:Key->n_->Bool
 |.inl k,v=>Value.isInt k v
 |.inr x,v=>Value.isStrOf x v
def Q4(w:s_):Key->Int
 |.inl k=>hashInt k
 |.inr x=>hashStr w x
theorem cQ:∀{k:Key}{v:n_},zL k v=true->(∃i t,k=Sum.inl i/\v=Value.int i t)\/(∃x t,k=Sum.inr x/\v=y1h x t)
 |.inl i,v,h=>by let⟨t,e⟩:=Value.isInt_shape (k:=i) (v:=v) h;show .inl ⟨i,t,rfl,e⟩
 |.inr x,v,h=>by let⟨t,e⟩:=Value.isStrOf_shape (x:=x) (v:=v) h;show .inr ⟨x,t,rfl,e⟩
theorem HZ(i:Int)(t:Tok):zL (.inl i) (.int i t)=true:=by simp[zL,Value.isInt]
theorem I0(x:Str)(t:Tok):zL (.inr x) (.str x t)=true:=by simp[zL,Value.isStrOf]
theorem Q5(a b:Int):decide ((Sum.inl a:Key)=Sum.inl b)=(a == b):=by
 by_cases e:a=b
 ·subst e;simp
 ·let h:¬ (Sum.inl a:Key)=Sum.inl b:=λq=>e (Sum.inl.inj q);rw[decide_eq_false h];show(beq_eq_false_iff_ne.mpr e).symm
theorem Q6(a b:Str):decide ((Sum.inr a:Key)=Sum.inr b)=decide (a=b):=by
 by_cases e:a=b
 ·subst e;simp
 ·let h:¬ (Sum.inr a:Key)=Sum.inr b:=λq=>e (Sum.inr.inj q);rw[decide_eq_false h,decide_eq_false e]
theorem Q7(a:Int)(b:Str):decide ((Sum.inl a:Key)=Sum.inr b)=false:=decide_eq_false (λq=>nomatch q)
theorem Q8(a:Str)(b:Int):decide ((Sum.inr a:Key)=Sum.inl b)=false:=decide_eq_false (λq=>nomatch q)
def dY(prog:td)(w:s_):PySem.KeyKind prog w Key where
 is:=zL
 hash:=Q4 w
 inj:=λv a b ha hb=>by
  rcases cQ ha with⟨i,t,rfl,rfl⟩|⟨x,t,rfl,rfl⟩
  ·rcases cQ hb with⟨j,u,rfl,e⟩|⟨y,u,rfl,e⟩
   ·injection e with e1 _;rw[e1]
   ·show nomatch e
  ·rcases cQ hb with⟨j,u,rfl,e⟩|⟨y,u,rfl,e⟩
   ·show nomatch e
   ·injection e with e1 _;rw[e1]
 byValue:=λk v h=>by rcases cQ h with⟨i,t,rfl,rfl⟩|⟨x,t,rfl,rfl⟩ <;> rfl
 pyHash:=λhv h=>by
  rcases cQ hv with⟨i,t,rfl,rfl⟩|⟨x,t,rfl,rfl⟩
  ·show wpAny_pyHash_int h
  ·show wpAny_pyHash_str h
 eqBool:=λhu hv h=>by
  rcases cQ hu with⟨i,t,rfl,rfl⟩|⟨x,t,rfl,rfl⟩
  ·rcases cQ hv with⟨j,u,rfl,rfl⟩|⟨y,u,rfl,rfl⟩
   ·rw[Q5]at h;show wpAny_eqBool_int h
   ·rw[Q7]at h;show SeqAt.EqAt.int_str i t y u _ _ _ _ h
  ·rcases cQ hv with⟨j,u,rfl,rfl⟩|⟨y,u,rfl,rfl⟩
   ·rw[Q8]at h;show SeqAt.EqAt.str_int x t j u _ _ _ _ h
   ·rw[Q6]at h;show wpAny_eqBool_str h
 «strs»:=λk x t v h=>by
  rcases cQ h with⟨i,u,rfl,e⟩|⟨y,u,rfl,e⟩
  ·show nomatch e
  ·injection e with e1 _;subst e1;cases v <;> rfl
theorem DF(prog:td)(w:s_)(i:Int)(t:Tok):(dY prog w).is (.inl i) (.int i t)=true:=HZ i t
theorem DG(prog:td)(w:s_)(x:Str)(t:Tok):(dY prog w).is (.inr x) (.str x t)=true:=I0 x t
inductive V where
 |non|bl (b:Bool)|int (i:Int)|str (x:Str)|byt (b:Array UInt8)|flt (b:UInt64)|ref (a:Addr)|ty (n:String)
 deriving DecidableEq
def RelV:V->n_->Prop
 |.non,u=>u=Yn
 |.bl b,u=>u=Value.bool b
 |.int i,u=>∃t,u=Value.int i t
 |.str x,u=>∃t,u=y1h x t
 |.byt b,u=>∃t,u=Value.bytes b t
 |.flt b,u=>∃t,u=Value.float b t
 |.ref a,u=>u=YH a
 |.ty n,u=>u=y0y n
abbrev aW:ve V->ve n_->Prop:=Paired RelV
variable{us:ve n_}
theorem aW.length{xs:ve V}(r:aW xs us):xs.length=us.length:=YV r
theorem aW.get:∀{xs:ve V}{us:ve n_}{i:Nat}{x:V},aW xs us->xs[i]?=a_ x->∃u,us[i]?=a_ u/\q1f u
 |_,_,_,_,.nil,e=>by simp at e
 |_,_,0,_,.cons r _,e=>by simp at e;subst e;show⟨_,rfl,r⟩
 |_,_,i+1,x,.cons _ t,e=>by
  let⟨u,h1,h2⟩:=aW.get (i:=i) (x:=x) t (i_ e);show⟨u,i_ h1,h2⟩
variable{u:n_}
theorem aW.set{x:V}(r:q1f u):∀{xs:ve V}{us:ve n_}(i:Nat),aW xs us->aW (xs.set i x) (us.set i u)
 |_,_,_,.nil=>.nil
 |_,_,0,.cons _ t=>.cons r t
 |_,_,i+1,.cons q t=>.cons q (aW.set r i t)
theorem aW.append:∀{xs ys:ve V}{us ws:ve n_},aW xs us->aW ys ws->aW (xs++ys) (us++ws)
 |_,_,_,_,.nil,s=>s
 |_,_,_,_,.cons r t,s=>.cons r (aW.append t s)
theorem aW.take:∀{xs:ve V}{us:ve n_}(n:Nat),aW xs us->aW (xs.take n) (us.take n)
 |_,_,0,_=>.nil
 |_,_,_+1,.nil=>.nil
 |_,_,n+1,.cons r t=>.cons r (aW.take n t)
theorem aW.drop:∀{xs:ve V}{us:ve n_}(n:Nat),aW xs us->aW (xs.drop n) (us.drop n)
 |_,_,0,r=>r
 |_,_,_+1,.nil=>.nil
 |_,_,n+1,.cons _ t=>aW.drop n t
def rT:v_ V->v_ n_->Prop
 |some v,a_ u=>RelV v u
 |none,b_=>True
 |_,_=>False
def KV{κ:Type}:ve (κ×V)->ve (κ×n_)->Prop:=Paired λ(p:κ×V)(q:κ×n_)=>p.1=q.1/\RelV p.2 q.2
def kV:Key->V
 |.inl i=>.int i
 |.inr x=>.str x
inductive HO where
 /-- a list -/
 |lst (xs:ve V)
 /-- a tuple (never changes) -/
 |tup (xs:ve V)
 /-- a dict whose keys are ints and texts;one whose keys are tuples of ints and texts (the empty one is both) -/
 |dK (kvs:ve (Key×V))|dT (kvs:ve (ve Key×V))
 /-- a set of ints: its members,its size -/
 |set (S:Int->Bool) (n:Nat)
 /-- an instance of the class at C,its dict at dx,its attributes -/
 |ins (C dx:Addr) (fs:ve (Str×V))
 /-- the dict of the instance at x -/
 |own (x:Addr)
 /-- the dict of an exception -/
 |xd (fs:ve (Str×V))
 /-- a bound method,f of x -/
 |met (f x:Addr)
 /-- a range object lo,lo+1,.. below hi -/
 |rng (lo hi:Int)
 /-- a thing that is known to the object (the script;a dict while a loop walks it): read,never written while it is so -/
 |frz (o:Obj) (u:HO)
 /-- a code object's table -/
 |tbl (ps:Array Value)
 /-- any other thing,by what is true of its one object (a def of one's own: SetO a S n:=HO.ext λh=>..) -/
 |ext (φ:Heap->Prop)
abbrev Hp:=o_->v_ HO
def upd(H:Hp)(a:o_)(o:HO):Hp:=λb=>if b=a then a_ o else H b
variable{H:Hp}{a:o_}{o:HO}
theorem bH:q0r a o a=a_ o:=by unfold upd;rw[q0s 0]
theorem aS{b:o_}(h:b≠a):q0r a o b=H b:=by unfold upd;rw[if_neg h]
theorem Sr{b:o_}{u:HO}(h:H a=a_ o)(h':H b=a_ u)(d:o≠u):a≠b:=by intro e;subst e;rw[h]at h';show d (Yp h')
theorem eU{b:o_}(h:H a=a_ o)(h':H b=b_):a≠b:=by intro e;subst e;rw[h]at h';cases h'
def yI(h:r_)(a:o_)(items:q0p 0):Prop:=∃o,h.get? a=a_ o/\o.cls=.type "tuple" /\ (∃n,o.data=.seq items n)/\o.dict=b_
variable{items:q0p 0}
theorem yI.is{h:r_}(x:yI h a items):PyProof.Rows.IsTup h a items:=let ⟨o,h1,h2,h3,_⟩:=x;⟨o,h1,h2,h3⟩
theorem yI.lt{h:r_}(x:yI h a items):a<h.objs.size:=let ⟨_,h1,_⟩:=x;XZ h1
theorem yI.new(h:r_)(items:q0p 0):yI (h.push {cls:=.type "tuple",data:=.seq items 0}) h.objs.size items:=⟨_,q0O 0,rfl,⟨_,rfl⟩,rfl⟩
section
variable(P:td)(w:s_)
def dZ(H:Hp)(h:r_)(a:o_):HO->Prop
 |.lst xs=>xs.length<=X5/\∃(its:ve n_)(n:Nat),aW xs its/\h.get? a=a_ {cls:=.type "list",data:=.seq its.toArray n}
 |.tup xs=>xs.length<=X5/\∃its:ve n_,aW xs its/\yI h a its.toArray
 |.dK kvs=>kvs.length<=X5/\(a == Zf)=false/\∃vs,KV kvs vs/\h.DictOf (dY P w) a vs
 | .dT kvs=>kvs.length<=X5/\(a == Zf)=false/\∃ xs:ve (ve Key×o_×n_),
   Paired (λ(p:ve Key×V)(q:ve Key×o_×n_)=>p.1=q.1/\H q.2.1=a_ (.tup (p.1.map kV))/\RelV p.2 q.2.2) kvs xs/\
   ∃o es ep,h.get? a=a_ o/\o.ExactDict/\o.data=.dict es ep/\es.toList=xs.map (entryOfKey (tupleKind (dY P w)))/\(xs.map (·.1)).Nodup
 |.set S n=>h.SetOf (intKind P w) a S n
 | .ins C dx fs=>H dx=a_ (.own a)/\fs.length<=1000/\dx≠a/\h.get? a=a_ (y0D C dx)/\
   ∃mA,h.Ns1 dx mA/\(∀f,rT (fs.lookup f) (mA f))/\PySem.Within mA (fs.map (·.1))
 |.own _=>∃o,h.get? a=a_ o
 |.xd fs=>∃mA,h.Ns1 a mA/\∀f,rT (fs.lookup f) (mA f)
 |.rng lo hi=>∃t u v,h.get? a=a_ {cls:=.type "range",data:=.fields #[.int lo t,.int hi u,.int 1 v]}
 |.frz o u=>h.get? a=a_ o/\dZ H h a u
 |.tbl ps=>h.get? a=a_ {cls:=.none,data:=.fields ps}
 |.met f x=>h.get? a=a_ (PySem.W.methodObj (.ref f) (.ref x))
 |.ext φ=>φ h/\(∃o,h.get? a=a_ o)/\∀h1 h2:r_,φ h1->(∀o,h1.get? a=a_ o->h2.get? a=a_ o)->φ h2
def HOk(H:Hp)(h:r_):Prop:=∀a o,H a=a_ o->dZ P w H h a o
end
variable{P:td}{w:s_}
theorem dZ.lt{h:r_}(x:dZ P w H h a o):a<h.objs.size:=by
 cases o with
 |lst xs=>let⟨_,_,_,_,e⟩:=x;show XZ e
 |tup xs=>let⟨_,_,_,p⟩:=x;show yI.lt p
 |dK kvs=>let⟨_,_,_,_,o,_,_,e,_⟩:=x;show XZ e
 |dT kvs=>let⟨_,_,_,_,o,_,_,e,_⟩:=x;show XZ e
 |set S n=>let⟨o,_,_,_,e,_⟩:=x;show XZ e
 |ins C dx fs=>let⟨_,_,_,e,_⟩:=x;show XZ e
 |own y=>let⟨_,e⟩:=x;show XZ e
 |xd fs=>let⟨_,⟨_,_,_,e,_⟩,_⟩:=x;show XZ e
 |rng lo hi=>let⟨_,_,_,e⟩:=x;show XZ e
 |frz ob u=>let⟨e,_⟩:=x;show XZ e
 |tbl ps=>exact XZ (show h.get? a=a_ _ from x)
 |met f y=>exact XZ (show h.get? a=a_ _ from x)
 |ext φ=>let⟨_,⟨_,e⟩,_⟩:=x;show XZ e
theorem Paired.mapP{α β:Type}{F G:α->β->Prop}:∀{l₁:ve α}{l₂:ve β},Paired F l₁ l₂->(∀a b,F a b->G a b)->Paired G l₁ l₂
 |_,_,.nil,_=>.nil
 |_,_,.cons r t,f=>.cons (f _ _ r) (Paired.mapP t f)
variable{H':Hp}{h':r_}
theorem dZ.stay{h:r_}(x:dZ P w H h a o)(k:∀b u,(b=a\/H b=a_ (.own a))->h.get? b=a_ u->q0A 0=a_ u)(ho:∀b,H b=a_ (.own a)->H' b=a_ (.own a))(ht:∀b xs,H b=a_ (.tup xs)->H' b=a_ (.tup xs)):dZ P w H' h' a o:=by
 induction o with
 |lst xs=>let⟨z,its,n,r,e⟩:=x;show⟨z,its,n,r,k _ _ (.inl rfl) e⟩
 |tup xs=>let⟨z,its,r,ob,e,c⟩:=x;show⟨z,its,r,ob,k _ _ (.inl rfl) e,c⟩
 |dK kvs=>let⟨z,y,vs,r,ob,es,ep,e,c⟩:=x;show⟨z,y,vs,r,ob,es,ep,k _ _ (.inl rfl) e,c⟩
 |dT kvs=>let⟨z,y,xs,r,ob,es,ep,e,c⟩:=x;show⟨z,y,xs,Paired.mapP r λp q z=>⟨z.1,ht _ _ z.2.1,z.2.2⟩,ob,es,ep,k _ _ (.inl rfl) e,c⟩
 |set S n=>let⟨ob,es,ep,t,e,c⟩:=x;show⟨ob,es,ep,t,k _ _ (.inl rfl) e,c⟩
 |ins C dx fs=>let⟨d,z,ne,e,mA,⟨od,es,ep,e2,c⟩,r⟩:=x;show⟨ho _ d,z,ne,k _ _ (.inl rfl) e,mA,⟨od,es,ep,k _ _ (.inr d) e2,c⟩,r⟩
 |own y=>let⟨ob,e⟩:=x;show⟨ob,k _ _ (.inl rfl) e⟩
 |xd fs=>let⟨mA,⟨od,es,ep,e,c⟩,r⟩:=x;show⟨mA,⟨od,es,ep,k _ _ (.inl rfl) e,c⟩,r⟩
 |rng lo hi=>let⟨t,u,v,e⟩:=x;show⟨t,u,v,k _ _ (.inl rfl) e⟩
 |frz ob u ih=>let⟨e,q⟩:=x;show⟨k _ _ (.inl rfl) e,ih q⟩
 |tbl ps=>
  let e:h.get? a=a_ {cls:=.none,data:=.fields ps}:=x
  change h'.get? a=a_ {cls:=.none,data:=.fields ps}
  show k a _ (.inl rfl) e
 |met f y=>
  let e:h.get? a=a_ (PySem.W.methodObj (.ref f) (.ref y)):=x
  change h'.get? a=a_ (PySem.W.methodObj (.ref f) (.ref y))
  show k a _ (.inl rfl) e
 |ext φ=>let⟨p,⟨o,e⟩,st⟩:=x;show⟨st _ _ p λo q=>k _ _ (.inl rfl) q,⟨o,k _ _ (.inl rfl) e⟩,st⟩
theorem HOk.lt{h:r_}(x:q1p h)(e:H a=a_ o):a<h.objs.size:=(x a o e).lt
theorem HOk.fresh{h:r_}(x:q1p h)(e:h.objs.size<=a):H a=b_:=by
 cases q:H a with
 |none=>rfl
 |some u=>exact absurd (Yl (x.lt q) e) (ZD _)
theorem HOk.kept{h:r_}(x:q1p h)(k:∀b u,h.get? b=a_ u->q0A 0=a_ u):q1p h':=λa o e=>(x a o e).stay (λb u _ q=>k b u q) (λ_ q=>q) λ_ _ q=>q
theorem HOk.laid{h:r_}(x:q1p h)(k:∀b u,h.get? b=a_ u->q0A 0=a_ u)(hp:h.objs.size<=a)(new:dZ P w (q0r a o) h' a o):HOk P w (q0r a o) h':=λb u e=>by
 let hn:=x.fresh hp;by_cases hb:b=a
 ·subst hb;rw[bH]at e;cases e;show new
 ·rw[aS hb]at e;show(x b u e).stay (λc v _ q=>k c v q) (λc q=>by rw[aS (eU q hn)];show q) λc xs q=>by rw[aS (eU q hn)];show q
def Rd(H:Hp)(a:o_)(u:HO):Prop:=H a=a_ u\/∃o,H a=a_ (.frz o u)
theorem Rd.ok{h:r_}{u:HO}(r:Rd H a u)(x:q1p h):dZ P w H h a u:=by
 rcases r with r|⟨o,r⟩
 ·show x a u r
 ·let⟨_,q⟩:=x a _ r;show q
def Mut:v_ HO->Prop
 |some (.lst _)=>True
 |some (.dK _)=>True
 |some (.dT _)=>True
 |some (.set _ _)=>True
 |some (.ins _ _ _)=>True
 |some (.ext _)=>True
 |_=>False
section
variable{h:r_}{x e:o_}{o':HO}
theorem HOk.write(ok:q1p h)(mu:Mut (H x))(he:e=x\/H e=a_ (.own x))(k:∀b u,b≠e->h.get? b=a_ u->q0A 0=a_ u)(mx:∃u,h'.get? e=a_ u)
  (new:dZ P w (q0r x o') h' x o'):HOk P w (q0r x o') h':=λb u q=>by
 let qm:∀c y,H c=a_ (.own y)->c≠x:=λc y r z=>by subst z;rw[r]at mu;show mu
 let vk:∀c xs,H c=a_ (.tup xs)->c≠x:=λc xs r z=>by subst z;rw[r]at mu;show mu
 by_cases hb:b=x
 ·subst hb;rw[bH]at q;cases q;show new
 ·rw[aS hb]at q;by_cases hbe:b=e
  ·let q':H b=a_ (.own x):=by
    rcases he with z|z
    ·show absurd (hbe.trans z) hb
    ·rw[hbe];show z
   rw[q]at q';cases q';let⟨v,hv⟩:=mx;show⟨v,by rw[hbe];show hv⟩
  ·refine(ok b u q).stay (λc v hc r=>k c v ?_ r) (λc r=>by rw[aS (qm c b r)];show r) λc xs r=>by rw[aS (vk c xs r)];show r
   rcases hc with rfl|hc
   ·show hbe
   ·rintro rfl;rcases he with z|z
    ·show qm c b hc z
    ·rw[hc]at z;cases z;show hb rfl
end
structure Un(fs ex:ve o_)(H H':Hp)(h h':r_):Prop where
 keep:∀b o,h.get? b=some o->H b=none->b∉fs->b∉ex->h'.get? b=some o
 slot:∀b o,h.get? b=some o->H b=none->b∈fs->b∉ex->∃sl,h'.get? b=some { o with slots:=sl}
 free:∀b o,h.get? b=some o->H b=none->b∉ex->H' b=none
 there:∀b o,h.get? b=some o->b∉ex->∃o',h'.get? b=some o'
 tups:∀b xs,H b=some (.tup xs)->H' b=some (.tup xs)
 frzs:∀b o u,H b=some (.frz o u)->H' b=some (.frz o u)
 tbls:∀b ps,H b=some (.tbl ps)->∃more,H' b=some (.tbl (ps++more))
variable{H1:Hp}{ex:ve o_}{ob:Obj}
section
variable{fs ym ex':ve o_}{h h1 h2:r_}{x e:o_}
theorem Un.any(u:Un fs ex H H1 h h1){b:o_}(q:h.get? b=a_ ob)(n:H b=b_)(hx:b∉ex):∃sl,h1.get? b=a_ { ob with slots:=sl}:=by
 by_cases hb:b∈fs
 ·show u.slot b ob q n hb hx
 ·show⟨ob.slots,u.keep b ob q n hb hx⟩
theorem Un.kept(k:∀b u,h.get? b=a_ u->q0A 0=a_ u):Un fs ex H H h h':=⟨λb ob q _ _ _=>k b ob q,λb ob q _ _ _=>⟨ob.slots,k b ob q⟩,λ_ _ _ n _=>n,λb ob q _=>⟨ob,k b ob q⟩,λ_ _ q=>q,λ_ _ _ q=>q,λ_ ps q=>⟨#[],by rw[q];simp⟩⟩
theorem Un.refl:Un fs ex H H h h:=Un.kept λ_ _ q=>q
theorem Un.laid(k:∀b u,h.get? b=a_ u->q0A 0=a_ u)(hp:h.objs.size<=a)(hn:H a=b_):Un fs ex H (q0r a o) h h' where
 keep:=λb u q _ _ _=>k b u q
 slot:=λb u q _ _ _=>⟨u.slots,k b u q⟩
 free:=λb u q n _=>by rw[aS (Yj (Yl (XZ q) hp))];show n
 there:=λb u q _=>⟨u,k b u q⟩
 tups:=λb xs q=>by rw[aS (eU q hn)];show q
 frzs:=λb u xs q=>by rw[aS (eU q hn)];show q
 tbls:=λb ps q=>⟨#[],by rw[aS (eU q hn),q];simp⟩
theorem Un.write(mu:Mut (H x))(he:e=x\/H e=a_ (.own x))(k:∀b u,b≠e->h.get? b=a_ u->q0A 0=a_ u)(mx:∃u,h'.get? e=a_ u):Un fs ex H (q0r x o) h h':=by
 let hx:∀b,H b=b_->b≠x:=λb n z=>by subst z;rw[n]at mu;show mu
 let hb:∀b,H b=b_->b≠e:=λb n z=>by
  subst z;rcases he with r|r
  ·show hx b n r
  ·rw[n]at r;cases r
 let hm:∀b u,H b=a_ u->¬ Mut (a_ u)->b≠x:=λb u q nm z=>by subst z;rw[q]at mu;show nm mu
 refine⟨λb u q n _ _=>k b u (hb b n) q,λb u q n _ _=>⟨u.slots,k b u (hb b n) q⟩,λb u q n _=>by rw[aS (hx b n)];show n,λb u q _=>?_,
  λb xs q=>by rw[aS (hm b _ q λz=>z)];show q,λb u xs q=>by rw[aS (hm b _ q λz=>z)];show q,λb ps q=>⟨#[],by rw[aS (hm b _ q λz=>z),q];simp⟩⟩
 by_cases hbe:b=e
 ·subst hbe;show mx
 ·show⟨u,k b u hbe q⟩
end
def trk(h:r_)(H:Hp):ve o_:=(YN h.objs.size).filter λa=>(H a).isSome
def C9(h:r_)(H:Hp):r_:=PySem.W.hideAll h (trk h H)
theorem Ia(h:r_)(H:Hp):(C9 h H).objs.size=h.objs.size:=PySem.W.hideAll_size _ _
theorem JG{h:r_}{b:o_}{o:Obj}(e:h.get? b=a_ o)(n:H b=b_):(C9 h H).get? b=a_ o:=PySem.W.hideAll_get _ e λhm=>by let q:(H b).isSome=true:=(List.mem_filter.mp hm).2;rw[n]at q;simp at q
theorem Nb{h:r_}{b:o_}{o:Obj}(e:(C9 h H).get? b=a_ o):h.get? b=a_ o/\H b=b_:=by
 let e':h.get? b=a_ o:=PySem.W.of_hideAll (trk h H) e;refine⟨e',?_⟩;cases q:H b with
 |none=>rfl
 |some x=>have hm:b∈trk h H:=List.mem_filter.mpr ⟨y1P.mpr (XZ e'),by simp[q]⟩;let z:(C9 h H).get? b=b_:=PySem.W.hideAll_none (trk h H) hm;rw[z]at e;cases e
def Nc(g h:r_)(L:o_):e_ 0:=(YN h.objs.size).filterMap λa=>if a=L\/(g.get? a).isSome=true then b_ else(h.get? a).map λo=>(a,o)
def rest(g h:r_)(L d:o_):e_ 0:=(Nc g h L).filter λp=>decide (p.1≠d)
structure Mod(K:XQ)(mg:ke 0)(base:r_):Prop where
 kin:K.In base
 glob:base.Ns Zt mg
 blt:∃mb,base.Ns builtinsNs mb/\∀x:Str,x≠"__name__" -> mb x=y09 x
 nolimit:base.NoLimit
structure Cx where
 prog:td
 w:s_
 K:XQ
 mg:ke 0
 base:r_
 A:q_
 N:ve Str
 s₀:oa
 H₀:Hp
 env:Env
 outer:ve Env
 stack:ve Env
 ex:ve o_
 fn:Str->Bool
 calm:Bool
 pn:e_ 0
 xe:d_ 0
def frs(l:ve Env):ve o_:=l.filterMap (·.frame)
abbrev Cx.fs(X:Cx):ve o_:=frs X.outer
def Vis(sc:Scope)(x:Str):Prop:=q0B 0=a_ .local\/q0B 0=a_ .cell\/q0B 0=a_ .free
def Loc(sc:Scope)(x:Str):Prop:=q0B 0=a_ .local\/q0B 0=a_ .cell
def Look(env:Env)(h:r_)(m:ke 0)(x:Str)(u:n_):Prop:=(env.kindOf x=a_ .local/\m x=a_ u)\/((env.kindOf x=a_ .cell\/env.kindOf x=a_ .free)/\∃c,env.cells.lookup x=a_ c/\h.IsCell c (a_ u))
structure Cx.Ok(X:Cx):Prop where
 mod:Mod X.K X.mg X.base
 kind:X.env.scope.kind=.function
 glob:X.env.globals=Zt
 blt:X.env.builtins=builtinsNs
 above:X.s₀.heap.objs.size<=X.env.locals
 inj:∀x y c,X.env.cells.lookup x=some c->X.env.cells.lookup y=some c->x=y
 has:∀x,(X.env.kindOf x=some .cell\/X.env.kindOf x=some .free)->∃c,X.env.cells.lookup x=some c
 cab:∀x c,X.fn x=true->X.env.cells.lookup x=some c->X.s₀.heap.objs.size<=c
 hd:X.calm=true->X.A.handled=none
 frames:X.A.frames=some X.stack
 stk:X.stack=X.outer\/(X.stack=X.env::X.outer/\X.env.frame=some X.env.locals)
 exf:∀b∈X.ex,b≠X.env.locals/\∀x c,X.env.cells.lookup x=some c->c≠b
 bs:∀b o,X.base.get? b=some o->X.s₀.heap.get? b=some o/\X.H₀ b=none
 bsz:X.base.objs.size<=X.s₀.heap.objs.size
 noex:∀b o,X.base.get? b=some o->b∉X.ex
 exfs:∀b∈X.ex,b∉X.fs
 funs:X.s₀.heap.FunFrames X.base X.outer
 frf:∀b∈X.fs,X.H₀ b=none
structure Inv(X:Cx)(FR:e_ 0)(σ:ve (v_ V))(H:Hp)(s:oa):Prop where
 ok:X.Ok
 os:s.os=X.s₀.os
 bare:AllBare s.gens
 base:Un X.fs X.ex X.H₀ H X.s₀.heap s.heap
 loc:∃m,s.heap.Ns X.env.locals m/\∀(i:Nat)(x:Str)(v:V),X.N[i]?=some x->σ[i]?=some (some v)->Vis X.env.scope x->∃u,RelV v u/\Look X.env s.heap m x u
 cell:∀x c,X.env.cells.lookup x=some c->∃v,s.heap.IsCell c v
 free:H X.env.locals=none
 freeC:∀x c,X.env.cells.lookup x=some c->H c=none
 pin:∀p∈X.pn++FR,s.heap.get? p.1=some p.2/\H p.1=none/\p.1≠X.env.locals/\p.1∉X.fs/\∀v,p.2.data≠.cell v
 hok:HOk X.prog X.w H s.heap
 len:σ.length=X.N.length
variable{X:Cx}{FR:e_ 0}{s:oa}{ch:ve o_}{d':Drawn}{g':Array GenState}{t':Nat}{it:o_}{cz:e_ 0}{N:ve Str}{i j:Nat}{x:Str}{A:q_}{E:d_ 0}{M:Model}{s':oa}
section
variable{σ:ve (v_ V)}
theorem Cx.Ok.nofr(ok:X.Ok){b:o_}{o:Obj}(e:X.base.get? b=a_ o):b∉X.fs:=λhb=>by have:=(ok.funs.mem hb).1;rw[e]at this;cases this
theorem Inv.bs(I:P_ s):∀b o,X.base.get? b=a_ o->I_ 0=a_ o/\H b=b_:=λb o e=>⟨I.base.keep b o (I.ok.bs b o e).1 (I.ok.bs b o e).2 (I.ok.nofr e) (I.ok.noex b o e),I.base.free b o (I.ok.bs b o e).1 (I.ok.bs b o e).2 (I.ok.noex b o e)⟩
theorem Inv.bk(I:P_ s):∀b o,X.base.get? b=a_ o->I_ 0=a_ o:=λb o e=>(I.bs b o e).1
theorem Inv.mod(I:P_ s):Mod X.K X.mg X.base:=I.ok.mod
theorem Inv.kIn(I:P_ s):X.K.In s.heap:=I.ok.mod.kin.keeps I.bk
theorem Inv.lt(I:P_ s):X.env.locals<(c_ s):=let ⟨_,hn,_⟩:=I.loc;hn.lt
theorem Inv.sz(I:P_ s):X.s₀.heap.objs.size<=(c_ s):=Y9 I.ok.above (y1a I.lt)
theorem Inv.nofs(I:P_ s)(h:(c_ s)<=a):a∉X.fs:=λhb=>by let⟨_,o,ho,_⟩:=I.ok.funs.mem hb;show absurd (Yl (XZ ho) (Y9 I.sz h)) (ZD _)
theorem Inv.cne(I:P_ s):∀x c,Z_ 0=a_ c->c≠X.env.locals:=λx c e z=>by let⟨v,o,ho,hd⟩:=I.cell x c e;let⟨m,⟨o',es,ep,cg,cj,_⟩,_⟩:=I.loc;rw[z,cg]at ho;cases ho;rw[cj]at hd;cases hd
theorem Inv.funs(I:P_ s):s.heap.FunFrames X.base X.outer:=by
 let all:∀(l:ve Env),(∀b∈frs l,b∈X.fs)->X.s₀.heap.FunFrames X.base l->s.heap.FunFrames X.base l:=by
  intro l
  induction l with
  |nil=>intro _ _;trivial
  |cons env r ih=>intro hs hl;let⟨hk,⟨L,o,hf,hn,ho,hd⟩,hr⟩:=hl;let hL:L∈X.fs:=hs L (by unfold frs;rw[List.filterMap_cons,hf];show XY);let⟨sl,e⟩:=I.base.slot L o ho (I.ok.frf L hL) hL λz=>I.ok.exfs L z hL;show⟨hk,⟨L,_,hf,hn,e,hd⟩,ih (λb hb=>hs b (by unfold frs;rw[List.filterMap_cons,hf];show XW _ hb)) hr⟩
 show all X.outer (λ_ hb=>hb) I.ok.funs
theorem Inv.stack(I:P_ s):s.heap.FunFrames X.base X.stack:=by
 rcases I.ok.stk with e|⟨e,hf⟩
 ·rw[e];show I.funs
 ·rw[e];let⟨m,hn,_⟩:=I.loc;refine .cons (by rw[I.ok.kind];decide) hf hn ?_ I.funs;show Heap.get?_none_of_le (Y9 I.ok.bsz I.ok.above)
theorem Inv.stkSub(I:P_ s):∀b∈frs X.stack,b∈X.env.locals::X.fs:=λb hb=>by
 rcases I.ok.stk with e|⟨e,hf⟩
 ·rw[e]at hb;show XW _ hb
 ·rw[e]at hb;unfold frs at hb;rw[List.filterMap_cons,hf]at hb;show hb
theorem Inv.stkFree(I:P_ s):∀b∈frs X.stack,H b=b_:=λb hb=>by
 rcases Yf.mp (I.stkSub b hb) with e|hb
 ·rw[e];show I.free
 ·let⟨_,o,ho,_⟩:=I.ok.funs.mem hb;show I.base.free b o ho (I.ok.frf b hb) λz=>I.ok.exfs b z hb
theorem Inv.step(I:P_ s)(ir:∀b∈ch,(b∈X.ex\/X.s₀.heap.objs.size<=b)/\b≠X.env.locals/\(∀x c,Z_ 0=a_ c->c≠b)/\∀p∈X.pn++FR,p.1≠b)(keep:∀b o,b≠X.env.locals->b∉X.fs->b∉ch->I_ 0=a_ o->H b=b_->q0A 0=a_ o)(slot:∀b o,b≠X.env.locals->b∈X.fs->b∉ch->I_ 0=a_ o->H b=b_->∃sl,q0A 0=a_ { o with slots:=sl})(free:∀b o,b∉ch->I_ 0=a_ o->H b=b_->H' b=b_)(there:∀b o,b∉ch->I_ 0=a_ o->∃o',q0A 0=a_ o')(tups:∀b xs,H b=a_ (.tup xs)->H' b=a_ (.tup xs))(frzs:∀b o u,H b=a_ (.frz o u)->H' b=a_ (.frz o u))(tbls:∀b ps,H b=a_ (.tbl ps)->∃more,H' b=a_ (.tbl (ps++more)))(ns:∀m,s.heap.Ns X.env.locals m->h'.Ns X.env.locals m)(hok:HOk X.prog X.w H' h')(hg:AllBare g'):
  f_ H' {s with heap:=h',gens:=g',drawn:=d',toks:=t'}:=by
 let y4:∀b o,X.s₀.heap.get? b=a_ o->b≠X.env.locals:=λb o e=>Yj (Yl (XZ e) I.ok.above);let sj:∀b o,X.s₀.heap.get? b=a_ o->b∉X.ex->b∉ch:=λb o e hx hb=>by
  rcases(ir b hb).1 with z|z
  ·show hx z
  ·show absurd (Yl (XZ e) z) (ZD _)
 let cellK:∀x c,Z_ 0=a_ c->∀v,s.heap.IsCell c v->h'.IsCell c v:=λx c e v ⟨o,ho,hd⟩=>by
  let o6:c∉ch:=λz=>(ir c z).2.2.1 x c e rfl;by_cases hc:c∈X.fs
  ·let⟨sl,q⟩:=slot c o (I.cne x c e) hc o6 ho (I.freeC x c e);show⟨_,q,hd⟩
  ·show⟨o,keep c o (I.cne x c e) hc o6 ho (I.freeC x c e),hd⟩
 refine⟨I.ok,I.os,hg,⟨λb o e n hb hx=>?_,λb o e n hb hx=>?_,λb o e n hx=>?_,λb o e hx=>?_,λb xs e=>tups b xs (I.base.tups b xs e),λb o xs e=>frzs b o xs (I.base.frzs b o xs e),λb ps e=>?_⟩,?_,λx c e=>?_,?_,λx c e=>?_,λp hp=>?_,hok,I.len⟩
 ·show keep b o (y4 b o e) hb (sj b o e hx) (I.base.keep b o e n hb hx) (I.base.free b o e n hx)
 ·let⟨sl,e1⟩:=I.base.slot b o e n hb hx;let⟨Wi,e2⟩:=slot b _ (y4 b o e) hb (sj b o e hx) e1 (I.base.free b o e n hx);show⟨Wi,e2⟩
 ·let⟨o',e1⟩:=I.base.there b o e hx;show free b o' (sj b o e hx) e1 (I.base.free b o e n hx)
 ·let⟨o',e1⟩:=I.base.there b o e hx;show there b o' (sj b o e hx) e1
 ·let⟨m1,e1⟩:=I.base.tbls b ps e;let⟨m2,e2⟩:=tbls b _ e1;show⟨m1++m2,by rw[e2,Array.append_assoc]⟩
 ·let⟨m,hn,hl⟩:=I.loc;refine⟨m,ns m hn,λi x v e1 e2 e3=>?_⟩;let⟨u,r,l⟩:=hl i x v e1 e2 e3;refine⟨u,r,?_⟩;rcases l with l|⟨k,c,e,z⟩
  ·show .inl l
  ·show .inr ⟨k,c,e,cellK x c e _ z⟩
 ·let⟨v,z⟩:=I.cell x c e;show⟨v,cellK x c e v z⟩
 ·let⟨m,⟨o,_,_,ho,_⟩,_⟩:=I.loc;show free _ o (λz=>(ir _ z).2.1 rfl) ho I.free
 ·let⟨v,o,ho,hd⟩:=I.cell x c e;show free c o (λz=>(ir c z).2.2.1 x c e rfl) ho (I.freeC x c e)
 ·let⟨e,n,ne,nf,d⟩:=I.pin p hp;let o6:p.1∉ch:=λz=>(ir p.1 z).2.2.2 p hp rfl;show⟨keep p.1 p.2 ne nf o6 e n,free p.1 p.2 o6 e n,ne,nf,d⟩
theorem Inv.un(I:P_ s)(u:Un X.fs [] H H' s.heap h')(hok:HOk X.prog X.w H' h'):f_ H' {s with heap:=h',toks:=t'}:=by let⟨m,⟨o,es,ep,ho,r⟩,_⟩:=id I.loc;let⟨sl,hL⟩:=u.any ho I.free (by simp);show I.step (g':=s.gens) (d':=s.drawn) (ch:=[]) (λ_ z=>nomatch z) (λb o _ hb _ e n=>u.keep b o e n hb (by simp)) (λb o _ hb _ e n=>u.slot b o e n hb (by simp)) (λb o _ e n=>u.free b o e n (by simp)) (λb o _ e=>u.there b o e (by simp)) u.tups u.frzs u.tbls (λm' hm=>by let⟨o',dg,gg,cg,r'⟩:=hm;rw[ho]at cg;cases cg;show⟨_,dg,gg,hL,r'⟩) hok I.bare
theorem Inv.call(I:P_ s)(u:Un (frs X.stack) ch H H' s.heap h')(hok:HOk X.prog X.w H' h')(hg:AllBare g')(ir:∀b∈ch,(b∈X.ex\/X.s₀.heap.objs.size<=b)/\b≠X.env.locals/\(∀x c,Z_ 0=a_ c->c≠b)/\∀p∈X.pn++FR,p.1≠b):
  f_ H' {s with heap:=h',gens:=g',drawn:=d',toks:=t'}:=by
 let⟨m,⟨o,es,ep,ho,r⟩,_⟩:=id I.loc;let⟨sl,hL⟩:=u.any ho I.free λz=>(ir _ z).2.1 rfl;show I.step (ch:=ch) ir (λb o hL hb hc e n=>u.keep b o e n (λz=>(Yf.mp (I.stkSub b z)).elim hL hb) hc) (λb o _ _ hc e n=>u.any e n hc) (λb o hc e n=>u.free b o e n hc) (λb o hc e=>u.there b o e hc) u.tups u.frzs u.tbls (λm' hm=>by let⟨o',dg,gg,cg,r'⟩:=hm;rw[ho]at cg;cases cg;show⟨_,dg,gg,hL,r'⟩) hok hg
theorem Inv.turned(I:P_ s)(k:∀b o,b≠it->I_ 0=a_ o->q0A 0=a_ o)(hn:H it=b_)(hL:it≠X.env.locals)(h1:it∈X.ex\/X.s₀.heap.objs.size<=it)(h2:∀x c,Z_ 0=a_ c->c≠it)(h3:∀p∈X.pn++FR,p.1≠it):P_ {s with heap:=h',toks:=t'}:=by
 let du:∀b u,H b=a_ u->b≠it:=λb u e z=>by rw[z,hn]at e;cases e
 refine I.step (g':=s.gens) (d':=s.drawn) (ch:=[it]) (λb hb=>?_) (λb o _ _ hc e _=>k b o (λz=>hc (by simp[z])) e) (λb o _ _ hc e _=>⟨o.slots,k b o (λz=>hc (by simp[z])) e⟩) (λ_ _ _ _ n=>n)
  (λb o hc e=>⟨o,k b o (λz=>hc (by simp[z])) e⟩) (λ_ _ e=>e) (λ_ _ _ e=>e) (λb ps e=>⟨#[],by rw[e];simp⟩) (λm hm=>?_) (λb u e=>?_) I.bare
 ·let e:b=it:=by simpa using hb
  subst e;show⟨h1,hL,h2,h3⟩
 ·let⟨o,es,ep,ho,r⟩:=hm;show⟨o,es,ep,k _ o (ZK hL) ho,r⟩
 ·refine(I.hok b u e).stay (λc v hc q=>k c v ?_ q) (λ_ q=>q) λ_ _ q=>q;rcases hc with z|z
  ·rw[z];show du b u e
  ·show du c _ z
theorem Inv.tok(I:P_ s)(t:Nat):P_ { s with toks:=t}:=I.un (h':=s.heap) (t':=t) Un.refl I.hok
theorem Inv.kept(I:P_ s)(k:∀b u,I_ 0=a_ u->q0A 0=a_ u):P_ {s with heap:=h',toks:=t'}:=I.un (Un.kept k) (I.hok.kept k)
theorem Inv.laid(I:P_ s)(k:∀b u,I_ 0=a_ u->q0A 0=a_ u)(hp:(c_ s)<=a)(new:dZ X.prog X.w (q0r a o) h' a o):
  f_ (q0r a o) {s with heap:=h',toks:=t'}:=I.un (Un.laid k hp (I.hok.fresh hp)) (I.hok.laid k hp new)
theorem Inv.write{x e:o_}(I:P_ s)(mu:Mut (H x))(he:e=x\/H e=a_ (.own x))(k:∀b u,b≠e->I_ 0=a_ u->q0A 0=a_ u)(mx:∃u,h'.get? e=a_ u)(new:dZ X.prog X.w (q0r x o) h' x o):f_ (q0r x o) {s with heap:=h',toks:=t'}:=I.un (Un.write mu he k mx) (I.hok.write mu he k mx new)
theorem Inv.pins_of(I:P_ s)(h:∀p∈cz,s.heap.get? p.1=a_ p.2/\H p.1=b_/\p.1≠X.env.locals/\p.1∉X.fs/\∀v,p.2.data≠.cell v):Inv X cz σ H s:=⟨I.ok,I.os,I.bare,I.base,I.loc,I.cell,I.free,I.freeC,λp hp=>(X7.mp hp).elim (λz=>I.pin p (Yu _ z)) (h p),I.hok,I.len⟩
theorem DH(hN:N.Nodup)(a:N[i]?=a_ x)(b:N[j]?=a_ x):i=j:=by let⟨h1,e1⟩:=XN.mp a;let⟨h2,e2⟩:=XN.mp b;show(List.getElem_inj hN).mp (e1.trans e2.symm)
theorem Bv{v:V}{Q:g_ Unit}(I:P_ s)(hN:X.N.Nodup)(hi:X.N[i]?=a_ x)(hx:Loc X.env.scope x)(r:RelV v u)(h:∀s',Inv X FR (σ.set i (a_ v)) H s'->(∃a,Zv a s.heap s'.heap/\(a=X.env.locals\/Z_ 0=a_ a))->Q () s')(hf:X.fn x=true\/q0c 0=a_ .local:=by first|exact .inl rfl|exact .inr rfl|assumption):wpAny M A (storeName X.env x u) Q E s:=by
 let⟨m,hn,hl⟩:=id I.loc;let vz:(X.env.scope.kind == .class || (X.env.scope.kind == .module&&X.env.locals != X.env.globals))=false:=by rw[I.ok.kind];rfl
 let yt:i<σ.length:=by rw[I.len];show(XN.mp hi).1
 let cne:=I.cne;let tracked:∀{a:o_}{h':r_},(∃o,q0C 0=a_ o/\H a=b_)->Zv a s.heap h'->HOk X.prog X.w H h':=λ{a h'} ha hs b ob e=>by
  let⟨_,_,jm⟩:=ha;refine(I.hok b ob e).stay (λc w' hc q=>(hs.2 c ?_).trans q) (λ_ q=>q) λ_ _ q=>q;rintro rfl;rcases hc with rfl|hc
  ·rw[jm]at e;cases e
  ·rw[jm]at hc;cases hc
 rcases hx with hk|hk
 ·refine wpAny_storeName_local hk hn (λh' nr hs=>?_) vz;let⟨oL,_,_,jd,_⟩:=id hn;refine h _ ⟨I.ok,I.os,I.bare,⟨λb o e n hb hx=>?_,λb o e n hb hx=>?_,I.base.free,λb o e hx=>?_,I.base.tups,I.base.frzs,I.base.tbls⟩,⟨_,nr,λj y v' e1 e2 e3=>?_⟩,λy c e=>?_,I.free,I.freeC,λp hp=>?_,tracked ⟨oL,jd,I.free⟩ hs,i_ I.len⟩ ⟨_,hs,.inl rfl⟩
  ·show(hs.2 b (Yj (Yl (XZ e) I.ok.above))).trans (I.base.keep b o e n hb hx)
  ·let⟨sl,e1⟩:=I.base.slot b o e n hb hx;show⟨sl,(hs.2 b (Yj (Yl (XZ e) I.ok.above))).trans e1⟩
  ·let⟨o',e1⟩:=I.base.there b o e hx;show⟨o',(hs.2 b (Yj (Yl (XZ e) I.ok.above))).trans e1⟩
  ·by_cases hj:j=i
   ·subst hj;rw[hi]at e1;cases e1;rw[ZZ yt]at e2;cases e2
    show⟨u,r,.inl ⟨hk,by simp⟩⟩
   ·rw[Ye (ZK hj)]at e2;let⟨u',r',q⟩:=hl j y v' e1 e2 e3;refine⟨u',r',?_⟩;rcases q with⟨k,e⟩|⟨k,c,e,z⟩
    ·refine .inl ⟨k,?_⟩;have:y≠x:=λe=>hj (DH hN e1 (e▸hi));simp[this,e]
    ·show .inr ⟨k,c,e,z.sameBut hs (cne y c e)⟩
  ·let⟨w',z⟩:=I.cell y c e;show⟨w',z.sameBut hs (cne y c e)⟩
  ·let⟨e,n,ne,nf,d⟩:=I.pin p hp;show⟨(hs.2 p.1 ne).trans e,n,ne,nf,d⟩
 ·let wj:X.fn x=true:=by
   rcases hf with z|z
   ·show z
   ·rw[z]at hk;cases hk
  let⟨c,hc⟩:=I.ok.has x (.inl hk);let⟨w',z⟩:=I.cell x c hc;refine wpAny_storeName_cell I.ok.kind hk hc z (λh' af hs=>?_);let⟨oc,yd,wa⟩:=id z;refine h {s with heap:=h'} ⟨I.ok,I.os,I.bare,⟨λb o e n hb hx=>?_,λb o e n hb hx=>?_,I.base.free,λb o e hx=>?_,I.base.tups,I.base.frzs,I.base.tbls⟩,⟨m,hn.sameBut hs (ZK (cne x c hc)),λj y v' e1 e2 e3=>?_⟩,λy c' e=>?_,I.free,I.freeC,λp hp=>?_,tracked ⟨oc,yd,I.freeC x c hc⟩ hs,i_ I.len⟩ ⟨c,hs,.inr hc⟩
  ·show(hs.2 b (Yj (Yl (XZ e) (I.ok.cab x c wj hc)))).trans (I.base.keep b o e n hb hx)
  ·let⟨sl,e1⟩:=I.base.slot b o e n hb hx;show⟨sl,(hs.2 b (Yj (Yl (XZ e) (I.ok.cab x c wj hc)))).trans e1⟩
  ·let⟨o',e1⟩:=I.base.there b o e hx;show⟨o',(hs.2 b (Yj (Yl (XZ e) (I.ok.cab x c wj hc)))).trans e1⟩
  ·by_cases hj:j=i
   ·subst hj;rw[hi]at e1;cases e1;rw[ZZ yt]at e2;cases e2
    show⟨u,r,.inr ⟨.inl hk,c,hc,af⟩⟩
   ·rw[Ye (ZK hj)]at e2;let⟨u',r',q⟩:=hl j y v' e1 e2 e3;refine⟨u',r',?_⟩;rcases q with q|⟨k,c',e,z'⟩
    ·show .inl q
    ·refine .inr ⟨k,c',e,z'.sameBut hs ?_⟩;rintro rfl;show hj (DH hN e1 (I.ok.inj _ _ _ e hc▸hi))
  ·by_cases hcc:c'=c
   ·subst hcc;show⟨_,af⟩
   ·let⟨w2,z2⟩:=I.cell y c' e;show⟨w2,z2.sameBut hs hcc⟩
  ·let⟨e,n,ne,nf,d⟩:=I.pin p hp;refine⟨(hs.2 p.1 ?_).trans e,n,ne,nf,d⟩;intro q;rw[q,yd]at e;let q':oc=p.2:=Yp e;show d w' (by rw[<-q'];show wa)
theorem DI{v:V}{Q:g_ Unit}(I:P_ s)(hN:X.N.Nodup)(hi:X.N[i]?=a_ x)(hx:Loc X.env.scope x)(r:RelV v u)(h:∀s',Inv X FR (σ.set i (a_ v)) H s'->Q () s')(hf:X.fn x=true\/q0c 0=a_ .local:=by first|exact .inl rfl|exact .inr rfl|assumption):wpAny M A (storeName X.env x u) Q E s:=Bv I hN hi hx r (λs' I' _=>h s' I') hf
theorem Inv.call'(I:P_ s)(ho:s'.os=s.os)(u:Un (frs X.stack) ch H H' s.heap s'.heap)(hok:HOk X.prog X.w H' s'.heap)(hg:AllBare s'.gens)(ir:∀b∈ch,(b∈X.ex\/X.s₀.heap.objs.size<=b)/\b≠X.env.locals/\(∀x c,Z_ 0=a_ c->c≠b)/\∀p∈X.pn++FR,p.1≠b):f_ H' s':=by let⟨h',g',d',t',o'⟩:=s';let e:o'=s.os:=ho;subst e;show I.call (g':=g') (t':=t') (d':=d') u hok hg ir
end
abbrev XK:=n_->v_ o_->Hp->Prop
abbrev St:=ve (v_ V)
abbrev VK:=V->Hp->Prop
abbrev TE:=St->Hp->VK->Prop
abbrev TT:=St->Hp->(Bool->Hp->Prop)->Prop
abbrev TA:=St->Hp->(ve V->Hp->Prop)->Prop
structure Ends where
 nx:St->Hp->Prop
 rt:VK
 bk:St->Hp->Prop:=λ_ _=>False
 ct:St->Hp->Prop:=λ_ _=>False
abbrev TS:=Ends->St->Hp->Prop
def EP(X:Cx)(FR:e_ 0)(σ:St)(Q:VK)(u:n_)(s':oa):Prop:=∃v H',f_ H' s'/\RelV v u/\Q v H'
def TP(X:Cx)(FR:e_ 0)(σ:St)(Q:Bool->Hp->Prop)(b:Bool)(s':oa):Prop:=∃H',f_ H' s'/\Q b H'
def AP(X:Cx)(FR:e_ 0)(σ:St)(Q:ve V->Hp->Prop)(us:ve n_)(s':oa):Prop:=∃vs H',f_ H' s'/\aW vs us/\Q vs H'
def SP(X:Cx)(FR:e_ 0)(D:Ends)(f:Flow)(s':oa):Prop:=
 match f with
 |.next=>∃σ' H',q1q s'/\D.nx σ' H'
 |.brk=>∃σ' H',q1q s'/\D.bk σ' H'
 |.cont=>∃σ' H',q1q s'/\D.ct σ' H'
 |.ret u=>∃v σ' H',q1q s'/\RelV v u/\D.rt v H'
def PE(X:Cx)(e:t_)(t:TE):Prop:=
 ∀(FR:e_ 0)(s:oa)(σ:St)(H:Hp)(Q:VK),P_ s->t σ H Q->wpAny (fI X) X.A (q0j 0) (q0q Q) X.xe s
def PT(X:Cx)(e:t_)(t:TT):Prop:=
 ∀(FR:e_ 0)(s:oa)(σ:St)(H:Hp)(Q:Bool->Hp->Prop),P_ s->t σ H Q->wpAny (fI X) X.A (isTrue e X.env (q0j 0)) (TP X FR σ Q) X.xe s
def PW(X:Cx)(e:t_)(t:TT):Prop:=
 ∀(whole:Sem n_)(FR:e_ 0)(s:oa)(σ:St)(H:Hp)(Q:Bool->Hp->Prop),P_ s->t σ H Q->wpAny (fI X) X.A (isTrue e X.env whole) (TP X FR σ Q) X.xe s
variable{e:t_}
theorem PW.pt{t:TT}(h:PW X e t):PT X e t:=h _
def PA(X:Cx)(es:ve t_)(t:TA):Prop:=
 ∀(pos:Pos)(FR:e_ 0)(s:oa)(σ:St)(H:Hp)(Q:ve V->Hp->Prop),P_ s->t σ H Q->wpAny (fI X) X.A (spliced (q0Q (q0i 0))) (AP X FR σ Q) X.xe s
def PS(X:Cx)(st:u_)(t:TS):Prop:=
 ∀(FR:e_ 0)(s:oa)(σ:St)(H:Hp)(D:Ends),P_ s->t D σ H->wpAny (fI X) X.A (exec st X.env) (SP X FR D) X.xe s
def PSs(X:Cx)(st:ve u_)(t:TS):Prop:=
 ∀(FR:e_ 0)(s:oa)(σ:St)(H:Hp)(D:Ends),P_ s->t D σ H->wpAny (fI X) X.A (execs st X.env) (SP X FR D) X.xe s
theorem thn{α:Type}{t:Sem α}{Q Q':α->oa->Prop}(h:wpAny M A t Q E s)(hQ:∀a s,Q a s->Q' a s):wpAny M A t Q' E s:=ZG h hQ λ_ _ x=>x
variable{pos:Pos}{Q:d_ 0}{tA:TT}{qq:TT}
section
def UO(i:Nat):TE:=λσ H Q=>∃v,σ[i]?=a_ (a_ v)/\Q v H
def tC(v:V):TE:=λ_ H Q=>Q v H
theorem JH(hN:X.N[i]?=a_ x)(hv:Vis X.env.scope x)(hd:(x == ("__debug__" : Str))=false:=by decide)(fb:(x == ("__classdict__" : Str))=false:=by decide):PE X (.Name x pos) (UO i):=by
 intro FR s σ H Q I h;let⟨v,e,h⟩:=h;let⟨m,hn,hl⟩:=I.loc;let⟨u,r,l⟩:=hl i x v hN e hv;let fin:q0q Q u s:=⟨v,H,I,r,h⟩;rcases l with⟨hk,hm⟩|⟨hk,c,hc,dw⟩
 ·show wpAny_Name (wpAny_loadName_local I.ok.kind hk hn hm fin) hd
 ·rcases hk with hk|hk
  ·show wpAny_Name (wpAny_loadName_cell I.ok.kind hk hc dw fin) hd
  ·show wpAny_Name (wpAny_loadName_free I.ok.kind hk hc dw fin fb) hd
theorem Q9{i j pos}:PE X (.Constant (.int i) j pos) (tC (.int i)):=λ_ _ _ H _ I h=>wpAny_Constant_int ⟨.int i,H,I.tok _,⟨_,rfl⟩,h⟩
theorem Ss{b j pos}:PE X (.Constant (.bool b) j pos) (tC (.bl b)):=λ_ _ _ H _ I h=>Constant_bool ⟨.bl b,H,I,rfl,h⟩
theorem Qa{j pos}:PE X (.Constant .none j pos) (tC .non):=λ_ _ _ H _ I h=>Constant_none ⟨.non,H,I,rfl,h⟩
theorem Qb{x j pos}:PE X (.Constant (.str x) j pos) (tC (.str x)):=λ_ _ _ H _ I h=>Calls.Constant_str ⟨.str x,H,I.tok _,⟨_,rfl⟩,h⟩
def Gl(X:Cx)(x:Str):Prop:=X.env.kindOf x=a_ .globalImplicit
theorem Ca{σ:St}(I:P_ s)(hg:Gl X x)(hm:X.mg x=a_ u)(h:Q u s)(hd:(x == ("__debug__" : Str))=false:=by decide):wpAny (fI X) X.A (eval (.Name x pos) X.env) Q E s:=Calls.Name_function_global I.ok.kind hg (Calls.loadGlobal_global (by rw[I.ok.glob];show I.mod.glob.keeps I.bk) hm h) hd
theorem sH{σ:St}(I:P_ s)(hg:Gl X x)(hm:X.mg x=b_)(hv:y09 x=a_ u)(h:Q u s)(hn:x≠"__name__" := by decide)(hd:(x == ("__debug__" : Str))=false:=by decide):wpAny (fI X) X.A (eval (.Name x pos) X.env) Q E s:=by let⟨mb,h1,h2⟩:=I.mod.blt;show Calls.Name_function_global I.ok.kind hg (Calls.loadGlobal_builtin (by rw[I.ok.glob];show I.mod.glob.keeps I.bk) hm (by rw[I.ok.blt];show h1.keeps I.bk) ((h2 x hn).trans hv) h) hd
variable{a b:t_}{tb:TE}{rest:ve t_}
def UP(t u:TT):TT:=λσ H Q=>t σ H λc H1=>if c=true then u σ H1 Q else Q false H1
def tOr(t u:TT):TT:=λσ H Q=>t σ H λc H1=>if c=true then Q true H1 else u σ H1 Q
def UQ(t:TT):TT:=λσ H Q=>t σ H λc H1=>Q (!c) H1
theorem Nd(ha:PT X a tA):PW X (.BoolOp .And [a] pos) tA:=by
 intro wh FR s σ H Q I h;refine isTrue_and (thn (ha FR s σ H Q I h) λc s1 e=>?_);cases c with
 |true=>exact isTrue_and_nil e
 |false=>exact e
theorem Qc(ha:PT X a tA):PW X (.BoolOp .Or [a] pos) tA:=by
 intro wh FR s σ H Q I h;refine isTrue_or (thn (ha FR s σ H Q I h) λc s1 e=>?_);cases c with
 |false=>exact isTrue_or_nil e
 |true=>exact e
theorem Qd(ha:PT X a tA)(hb:PW X (.BoolOp .And (b::rest) pos) qq):PW X (.BoolOp .And (a::b::rest) pos) (UP tA qq):=by
 intro wh FR s σ H Q I h;refine isTrue_and (thn (q0N 0) λc s1 ⟨H1,I1,q1⟩=>?_);cases c with
 |true=>exact hb wh FR s1 σ H1 Q I1 q1
 |false=>exact⟨H1,I1,q1⟩
theorem Su(ha:PT X a tA)(hb:PW X (.BoolOp .Or (b::rest) pos) qq):PW X (.BoolOp .Or (a::b::rest) pos) (tOr tA qq):=by
 intro wh FR s σ H Q I h;refine isTrue_or (thn (q0N 0) λc s1 ⟨H1,I1,q1⟩=>?_);cases c with
 |true=>exact⟨H1,I1,q1⟩
 |false=>exact hb wh FR s1 σ H1 Q I1 q1
theorem Qe(ha:PT X a tA):PT X (.UnaryOp .Not a pos) (UQ tA):=by intro FR s σ H Q I h;show isTrue_not (ha FR s σ H (λc H1=>Q (!c) H1) I h)
theorem Qf{op}{t:TE}(h:PE X a t):PE X (.BoolOp op [a] pos) t:=λFR s σ H Q I hw=>BoolOp_one (q0t Q I hw)
end
def SqL(K:XQ)(H:Hp)(a:o_)(xs:ve V):Prop:=
 Rd H a (.lst xs)\/
  ∃(o:Obj)(its:q0p 0)(n:Nat),K.lookup a=a_ o/\o.cls=.type "list" /\ o.dict=b_/\o.data=.seq its n/\its.size<=X5/\aW xs its.toList
def SqT(K:XQ)(H:Hp)(a:o_)(xs:ve V):Prop:=
 Rd H a (.tup xs)\/
  ∃(o:Obj)(its:q0p 0)(n:Nat),K.lookup a=a_ o/\o.cls=.type "tuple" /\ o.data=.seq its n/\its.size<=X5/\aW xs its.toList/\o.dict=b_
def UR:n_->v_ V
 |.none=>a_ .non
 |.bool b=>a_ (.bl b)
 |.int i _=>cx i
 |.str x _=>a_ (.str x)
 |.bytes b _=>a_ (.byt b)
 |.float b _=>a_ (.flt b)
 |.ref a=>cu a
 |.type n=>a_ (.ty n)
 |_=>b_
theorem RelV.abs{x:V}(r:q1f u):UR u=a_ x:=by
 cases x with
 |non=>cases r;rfl
 |bl _=>cases r;rfl
 |int _=>let⟨t,rfl⟩:=r;rfl
 |str _=>let⟨t,rfl⟩:=r;rfl
 |byt _=>let⟨t,rfl⟩:=r;rfl
 |flt _=>let⟨t,rfl⟩:=r;rfl
 |ref _=>cases r;rfl
 |ty _=>cases r;rfl
theorem RelV.inj{x y:V}(r:q1f u)(q:RelV y u):x=y:=Yp (r.abs.symm.trans q.abs)
theorem aW.inj:∀{xs ys:ve V}{us:ve n_},aW xs us->aW ys us->xs=ys
 |_,_,_,.nil,.nil=>rfl
 |_,_,_,.cons r t,.cons r' t'=>by rw[r.inj r',aW.inj t t']
variable{K:XQ}
section
variable{σ:St}{xs ys:ve V}
theorem SqL.of(h:H a=a_ (.lst xs)):q0S a xs:=.inl (.inl h)
theorem SqT.of(h:H a=a_ (.tup xs)):q1b a xs:=.inl (.inl h)
theorem Inv.list(I:P_ s)(h:SqL X.K H a xs):∃its:ve n_,aW xs its/\PlainL s.heap a its.toArray/\xs.length<=X5:=by
 rcases h with h|⟨o,its,n,hk,hc,hd,hs,hz,r⟩
 ·let⟨z,its,n,r,e⟩:=h.ok I.hok;show⟨its,r,⟨_,n,e,rfl,rfl,rfl⟩,z⟩
 ·refine⟨its.toList,r,⟨o,n,I.kIn a o hk,hc,hd,i_ hs⟩,?_⟩;let e:=r.length;simp only[y0E]at e;omega
theorem Inv.tuple(I:P_ s)(h:SqT X.K H a xs):∃its:ve n_,aW xs its/\IsTup s.heap a its.toArray/\xs.length<=X5:=by
 rcases h with h|⟨o,its,n,hk,hc,hs,hz,r,_⟩
 ·let⟨z,its,r,p⟩:=h.ok I.hok;show⟨its,r,p.is,z⟩
 ·refine⟨its.toList,r,⟨o,I.kIn a o hk,hc,n,i_ hs⟩,?_⟩;let e:=r.length;simp only[y0E]at e;omega
theorem Inv.list_inj(I:P_ s)(h:SqL X.K H a xs)(h':SqL X.K H a ys):xs=ys:=by
 let⟨its,r,⟨o,n,e,_,_,d⟩,_⟩:=I.list h;let⟨its',r',⟨o',n',e',_,_,d'⟩,_⟩:=I.list h';rw[e]at e';cases e';rw[d]at d';injection d' with d1 _;have:its=its':=by simpa using congrArg Array.toList d1
 subst this;show r.inj r'
theorem Inv.tuple_inj(I:P_ s)(h:SqT X.K H a xs)(h':SqT X.K H a ys):xs=ys:=by
 let⟨its,r,⟨o,e,_,n,d⟩,_⟩:=I.tuple h;let⟨its',r',⟨o',e',_,n',d'⟩,_⟩:=I.tuple h';rw[e]at e';cases e';rw[d]at d';injection d' with d1 _;have:its=its':=by simpa using congrArg Array.toList d1
 subst this;show r.inj r'
end
abbrev Cx.wish(X:Cx)(E:d_ 0):Cx:={ X with xe:=E}
abbrev Cx.nox(X:Cx):Cx:=X.wish λ_ _=>False
theorem Cx.Ok.wish(ok:X.Ok)(E:d_ 0):(X.wish E).Ok:=⟨ok.mod,ok.kind,ok.glob,ok.blt,ok.above,ok.inj,ok.has,ok.cab,ok.hd,ok.frames,ok.stk,ok.exf,ok.bs,ok.bsz,ok.noex,ok.exfs,ok.funs,ok.frf⟩
theorem Cx.Ok.unwish(ok:(X.wish E).Ok):X.Ok:=⟨ok.mod,ok.kind,ok.glob,ok.blt,ok.above,ok.inj,ok.has,ok.cab,ok.hd,ok.frames,ok.stk,ok.exf,ok.bs,ok.bsz,ok.noex,ok.exfs,ok.funs,ok.frf⟩
section
variable{σ:St}
theorem Inv.wish(I:P_ s)(E:d_ 0):Inv (X.wish E) FR σ H s:=⟨I.ok.wish E,I.os,I.bare,I.base,I.loc,I.cell,I.free,I.freeC,I.pin,I.hok,I.len⟩
theorem Inv.unwish(I:Inv (X.wish E) FR σ H s):P_ s:=⟨I.ok.unwish,I.os,I.bare,I.base,I.loc,I.cell,I.free,I.freeC,I.pin,I.hok,I.len⟩
theorem SP.unwish{D:Ends}{f:Flow}(h:SP (X.wish E) FR D f s'):SP X FR D f s':=by
 cases f with
 |next=>let⟨σ',H',I,q⟩:=h;show⟨σ',H',I.unwish,q⟩
 |brk=>let⟨σ',H',I,q⟩:=h;show⟨σ',H',I.unwish,q⟩
 |cont=>let⟨σ',H',I,q⟩:=h;show⟨σ',H',I.unwish,q⟩
 |ret u=>let⟨v,σ',H',I,r,q⟩:=h;show⟨v,σ',H',I.unwish,r,q⟩
theorem PSs.nox{st:ve u_}{t:TS}(h:PSs X.nox st t):PSs X st t:=λFR s σ H D I hw=>ZG (q0t D (I.wish _) hw) (λ_ _ q=>q.unwish) λ_ _ z=>Z1 z
end
variable{te:TE}{tc:TT}
section
variable{st:u_}{rest:ve u_}{t u:TS}
def Sv:TS:=λD σ H=>D.nx σ H
def US(t u:TS):TS:=λD σ H=>t { D with nx:=u D} σ H
theorem Nf:PSs X [] Sv:=λ_ _ σ H _ I h=>wpAny_execs_nil ⟨σ,H,I,h⟩
theorem JI(h1:PS X st t)(h2:PSs X rest u):PSs X (st::rest) (US t u):=by
 intro FR s σ H D I h;refine wpAny_execs_cons (thn (h1 FR s σ H { D with nx:=u D} I h) λf s1 q=>?_);cases f with
 |next=>let⟨σ',H',I',q⟩:=q;show h2 FR s1 σ' H' D I' q
 |ret v=>exact q
 |brk=>exact q
 |cont=>exact q
theorem Ng(h1:PS X st t):PSs X [st] t:=by
 intro FR s σ H D I h;refine wpAny_execs_cons (thn (h1 FR s σ H D I h) λf s1 q=>?_);cases f with
 |next=>exact wpAny_execs_nil q
 |ret v=>exact q
 |brk=>exact q
 |cont=>exact q
theorem Inv.quiet{σ:St}(I:P_ s):interactive X.env=false:=by simp[interactive,I.ok.kind]
def Sw(te:TE):TS:=λD σ H=>te σ H λ_ H1=>D.nx σ H1
theorem Nh(he:PE X e te)(hs:swapsWith e b_ pos.line X.env=pure false:=by rfl):PS X (.Expr e pos) (Sw te):=by intro FR s σ H D I h;show wpAny_Expr_any (thn (he FR s σ H _ I h) λv s1 ⟨x,H1,I1,r1,q1⟩=>⟨σ,H1,I1,q1⟩) I.quiet hs
def UT(te:TE):TS:=λD σ H=>te σ H D.rt
theorem Qi(he:PE X e te):PS X (.Return (a_ e) pos) (UT te):=by intro FR s σ H D I h;show wpAny_Return_some (thn (he FR s σ H _ I h) λv s1 ⟨x,H1,I1,r1,q1⟩=>⟨x,σ,H1,I1,r1,q1⟩)
def UU(c:TT)(t u:TS):TS:=λD σ H=>c σ H λb H1=>if b=true then t D σ H1 else u D σ H1
theorem Sx{c:t_}{a b:ve u_}(hc:PT X c tc)(ha:PSs X a t)(hb:PSs X b u):PS X (.If c a b pos) (UU tc t u):=by
 intro FR s σ H D I h;refine wpAny_If (thn (hc FR s σ H _ I h) λd s1 ⟨H1,I1,q1⟩=>?_);cases d with
 |true=>exact ha FR s1 σ H1 D I1 q1
 |false=>exact hb FR s1 σ H1 D I1 q1
end
abbrev TG:=V->St->Hp->(St->Hp->Prop)->Prop
abbrev TGs:=ve V->St->Hp->(St->Hp->Prop)->Prop
def PG(X:Cx)(target:t_)(t:TG):Prop:=
 ∀(FR:e_ 0)(s:oa)(σ:St)(H:Hp)(v:V)(u:n_)(Q:St->Hp->Prop),P_ s->RelV v u->t v σ H Q->
  wpAny (fI X) X.A (assign target X.env u) (λ_ s'=>∃σ' H',q1q s'/\Q σ' H') X.xe s
def PGs(X:Cx)(ts:ve t_)(t:TGs):Prop:=
 ∀(FR:e_ 0)(s:oa)(σ:St)(H:Hp)(vs:ve V)(us:ve n_)(Q:St->Hp->Prop),P_ s->aW vs us->t vs σ H Q->
  wpAny (fI X) X.A (assignInOrder ((y0L ts X.env).map (·.2)) us) (λ_ s'=>∃σ' H',q1q s'/\Q σ' H') X.xe s
abbrev UW:=V->V->V->Hp->(Hp->Prop)->Prop
def UX(X:Cx)(t:UW):Prop:=
 ∀(FR:e_ 0)(s:oa)(σ:St)(H:Hp)(o i v:V)(ov iv u:n_)(Q:Hp->Prop),P_ s->RelV o ov->RelV i iv->RelV v u->t o i v H Q->
  wpAny (fI X) X.A (setItem ov iv u) (λ_ s'=>∃H',f_ H' s'/\Q H') X.xe s
def JJ(i:Nat):TG:=λv σ H Q=>Q (σ.set i (a_ v)) H
theorem Ni(hN:X.N.Nodup)(hi:X.N[i]?=a_ x)(hx:Loc X.env.scope x)(hf:X.fn x=true\/q0c 0=a_ .local:=by first|exact .inl rfl|exact .inr rfl|assumption):PG X (.Name x pos) (JJ i):=by intro FR s σ H v u Q I r h;show wpAny_assign_Name (DI I hN hi hx r (λs' I'=>⟨_,H,I',h⟩) hf)
def UY:TGs:=λvs σ H Q=>vs=[]/\Q σ H
def Sy(t:TG)(u:TGs):TGs:=λvs σ H Q=>∃v r,vs=v::r/\t v σ H λσ' H'=>u r σ' H' Q
theorem Nj:PGs X [] UY:=by
 intro FR s σ H vs us Q I r h;let⟨e,h⟩:=h;subst e;cases r
 show assignInOrder_nil ⟨σ,H,I,h⟩
variable{es:ve t_}
theorem JK{t:TG}{u:TGs}(h1:PG X e t)(h2:PGs X es u)(hs:(y0L (e::es) X.env).map (·.2)=assign e X.env::(y0L es X.env).map (·.2):=by rfl):PGs X (e::es) (Sy t u):=by
 intro FR s σ H vs us Q I r h;let⟨v,vr,e1,h⟩:=h;subst e1;cases r with
 |cons r rr=>rw[hs];refine assignInOrder_cons (thn (h1 FR s σ H _ _ _ I r h) λ_ s1 ⟨σ1,H1,I1,q1⟩=>?_);show h2 FR s1 σ1 H1 _ _ Q I1 rr q1
def Sz(K:XQ)(n:Nat)(t:TGs):TG:=λv σ H Q=>∃a xs,v=.ref a/\q1b a xs/\xs.length=n/\t xs σ H Q
variable{n:Nat}
theorem Qj{k:Nat}{t:TGs}(hc:X.calm=true)(h:PGs X es t)(hn:(y0L es X.env).length=n:=by rfl)(b9:(y0L es X.env).findIdx? (·.1)=b_:=by rfl):PG X (.Tuple es k pos) (Sz X.K n t):=by
 intro FR s σ H v u Q I r hw;let⟨a,xs,e1,hq,hl,hw⟩:=hw;subst e1;cases r
 let⟨its,rv,ht,hz⟩:=I.tuple hq;refine assign_Tuple_tuple (I.ok.hd hc) ht (by simp[hn,<-hl,rv.length]) b9 λh' hx=>?_;let I1:P_ {s with heap:=h'}:=I.kept (t':=s.toks) λb o e=>hx b o (Yj (XZ e)) e;show h FR _ σ H xs _ Q I1 (i_ rv) hw
def Qk(te:TE)(g:TG):TS:=λD σ H=>te σ H λx H1=>g x σ H1 D.nx
variable{tg:t_}
theorem Ql{g:TG}(he:PE X e te)(hg:PG X tg g)(hs:swapsWithSole [tg] e pos.line X.env=pure false:=by rfl)(hw:swappedStores [tg] e X.env=pure b_:=by rfl)(h1:(y0L [tg] X.env).map (·.2)=[assign tg X.env]:=by rfl):PS X (.Assign [tg] e pos) (Qk te g):=by intro FR s σ H D I h;refine wpAny_Assign_stores (thn (he FR s σ H _ I h) λv s1 hz=>?_) hs hw;let⟨x,H1,I1,r1,q1⟩:=hz;rw[h1];show thn (hg FR s1 σ H1 x v _ I1 r1 q1) λ_ s2 q=>q
variable{pos':Pos}
theorem Qm(hN:X.N.Nodup)(hi:X.N[i]?=a_ x)(hx:Loc X.env.scope x)(he:PE X e te)(hs:swapsWith e (a_ (.Name x pos')) pos.line X.env=pure false:=by rfl)(hf:X.fn x=true\/q0c 0=a_ .local:=by first|exact .inl rfl|exact .inr rfl|assumption):
  PS X (.Assign [.Name x pos'] e pos) (Qk te (JJ i)):=by
 intro FR s σ H D I h;refine wpAny_Assign_Name (thn (he FR s σ H _ I h) λv s1 hz=>?_) hs;let⟨y,H1,I1,r1,q1⟩:=hz;show DI I1 hN hi hx r1 (λs2 I2=>⟨_,H1,I2,q1⟩) hf
structure It where
 go:Nat->Hp->Prop
 yld:Nat->Hp->V->Hp->Prop
 stop:Nat->Hp->Prop
def DJ(X:Cx)(FR:e_ 0)(H:Hp)(b:o_):Prop:=H b=b_/\b≠X.env.locals/\b∉X.fs/\(b∈X.ex\/X.s₀.heap.objs.size<=b)/\(∀x c,Z_ 0=a_ c->c≠b)/\∀p∈X.pn++FR,p.1≠b
theorem Inv.fpOk{σ:St}{b:o_}(I:P_ s)(hb:(c_ s)<=b)(hn:H' b=b_):DJ X FR H' b:=by
 refine⟨hn,Za (Yl I.lt hb),I.nofs hb,.inr (Y9 I.sz hb),λx c e z=>?_,λp hp z=>?_⟩
 ·let⟨v,q⟩:=I.cell x c e;show absurd (Yl q.lt (by rw[z];show hb)) (ZD _)
 ·show absurd (Yl (XZ (I.pin p hp).1) (by rw[z];show hb)) (ZD _)
structure Turn(P:td)(w:s_)(K:XQ)(tg:t_)(J:It)(fp:ve o_)(it:o_)(tn:Nat->r_->Prop):Prop where
 mem:it∈fp
 obj:∀i h,tn i h->∀b∈fp,∃o,h.get? b=some o/\∀v,o.data≠.cell v
 keep:∀i h h',tn i h->(∀b∈fp,∀o,h.get? b=some o->h'.get? b=some o)->tn i h'
 item:∀(X:Cx),X.prog=P->X.w=w->X.K=K->X.calm=true->∀(i:Nat)(FR:e_ 0)(s:oa)(σ:St)(H:Hp)(E:d_ 0),Inv X FR σ H s->(∀b∈fp,DJ X FR H b)->tn i s.heap->J.go i H->
  wpAny (model P w) X.A (pyNext (.ref it)) (λr s1=>∃u,r=some u/\
   wpAny (model P w) X.A (letOwnedTupleGo tg (.ref it) u) (λ_ s2=>∃x H',Inv X FR σ H' s2/\RelV x u/\J.yld i H x H'/\tn (i+1) s2.heap/\∀b∈fp,H' b=none) E s1) E s
 done:∀(X:Cx),X.prog=P->X.w=w->X.K=K->X.calm=true->∀(i:Nat)(FR:e_ 0)(s:oa)(σ:St)(H:Hp)(E:d_ 0),Inv X FR σ H s->(∀b∈fp,DJ X FR H b)->tn i s.heap->J.stop i H->
  wpAny (model P w) X.A (pyNext (.ref it)) (λr s1=>r=none/\Inv X FR σ H s1) E s
 self:∀(A:q_)(i:Nat)(s:oa)(Q:d_ 0)(E:d_ 0),tn i s.heap->Q (.ref it) s->wpAny (model P w) A (pyIter (.ref it)) Q E s
abbrev TI:=St->Hp->(It->Hp->Prop)->Prop
def PIE(X:Cx)(FR:e_ 0)(σ:St)(tg:t_)(R:It->Hp->Prop)(vy:n_)(s2:oa):Prop:=
 ∃(it:o_)(fp:ve o_)(tn:Nat->r_->Prop)(J:It)(H':Hp),vy=.ref it/\f_ H' s2/\Turn X.prog X.w X.K tg J fp it tn/\tn 0 s2.heap/\(∀b∈fp,DJ X FR H' b)/\R J H'
def PI(X:Cx)(tg iter:t_)(wi:TI):Prop:=
 ∀(FR:e_ 0)(s:oa)(σ:St)(H:Hp)(R:It->Hp->Prop),P_ s->wi σ H R->
  wpAny (fI X) X.A (eval iter X.env) (λv s1=>wpAny (fI X) X.A (pyIter v) (PIE X FR σ tg R) X.xe s1) X.xe s
theorem JL{o:Obj}{n:String}{vs:q0p 0}{Q:g_ Unit}(ho:s.heap.get? it=a_ o)(hc:o.cls=.type n)(hd:o.data=.fields vs)(hn:["enumerate","zip","dict_itemiterator","dict_reverseitemiterator","odict_iterator","itertools.zip_longest","itertools.pairwise"].contains n=false)(hQ:Q () s):wpAny M A (letOwnedTupleGo tg (.ref it) u) Q E s:=by
 unfold letOwnedTupleGo;cases tg <;> first
  |exact XM hQ
  | (cases u <;> first
    |exact XM hQ
    | (refine XJ (wpAny_load ho ?_)
       rw[hc,hd]
       change wpAny M A (if(["enumerate","zip","dict_itemiterator","dict_reverseitemiterator","odict_iterator","itertools.zip_longest","itertools.pairwise"].contains n&&vs[0]? == a_ (rawInt _))=true then _ else _) Q E s
       rw[if_neg (by intro h;rw[hn,Bool.false_and]at h;cases h)];show XM hQ))
def Itl(K:XQ)(a:o_):It:=⟨λi H=>∃xs x,q0S a xs/\xs[i]?=a_ x,λi H x H'=>H'=H/\∀xs,q0S a xs->xs[i]?=a_ x,λi H=>∃xs,q0S a xs/\xs.length<=i⟩
def Itt(K:XQ)(a:o_):It:=⟨λi H=>∃xs x,q1b a xs/\xs[i]?=a_ x,λi H x H'=>H'=H/\∀xs,q1b a xs->xs[i]?=a_ x,λi H=>∃xs,q1b a xs/\xs.length<=i⟩
def Itr(lo:Int)(n:Nat):It:=⟨λi _=>i<n,λi H x H'=>H'=H/\x=.int (lo+i),λi _=>n<=i⟩
theorem Bw(a it:o_):Turn P w K tg (Itl K a) [it] it (λi h=>h.IsListIter it a i) where
 mem:=by simp
 obj:=λi h st b hb=>by
  let e:b=it:=by simpa using hb
  subst e;let⟨o,e,c,d⟩:=st;show⟨o,e,λv z=>by rw[d]at z;cases z⟩
 keep:=λi h h' st k=>st.at λo e=>k it (by simp) o e
 item:=by
  intro X hP hw hK hc i FR s σ H E I hf st hg;subst hP hw hK;let⟨xs,x,hq,hx⟩:=hg;let⟨its,rv,p,hz⟩:=I.list hq;let⟨u,hu,ru⟩:=rv.get hx;let⟨f0,f1,f2,f3,f4,f5⟩:=hf it (by simp);refine wpAny_pyNext_list_item st p.isList (x:=u) (i_ hu) λh' aa sb=>?_;let I1:P_ {s with heap:=h'}:=I.turned (t':=s.toks) (λb o hb e=>(sb.2 b hb).trans e) f0 f1 f3 f4 f5;let⟨o,e,c,d⟩:=id aa;show⟨u,rfl,JL (s:={s with heap:=h'}) e c d nofun ⟨x,H,I1,ru,⟨rfl,λys hy=>by rw[I.list_inj hy hq];show hx⟩,aa,λb hb=>(hf b hb).1⟩⟩
 done:=by intro X hP hw hK hc i FR s σ H E I hf st hg;subst hP hw hK;let⟨xs,hq,hx⟩:=hg;let⟨its,rv,p,hz⟩:=I.list hq;let⟨f0,f1,f2,f3,f4,f5⟩:=hf it (by simp);let hl:=rv.length;show wpAny_pyNext_list_end (I.ok.hd hc) st p.isList (by simp;omega) λh' eb=>⟨rfl,I.turned (t':=s.toks) (λb o hb e=>eb b o hb e) f0 f1 f3 f4 f5⟩
 self:=λ_ _ _ _ _ st h=>wpAny_pyIter_listiter st h
theorem Fx(a it:o_):Turn P w K tg (Itt K a) [it] it (λi h=>h.IsTupleIter it a i) where
 mem:=by simp
 obj:=λi h st b hb=>by
  let e:b=it:=by simpa using hb
  subst e;let⟨o,e,c,d⟩:=st;show⟨o,e,λv z=>by rw[d]at z;cases z⟩
 keep:=λi h h' st k=>st.at λo e=>k it (by simp) o e
 item:=by
  intro X hP hw hK hc i FR s σ H E I hf st hg;subst hP hw hK;let⟨xs,x,hq,hx⟩:=hg;let⟨its,rv,p,hz⟩:=I.tuple hq;let⟨u,hu,ru⟩:=rv.get hx;let⟨f0,f1,f2,f3,f4,f5⟩:=hf it (by simp);refine wpAny_pyNext_tuple_item st (show s.heap.IsTuple a its.toArray from p) (x:=u) (i_ hu) λh' aa sb=>?_
  let I1:P_ {s with heap:=h'}:=I.turned (t':=s.toks) (λb o hb e=>(sb.2 b hb).trans e) f0 f1 f3 f4 f5;let⟨o,e,c,d⟩:=id aa;show⟨u,rfl,JL (s:={s with heap:=h'}) e c d nofun ⟨x,H,I1,ru,⟨rfl,λys hy=>by rw[I.tuple_inj hy hq];show hx⟩,aa,λb hb=>(hf b hb).1⟩⟩
 done:=by intro X hP hw hK hc i FR s σ H E I hf st hg;subst hP hw hK;let⟨xs,hq,hx⟩:=hg;let⟨its,rv,p,hz⟩:=I.tuple hq;let⟨f0,f1,f2,f3,f4,f5⟩:=hf it (by simp);let hl:=rv.length;show wpAny_pyNext_tuple_end (I.ok.hd hc) st (show s.heap.IsTuple a its.toArray from p) (by simp;omega) λh' eb=>⟨rfl,I.turned (t':=s.toks) (λb o hb e=>eb b o hb e) f0 f1 f3 f4 f5⟩
 self:=λ_ _ _ _ _ st h=>wpAny_pyIter_tupleiter st h
theorem Fy(it:o_)(lo:Int)(n:Nat):Turn P w K tg (Itr lo n) [it] it (λi h=>IsRangeIter h it (lo+(i:Nat)*1) ((n:Int)-(i:Nat)) 1) where
 mem:=by simp
 obj:=λi h st b hb=>by
  let e:b=it:=by simpa using hb
  subst e;show⟨_,st,λv z=>by let z':Data.fields _=Data.cell v:=z;cases z'⟩
 keep:=λi h h' st k=>k it (by simp) _ st
 item:=by
  intro X hP hw hK hc i FR s σ H E I hf st hg;subst hP hw hK;let⟨f0,f1,f2,f3,f4,f5⟩:=hf it (by simp);let W:=Walks.range (prog:=X.prog) (w:=X.w) (I.ok.hd hc) it lo 1 n;refine W.item i s _ _ hg st λv h' tk hv aa kk=>?_;let⟨t,rfl⟩:=hv;let I1:P_ {s with heap:=h',toks:=tk}:=I.turned (λb o hb e=>kk b o (i_ hb) e) f0 f1 f3 f4 f5;refine⟨_,rfl,JL (s:={s with heap:=h',toks:=tk}) (n:="range_iterator") aa rfl rfl nofun ⟨.int (lo+i),H,I1,⟨t,?_⟩,⟨rfl,rfl⟩,aa,λb hb=>(hf b hb).1⟩⟩;rw[Int.mul_one]
 done:=by intro X hP hw hK hc i FR s σ H E I hf st hg;subst hP hw hK;let⟨f0,f1,f2,f3,f4,f5⟩:=hf it (by simp);show wpAny_pyNext_range_end (I.ok.hd hc) st (by have:n<=i:=hg;omega) λh' eb=>⟨rfl,I.turned (t':=s.toks) (λb o hb e=>eb b o hb e) f0 f1 f3 f4 f5⟩
 self:=λ_ _ _ _ _ st h=>wpAny_pyIter_rangeiter st h
theorem DK{σ:St}{R:It->Hp->Prop}{lo hi:Int}{t u v:Tok}{tk:Nat}(I:P_ s)(h1:-(2 ^ 62)<=lo)(h2:lo<2 ^ 62)(h3:-(2 ^ 62)<=hi)(h4:hi<2 ^ 62)(q:R (Itr lo (hi-lo).toNat) H):wpAny (fI X) X.A (pyIter (.ref (c_ s))) (PIE X FR σ tg R) E {s with heap:=s.heap.push {cls:=.type "range",data:=.fields #[.int lo t,.int hi u,.int 1 v]},toks:=tk}:=by
 refine wpAny_pyIter_range (IsRange.new ..) (small_one h1 h2 h3 h4) ?_;let I1:P_ {s with heap:=s.heap.push {cls:=.type "range",data:=.fields #[.int lo t,.int hi u,.int 1 v]},toks:=tk}:=I.kept λb o e=>XO _ e;refine⟨(s.heap.push {cls:=.type "range",data:=.fields #[.int lo t,.int hi u,.int 1 v]}).objs.size,[(s.heap.push {cls:=.type "range",data:=.fields #[.int lo t,.int hi u,.int 1 v]}).objs.size],_,_,H,rfl,
  I1.kept (t':=tk) λb o e=>XO _ e,Fy _ lo (hi-lo).toNat,?_,λb hb=>?_,q⟩
 ·let e1:lo+((0:Nat):Int)*1=lo:=by simp
  let e2:(((hi-lo).toNat:Nat):Int)-((0:Nat):Int)=Builtin.Range.rangeSize lo hi 1:=by rw[rangeSize_one];split <;> omega
  change IsRangeIter _ _ (lo+((0:Nat):Int)*1) ((((hi-lo).toNat:Nat):Int)-((0:Nat):Int)) 1
  rw[e1,e2];show q0O 0
 ·let e:b=(s.heap.push {cls:=.type "range",data:=.fields #[.int lo t,.int hi u,.int 1 v]}).objs.size:=by simpa using hb
  subst e;show I1.fpOk (X1 _) (I1.hok.fresh (X1 _))
def UZ(wi:TI)(g:TG)(tb:TS):TS:=λD σ H=>wi σ H λJ H1=>∃W:Nat->Nat->St->Hp->Prop,(∃m,W 0 m σ H1)/\∀i m σ H,W i m σ H->
 (J.stop i H/\D.nx σ H)\/(J.go i H/\∃N:St->Hp->Prop,(∀σ' H',N σ' H'->∃m',m'<m/\W (i+1) m' σ' H')/\∀x H',J.yld i H x H'->g x σ H' λσ2 H2=>tb { D with nx:=N,ct:=N,bk:=D.nx} σ2 H2)
def zM(fp:ve o_)(h:r_):e_ 0:=fp.filterMap λb=>(h.get? b).map λo=>(b,o)
variable{fp:ve o_}
theorem oC{h:r_}{b:o_}{o:Obj}(hb:b∈fp)(e:h.get? b=a_ o):(b,o)∈zM fp h:=List.mem_filterMap.mpr ⟨b,hb,by rw[e];rfl⟩
theorem Ib{h:r_}{p:o_×Obj}(hp:p∈zM fp h):p.1∈fp/\h.get? p.1=a_ p.2:=by
 let⟨b,hb,e⟩:=List.mem_filterMap.mp hp;cases q:h.get? b with
 |none=>rw[q]at e;cases e
 |some o=>rw[q]at e;let e':(b,o)=p:=Yp e;subst e';show⟨hb,q⟩
theorem Inv.pinned{σ:St}(I:P_ s)(hf:∀b∈fp,DJ X FR H b)(ho:∀b∈fp,∃o,I_ 0=a_ o/\∀v,o.data≠.cell v):Inv X (FR++zM fp s.heap) σ H s:=I.pins_of λp hp=>(X7.mp hp).elim (λz=>I.pin p (XS _ z)) λz=>by let⟨hb,e⟩:=Ib z;let⟨f0,f1,f2,_⟩:=hf p.1 hb;let⟨o,e',d⟩:=ho p.1 hb;rw[e]at e';cases e';show⟨e,f0,f1,f2,d⟩
theorem Inv.unpinned{pl:e_ 0}{σ:St}(I:Inv X (FR++pl) σ H s):P_ s:=I.pins_of λp hp=>I.pin p (XS _ (Yu _ hp))
variable{iter:t_}
theorem Qn{body:ve u_}{wi:TI}{g:TG}{tb:TS}(hp:PassesOwn (fI X) X.A X.env X.xe)(hc:X.calm=true)(hi:PI X tg iter wi)(hg:PG X tg g)(hb:PSs X body tb)(hs:∀x,y0z iter X.env x=pure x:=by intro _;rfl):PS X (.For tg iter body [] pos) (UZ wi g tb):=by
 intro FR s σ H D I h;refine wpAny_For (thn (hi FR s σ H _ I h) λv s1 h1=>thn h1 λvy s2 h2=>?_) hs;let⟨it,fp,tn,J,H2,e,I2,T,au,f2,W,⟨m0,w0⟩,turn⟩:=h2;subst e
 -- what stays true of the iterator's objects through the loop
 let j':∀{H':Hp},(∀b∈fp,H' b=b_)->∀b∈fp,DJ X FR H' b:=λhn b hb=>⟨hn b hb,(f2 b hb).2⟩;refine codeAny_forLoop_any (λn s'=>∃i σ' H',q1q s'/\tn i s'.heap/\(∀b∈fp,H' b=b_)/\W i n σ' H') ?_ m0 ⟨0,σ,H2,I2,au,λb hb=>(f2 b hb).1,w0⟩;rintro n s3 ⟨i,σ3,H3,I3,ai,fr3,w3⟩;rcases turn i n σ3 H3 w3 with⟨stop,qn⟩|⟨go,N,hN,step⟩
 ·refine wpAny_passesOwn hp (thn (T.done X rfl rfl rfl hc i FR s3 σ3 H3 X.xe I3 (j' fr3) ai stop) λr s4 ⟨hr,I4⟩=>?_);subst hr;show wpAny_execs_nil ⟨σ3,H3,I4,qn⟩
 ·refine wpAny_passesOwn hp (thn (T.item X rfl rfl rfl hc i FR s3 σ3 H3 X.xe I3 (j' fr3) ai go) λr s4 ⟨u,hr,h4⟩=>?_);subst hr;refine wpAny_passesOwn hp (thn h4 λ_ s5 hz=>?_);let⟨x,H5,I5,r5,y5,md,sk⟩:=hz;let Wd:=I5.pinned (j' sk) (T.obj _ _ md);refine wpAny_passesOwn hp (thn (hg _ s5 σ3 H5 x u _ Wd r5 (step x H5 y5)) λ_ s6 ⟨σ6,H6,I6,q6⟩=>?_);refine wpAny_passesOwn hp (thn (hb _ s6 σ6 H6 _ I6 q6) λf s7 q7=>?_);let again:∀{σ7:St}{H7:Hp},Inv X (FR++zM fp s5.heap) σ7 H7 s7->N σ7 H7->∃m,m<n/\∃i σ' H',q1q s7/\tn i s7.heap/\(∀b∈fp,H' b=b_)/\W i m σ' H':=λ{σ7 H7} I7 n7=>by let⟨m',hm,w7⟩:=hN σ7 H7 n7;refine⟨m',hm,i+1,σ7,H7,I7.unpinned,T.keep _ _ _ md λb hb o e=>(I7.pin (b,o) (XS _ (XS _ (oC hb e)))).1,λb hb=>?_,w7⟩;let⟨o,e,d⟩:=T.obj _ _ md b hb;show(I7.pin (b,o) (XS _ (XS _ (oC hb e)))).2.1
  cases f with
  |next=>let⟨σ7,H7,I7,n7⟩:=q7;show again I7 n7
  |cont=>let⟨σ7,H7,I7,n7⟩:=q7;show again I7 n7
  |brk=>let⟨σ7,H7,I7,q7⟩:=q7;show⟨σ7,H7,I7.unpinned,q7⟩
  |ret v=>let⟨x7,σ7,H7,I7,r7,q7⟩:=q7;show⟨x7,σ7,H7,I7.unpinned,r7,q7⟩
abbrev R2:=V->V->Hp->VK->Prop
def OpR(X:Cx)(f:n_->n_->Sem n_)(r:R2):Prop:=
 ∀(FR:e_ 0)(s:oa)(σ:St)(H:Hp)(x y:V)(v u:n_)(Q:VK),P_ s->q1f v->RelV y u->r x y H Q->
  wpAny (fI X) X.A (f v u) (q0q Q) X.xe s
def UnR(X:Cx)(f:n_->Sem n_)(r:V->Hp->VK->Prop):Prop:=
 ∀(FR:e_ 0)(s:oa)(σ:St)(H:Hp)(x:V)(v:n_)(Q:VK),P_ s->q1f v->r x H Q->
  wpAny (fI X) X.A (f v) (q0q Q) X.xe s
def dJ(X:Cx)(f:n_)(r:ve V->Hp->VK->Prop):Prop:=
 ∀(FR:e_ 0)(s:oa)(σ:St)(H:Hp)(xs:ve V)(us:ve n_)(Q:VK),P_ s->aW xs us->r xs H Q->
  wpAny (fI X) X.A (call f us) (q0q Q) X.xe s
def V0(X:Cx)(r:V->Hp->(Bool->Hp->Prop)->Prop):Prop:=
 ∀(FR:e_ 0)(s:oa)(σ:St)(H:Hp)(x:V)(v:n_)(Q:Bool->Hp->Prop),P_ s->q1f v->r x H Q->
  wpAny (fI X) X.A (truthy v) (TP X FR σ Q) X.xe s
def tOp(r:R2)(ta tb:TE):TE:=λσ H Q=>ta σ H λx H1=>tb σ H1 λy H2=>r x y H2 Q
def tUn(r:V->Hp->VK->Prop)(ta:TE):TE:=λσ H Q=>ta σ H λx H1=>r x H1 Q
def rI(C:Int->Int->Prop)(g:Int->Int->V):R2:=λx y H Q=>∃i j,x=.int i/\y=.int j/\C i j/\Q (g i j) H
def rI0(g:Int->Int->V):R2:=λx y H Q=>∃i j,x=.int i/\y=.int j/\Q (g i j) H
def rU(g:Int->V):V->Hp->VK->Prop:=λx H Q=>∃i,x=.int i/\Q (g i) H
variable{f:n_->n_->Sem n_}{ta:TE}
section
variable{a b c:t_}{tb tc:TE}
theorem Qo(ha:PE X a ta)(hb:PE X b tb){σ:St}{R:V->V->Hp->Prop}(I:P_ s)(h:ta σ H λx H1=>tb σ H1 λy H2=>R x y H2)(hf:∀v u s2 x y H2,f_ H2 s2->q1f v->RelV y u->R x y H2->wpAny (fI X) X.A (f v u) Q X.xe s2):
  wpAny (fI X) X.A (eval a X.env) (λv s₁=>wpAny (fI X) X.A (eval b X.env) (λu s₂=>wpAny (fI X) X.A (f v u) Q X.xe s₂) X.xe s₁) X.xe s:=by
 refine thn (q0N 0) λv s1 hz=>?_;let⟨x,H1,I1,r1,q1⟩:=hz;refine thn (hb FR s1 σ H1 _ I1 q1) λu s2 hz=>?_;let⟨y,H2,I2,r2,q2⟩:=hz;show hf v u s2 x y H2 I2 r1 r2 q2
theorem SB{op:Operator}{r:R2}(ho:q0J (ZQ op) r)(ha:PE X a ta)(hb:PE X b tb):PE X (.BinOp a op b pos) (tOp r ta tb):=by intro FR s σ H Q I h;show wpAny_BinOp (Qo ha hb I h λv u s2 x y H2 I2 rx ry q=>ho FR s2 σ H2 x y v u Q I2 rx ry q)
theorem SC{op:UnaryOp}{r:V->Hp->VK->Prop}(ho:UnR X (unaryOp op) r)(ha:PE X a ta):PE X (.UnaryOp op a pos) (tUn r ta):=by intro FR s σ H Q I h;show UnaryOp_ (thn (q0N 0) λv s1 ⟨x,H1,I1,r1,q1⟩=>ho FR s1 σ H1 x v Q I1 r1 q1)
theorem opI{C:Int->Int->Prop}{g:Int->Int->Int}(rule:∀(i j:Int)(t u:Tok)(s:oa)(Q:d_ 0)(E:d_ 0),C i j->Q (.int (g i j) s.toks) { s with toks:=s.toks+1}->wpAny (fI X) X.A (f (.int i t) (.int j u)) Q E s):
  q0J f (rI C λi j=>.int (g i j)):=by
 intro FR s σ H x y v u Q I rx ry h;let⟨i,j,rfl,rfl,hc,q⟩:=h;let⟨t,rfl⟩:=rx;let⟨t',rfl⟩:=ry;show rule i j t t' s _ _ hc ⟨.int (g i j),H,I.tok _,⟨_,rfl⟩,q⟩
theorem SD{g:Int->Int->Int}(rule:∀(i j:Int)(t u:Tok)(s:oa)(Q:d_ 0)(E:d_ 0),Q (.int (g i j) s.toks) { s with toks:=s.toks+1}->wpAny (fI X) X.A (f (.int i t) (.int j u)) Q E s):
  q0J f (rI0 λi j=>.int (g i j)):=by
 intro FR s σ H x y v u Q I rx ry h;let⟨i,j,rfl,rfl,q⟩:=h;let⟨t,rfl⟩:=rx;let⟨t',rfl⟩:=ry;show rule i j t t' s _ _ ⟨.int (g i j),H,I.tok _,⟨_,rfl⟩,q⟩
theorem Qp{g:Int->Int->Bool}(rule:∀(i j:Int)(t u:Tok)(s:oa)(Q:d_ 0)(E:d_ 0),Q (.bool (g i j)) s->wpAny (fI X) X.A (f (.int i t) (.int j u)) Q E s):
  q0J f (rI0 λi j=>.bl (g i j)):=by
 intro FR s σ H x y v u Q I rx ry h;let⟨i,j,rfl,rfl,q⟩:=h;let⟨t,rfl⟩:=rx;let⟨t',rfl⟩:=ry;show rule i j t t' s _ _ ⟨.bl (g i j),H,I,rfl,q⟩
def JM(i j:Int):Prop:=0<j/\j<1073741824
def V1(i j:Int):Prop:=0<=j/\j<=1000000/\i.natAbs<2 ^ 64
def DL(i j:Int):Prop:=(-(2 ^ 64)<i/\i<2 ^ 64)\/(-(2 ^ 64)<j/\j<2 ^ 64)
theorem DL.ok{i j:Int}(h:DL i j):IntMulOk i j:=by
 rcases h with⟨h1,h2⟩|⟨h1,h2⟩
 ·show .of_left (intBits_le_64 h1 h2)
 ·show .of_right (intBits_le_64 h1 h2)
theorem Qq:q0J (ZQ .Add) (rI0 λi j=>.int (i+j)):=SD λ_ _ _ _ _ _ _ q=>add_int q
theorem Qr:q0J (ZQ .Sub) (rI0 λi j=>.int (i-j)):=SD λ_ _ _ _ _ _ _ q=>sub_int q
theorem Qs:q0J (ZQ .Mult) (rI DL λi j=>.int (i*j)):=opI λ_ _ _ _ _ _ _ hc q=>mul_int q hc.ok
theorem Nk:q0J (ZQ .FloorDiv) (rI JM λi j=>.int (i/j)):=opI λi j _ _ _ _ _ hc q=>by let h1:(0:Int)<j:=hc.1;let h2:j<1073741824:=hc.2;show floordiv_int ⋯ (by rw[Int.fdiv_eq_ediv_of_nonneg i ⋯];show q) (.inl (PyProof.noPylong_small ⋯))
theorem Qt:q0J (ZQ .Mod) (rI (λ_ j=>0<j) λi j=>.int (i%j)):=opI λi j _ _ _ _ _ hc q=>by let h1:(0:Int)<j:=hc;show mod_int' ⋯ (by rw[Int.fmod_eq_emod_of_nonneg i ⋯];show q)
theorem unI{f:n_->Sem n_}{g:Int->Int}
  (rule:∀(i:Int)(t:Tok)(s:oa)(Q:d_ 0)(E:d_ 0),Q (.int (g i) s.toks) { s with toks:=s.toks+1}->wpAny (fI X) X.A (f (.int i t)) Q E s):
  UnR X f (rU λi=>.int (g i)):=by
 intro FR s σ H x v Q I rx h;let⟨i,rfl,q⟩:=h;let⟨t,rfl⟩:=rx;show rule i t s _ _ ⟨.int (g i),H,I.tok _,⟨_,rfl⟩,q⟩
theorem Qu:UnR X (unaryOp .USub) (rU λi=>.int (-i)):=unI λ_ _ _ _ _ q=>neg_int q
end
variable{r':R2}{op:CmpOp}{k6:CmpOp}{its:ve n_}
section
variable{a b c:t_}{tb tc:TE}
theorem zN{σ:St}{Q:VK}{k k':Bool}(I:P_ s)(q:Q (.bl k) H)(e:k=k'):q0q Q (.bool k') s:=by subst e;show⟨.bl k,H,I,rfl,q⟩
theorem SF:q0J (YD .Lt) (rI0 λi j=>.bl (decide (i<j))):=Qp λ_ _ _ _ _ _ _ q=>lt_int q
theorem SH:q0J (YD .LtE) (rI0 λi j=>.bl (decide (i<=j))):=Qp λ_ _ _ _ _ _ _ q=>le_int q
theorem SJ:q0J (YD .Gt) (rI0 λi j=>.bl (decide (j<i))):=Qp λ_ _ _ _ _ _ _ q=>gt_int q
theorem Ic:q0J (YD .Lt) (λx y H Q=>∃i j,x=.str i/\y=.str j/\Q (.bl (decide (i.cps.toList<j.cps.toList))) H):=by intro FR s σ H x y v u Q I rx ry h;let⟨i,j,rfl,rfl,q⟩:=h;let⟨t,rfl⟩:=rx;let⟨t',rfl⟩:=ry;show lt_str (zN I q rfl)
theorem Qv:q0J (YD .Is) (λx y H Q=>y=.non/\Q (.bl (decide (x=.non))) H):=by
 intro FR s σ H x y v u Q I rx ry h;let⟨rfl,q⟩:=h;cases ry
 refine is_none_gen (zN I q ?_);cases x <;> first
  |(cases rx;rfl)
  |(let⟨t,rfl⟩:=rx;rfl)
theorem Nl:q0J (YD .IsNot) (λx y H Q=>y=.non/\Q (.bl (!decide (x=.non))) H):=by
 intro FR s σ H x y v u Q I rx ry h;let⟨rfl,q⟩:=h;cases ry
 refine isnot_none_gen (zN I q ?_);cases x <;> first
  |(cases rx;rfl)
  |(let⟨t,rfl⟩:=rx;rfl)
theorem OpR.or{r:R2}(h:q0J f r)(h':q0J f r'):q0J f (λx y H Q=>r x y H Q\/r' x y H Q):=by
 intro FR s σ H x y v u Q I rx ry q;rcases q with q|q
 ·show q0t x y v u Q I rx ry q
 ·show h' FR s σ H x y v u Q I rx ry q
theorem JN(b:t_)(h:op≠.In:=by decide)(h2:op≠.NotIn:=by decide):behindInMarks op b=false:=by
 let e1:(op == CmpOp.In)=false:=by cases op <;> first|rfl|exact absurd rfl h
 let e2:(op == CmpOp.NotIn)=false:=by cases op <;> first|rfl|exact absurd rfl h2
 cases b <;> simp[behindInMarks,e1,e2]
theorem Nm{r:R2}(ho:q0J (YD op) r)(ha:PE X a ta)(hb:PE X b tb)(hm:behindInMarks op b=false):PE X (.Compare a [op] [b] pos) (tOp r ta tb):=by intro FR s σ H Q I h;show wpAny_Compare1 (Qo ha hb I h λv u s2 x y H2 I2 rx ry q=>ho FR s2 σ H2 x y v u Q I2 rx ry q) hm
def JO(r r':R2)(ta tb tc:TE):TE:=λσ H Q=>ta σ H λx H1=>tb σ H1 λy H2=>r x y H2 λz H3=>∃k,z=.bl k/\
 (if k=true then tc σ H3 λw' H4=>r' y w' H4 Q else Q (.bl false) H3)
theorem JP{r:R2}(ho:q0J (YD op) r)(cg:q0J (YD k6) r')(ha:PE X a ta)(hb:PE X b tb)(hc:PE X c tc)(hm:lastMarks [op,k6] [b,c]=false:=by with_unfolding_all rfl):PE X (.Compare a [op,k6] [b,c] pos) (JO r r' ta tb tc):=by
 intro FR s σ H Q I h;refine Compare_chain (thn (q0N 0) λv s1 ⟨x,H1,I1,r1,q1⟩=>chain_link (thn (hb FR s1 σ H1 _ I1 q1) λu s2 ⟨y,H2,I2,r2,q2⟩=>thn (ho FR s2 σ H2 x y v u _ I2 r1 r2 q2) λd s3 ⟨z,H3,I3,r3,k,e,q3⟩=>?_)) hm;subst e;cases r3
 refine y0A ?_;cases k with
 |false=>exact ite_ff ⟨.bl false,H3,I3,rfl,q3⟩
 |true=>exact ite_tt (chain_last (thn (hc FR s3 σ H3 _ I3 q3) λw' s4 ⟨z',H4,I4,r4,q4⟩=>cg FR s4 σ H4 y z' u w' Q I4 r2 r4 q4))
def Np(K:XQ)(x:V)(H:Hp)(k:Bool):Prop:=
 match x with
 |.non=>k=false
 |.bl b=>k=b
 |.int i=>k=(i != 0)
 |.str y=>y.length<=X5/\k=((y.length:Int) != 0)
 |.byt y=>y.size<=X5/\k=((y.size:Int) != 0)
 |.ref p=>(∃xs,q0S p xs/\k=!xs.isEmpty)\/(∃xs,q1b p xs/\k=!xs.isEmpty)\/∃kvs,H p=a_ (.dK kvs)/\k=!kvs.isEmpty
 |_=>False
theorem Fz{κ:Type}{kvs:ve (κ×V)}{vs:ve (κ×n_)}(r:KV kvs vs):(!vs.isEmpty)=!kvs.isEmpty:=by cases r <;> rfl
theorem zO{xs:ve V}(r:aW xs its):(!its.toArray.isEmpty)=!xs.isEmpty:=by cases r <;> simp
theorem sI:(X5:Nat)<2 ^ 63:=by rw[YL];decide
theorem JQ:V0 X (λx H Q=>∃k,Np X.K x H k/\Q k H):=by
 intro FR s σ H x v Q I rx h;let⟨k,e,q⟩:=h;let hl:=sI;let hs:X5=16777216:=YL;cases x with
 |non=>
  cases rx
  let e':k=false:=e;subst e';show truthy_none ⟨H,I,q⟩
 |bl b=>
  cases rx
  let e':k=b:=e;subst e';show y0A ⟨H,I,q⟩
 |int i=>let⟨t,rfl⟩:=rx;let e':k=(i != 0):=e;subst e';show PySem.P.truthy_int ⟨H,I,q⟩
 |str y=>let⟨t,rfl⟩:=rx;obtain⟨hy,e'⟩:y.length<=X5/\k=((y.length:Int) != 0):=e;subst e';show PySem.P.truthy_str ⋯ ⟨H,I.tok _,q⟩
 |byt y=>let⟨t,rfl⟩:=rx;obtain⟨hy,e'⟩:y.size<=X5/\k=((y.size:Int) != 0):=e;subst e';show PySem.W.truthy_bytes ⋯ ⟨H,I.tok _,q⟩
 |ref p=>
  cases rx
  let e':(∃xs,SqL X.K H p xs/\k=!xs.isEmpty)\/(∃xs,SqT X.K H p xs/\k=!xs.isEmpty)\/∃kvs,H p=a_ (.dK kvs)/\k=!kvs.isEmpty:=e;rcases e' with⟨xs,hx,e'⟩|⟨xs,hx,e'⟩|⟨kvs,hx,e'⟩
  ·subst e';let⟨its,r,pl,hz⟩:=I.list hx;let hlen:=r.length;show wpAny_truthy_list pl.isList (by simp only[X3];omega) ⟨H,I.tok _,by rw[zO r];show q⟩
  ·subst e';let⟨its,r,pl,hz⟩:=I.tuple hx;let hlen:=r.length;show truthy_tuple pl (by simp only[X3];omega) ⟨H,I.tok _,by rw[zO r];show q⟩
  ·subst e';obtain⟨hz,hS,vs,r,m⟩:kvs.length<=X5/\(p == Zf)=false/\∃vs,KV kvs vs/\s.heap.DictOf (dY X.prog X.w) p vs:=I.hok p _ hx;let hlen:kvs.length=vs.length:=YV r;show wpAny_truthy_dict hS m ⋯ ⟨H,I.tok _,by rw[Fz r];show q⟩
 |_=>exact(show False from e).elim
theorem JR(ha:PE X a ta)(he:∀whole,isTrue a X.env whole=(do let v <-whole;standAt a.pos;holding [v] (truthy v))):
  PT X a (λσ H Q=>ta σ H λx H'=>∃k,Np X.K x H' k/\Q k H'):=by
 intro FR s σ H Q I h
 exact isTrue_plain (thn (q0N 0) λv s1 ⟨x,H1,I1,r1,q1⟩=>JQ FR s1 σ H1 x v Q I1 r1 q1) (he _)
theorem FA:q0J (ZQ .Add) (λx y H Q=>∃i j,x=.str i/\y=.str j/\i.length+j.length<=X5/\Q (.str (i++j)) H):=by intro FR s σ H x y v u Q I rx ry h;let⟨i,j,rfl,rfl,hz,q⟩:=h;let⟨t,rfl⟩:=rx;let⟨t',rfl⟩:=ry;show add_str (λt' tk=>⟨.str (i++j),H,I.tok _,⟨_,rfl⟩,q⟩) hz
theorem vals1{x:V}(r:aW [x] us):∃u,us=[u]/\q1f u:=by
 cases r with
 |cons r1 r2=>cases r2;show⟨_,rfl,r1⟩
theorem vals2{x y:V}(r:aW [x,y] us):∃u w',us=[u,w']/\q1f u/\RelV y w':=by
 cases r with
 |cons r1 r2=>
  cases r2 with
  |cons r3 r4=>cases r4;show⟨_,_,rfl,r1,r3⟩
theorem Ie(hc:X.calm=true):dJ X (.builtin "min") (λxs H Q=>∃i j,xs=[.int i,.int j]/\Q (.int (if j<i then j else i)) H):=by
 intro FR s σ H xs us Q I r h;let⟨i,j,rfl,q⟩:=h;let⟨u,w',rfl,⟨t,rfl⟩,⟨t',rfl⟩⟩:=vals2 r;refine min_two_ints (I.ok.hd hc) λh' tk k=>⟨_,H,I.kept k,?_,q⟩;by_cases hj:j<i
 ·rw[if_pos hj,if_pos hj];show⟨_,rfl⟩
 ·rw[if_neg hj,if_neg hj];show⟨_,rfl⟩
def V2(K:XQ)(x:V)(H:Hp)(n:Nat):Prop:=
 match x with
 |.str y=>y.length<=X5/\n=y.length
 |.byt y=>y.size<=X5/\n=y.size
 |.ref p=>(∃xs,q0S p xs/\n=xs.length)\/∃xs,q1b p xs/\n=xs.length
 |_=>False
theorem JS:dJ X (.builtin "len") (λxs H Q=>∃x n,xs=[x]/\V2 X.K x H n/\Q (.int n) H):=by
 intro FR s σ H xs us Q I r h;let⟨x,n,rfl,e,q⟩:=h;let⟨u,rfl,rx⟩:=vals1 r;let hl:=sI;let hs:X5=16777216:=YL;cases x with
 |str y=>let⟨t,rfl⟩:=rx;obtain⟨hy,e'⟩:y.length<=X5/\n=y.length:=e;subst e';show len_str ⋯ ⟨.int _,H,I.tok _,⟨_,rfl⟩,q⟩
 |byt y=>let⟨t,rfl⟩:=rx;obtain⟨hy,e'⟩:y.size<=X5/\n=y.size:=e;subst e';show PySem.W.len_bytes ⋯ ⟨.int _,H,I.tok _,⟨_,rfl⟩,q⟩
 |ref p=>
  cases rx
  let e':(∃xs,SqL X.K H p xs/\n=xs.length)\/∃xs,SqT X.K H p xs/\n=xs.length:=e;rcases e' with⟨xs,hx,e'⟩|⟨xs,hx,e'⟩
  ·subst e';let⟨its,r',pl,hz⟩:=I.list hx;let hlen:=r'.length;show Calls.call_len_list pl.isList (by simp only[X3];omega) ⟨.int xs.length,H,I.tok _,⟨_,by simp only[X3];rw[hlen]⟩,q⟩
  ·subst e';let⟨its,r',pl,hz⟩:=I.tuple hx;let hlen:=r'.length;show len_tuple pl (by simp only[X3];omega) ⟨.int xs.length,H,I.tok _,⟨_,by simp only[X3];rw[hlen]⟩,q⟩
 |_=>exact(show False from e).elim
end
structure FB(h:r_)(x dx C:o_)(mA:ke 0):Prop where
 obj:h.get? x=some (y0D C dx)
 ns:h.Ns1 dx mA
 ne:dx≠x
variable{dx:o_}{mA:ke 0}
theorem Ii{h:r_}(n:h.Ns1 dx mA):∃od,h.get? dx=a_ od/\∀name,PySem.W.lookIn name od=a_ (mA name):=by
 let⟨o,es,ep,ho,hd,hk,_,hm⟩:=n;refine⟨o,ho,λname=>?_⟩;let e:=hm name;unfold nsFind findBy at e;rw[<-Array.find?_toList]at e;unfold PySem.W.lookIn;rw[hd];dsimp only;split
 ·rename_i y q;rw[q]at e;show congrArg a_ e
 ·rename_i q;rw[q]at e;let a:es.toList.any (·.refKey)=false:=by rw[List.any_eq_false];intro y hy;let⟨z,t,ak⟩:=hk y (Array.mem_toList_iff.mp hy);simp[DictEntry.refKey,ak]
  let a':¬ es.toList.any (·.refKey)=true:=by rw[a];show Yg
  rw[if_neg a'];show congrArg a_ e
theorem FB.look{h:r_}{x C:o_}(I:FB h x dx C mA):∃od,PySem.W.InstAt h x (y0D C dx) C (a_ od)/\∀name,PySem.W.lookIn name od=a_ (mA name):=
 let ⟨od,ho,hl⟩:=Ii I.ns
 ⟨od,⟨I.obj,rfl,rfl,ho⟩,hl⟩
variable{expr:Bool}{name:Str}{prog:td}{v:n_}
theorem get_map{x:o_}{C:o_}(X:K.In s.heap)(I:FB s.heap x dx C mA)(hg:y0M K C name=true)(hh:y02 K C=true)(ha:YI K (.ref C) name=a_ b_)(hv:mA name=a_ v)(l6:PySem.W.handedIn v=true)(h:Q v { s with toks:=s.toks+1}):
  x_ (getAttr (.ref x) name expr) Q E s:=by
 let⟨od,J,hl⟩:=I.look;show PySem.W.get_value X J (PySem.W.plainGet_of hg).1 (PySem.W.findObj_own hh ha rfl (by rw[hl,hv])) l6 h
theorem JU{x:o_}{C:o_}{f:o_}{pl:Sem Bool}{Q:n_×ve n_->oa->Prop}(X:K.In s.heap)(I:FB s.heap x dx C mA)(hg:y0M K C name=true)(hf:YI K (.ref C) name=a_ (cu f))(ht:PySem.W.isFn K (.ref f)=true)(hv:mA name=b_)(h:Q (.ref f,[.ref x]) s):
  x_ (getMethod (.ref x) name pl) Q E s:=by
 let⟨od,J,hl⟩:=I.look;show PySem.W.method_fn X J (PySem.W.plainGet_of hg).1 (PySem.W.plainGet_of hg).2 hf (beq_iff_eq.mp ht) (by change(PySem.W.lookIn name od).map (·.isSome)=a_ false;rw[hl,hv];rfl) h
variable{ns:ve Str}
theorem Nq{x:o_}{C:o_}{Q:g_ Unit}(X:K.In s.heap)(I:FB s.heap x dx C mA)(hs:YI K (.ref C) "__setattr__" = a_ (a_ (.builtin "object.__setattr__")))(hp:y1H K C=true)(ht:PySem.W.takerIn K C name=a_ b_)(hh:y02 K C=true)(hw:PySem.Within mA ns)(hsz:ns.length<=X5)(h:∀h',FB h' x dx C (λy=>if y=name then a_ v else mA y)->Zv dx s.heap h'->Q () {s with heap:=h',toks:=s.toks+2}):
  x_ (setAttr (.ref x) name v) Q E s:=by
 let⟨od,J,hl⟩:=I.look;refine PySem.W.set_plain X J hs (PySem.W.osa_open (s:={ s with toks:=s.toks+1}) (r:=b_) X J hp ht λb=>?_);let⟨cd,hc,cj⟩:=PySem.W.any_some hh;let hx:s.heap.get? x=a_ ⟨.ref C,a_ dx,.plain,#[]⟩:=I.obj;refine XJ (XM (XJ (XJ (wpAny_loadPart hx (XJ (PySem.W.Looks.here (s:={ s with toks:=s.toks+1}) (PySem.W.looks_clsIn X hc) ?_))))));rw[cj];refine XM (a:=a_ dx) (XJ (XM (XJ ?_)));refine wpAny_nsSet1 (s:={ s with toks:=s.toks+1}) I.ns λh' rm dj=>?_;let⟨oD,esD,epD,Xo,W8,Wa⟩:=rm.count (PySem.Within.cons name v hw);refine XJ (wpAny_lookBehind Xo (by rw[W8];show pastItsLine_dict (Y9 Wa (by rw[YM];omega))) ?_);show XM (h _ ⟨(dj.2 _ (ZK I.ne)).trans I.obj,rm,I.ne⟩ dj)
variable{R:g_ Result}{kw:ve (Str×n_)}{vs:ve n_}
theorem JV{C:o_}{f:o_}(X:K.In s.heap)(hm:y1t K C=true)(hi:YI K (.ref C) "__init__" = a_ (cu f))(hf:PySem.W.typeIn K (.ref f)=a_ (.type "function"))(h:codeAny (q0M 0) (A.under (.builtin "type.__call__" ⟨.ref C::vs,kw⟩)) (.call (.ref f) ⟨.ref (s.heap.objs.size+1)::vs,kw⟩) (PySem.W.InitBack (s.heap.objs.size+1) R)
   {s with heap:=(s.heap.push ZO).push (y0D C (c_ s))}):
  codeAny (q0M 0) A (.call (.ref C) ⟨vs,kw⟩) R s:=by
 let⟨hh,g,d,t,os⟩:=s;show PySem.W.make_core (PySem.W.makes_of X hm) (PySem.W.looks_findIn X hi) (λself=>PySem.W.bind_fn X self hf) (.inl rfl) h
def nH(f:Str)(v:V):ve (Str×V)->ve (Str×V)
 |[]=>[(f,v)]
 |(g,x)::r=>if g=f then(g,v)::r else(g,x)::nH f v r
theorem xN(f g:Str)(v:V):∀fs:ve (Str×V),(nH f v fs).lookup g=if g=f then a_ v else fs.lookup g
 |[]=>by
  change y1u g [(f,v)]=_
  by_cases h:g=f
  ·let hb:(g == f)=true:=beq_iff_eq.mpr h;simp only[y1u,hb,if_pos h]
  ·let hb:(g == f)=false:=beq_eq_false_iff_ne.mpr h;simp only[y1u,hb,if_neg h]
 |(k,x)::r=>by
  let ih:=xN f g v r;rw[show nH f v ((k,x)::r)=(if k=f then(k,v)::r else(k,x)::nH f v r) from rfl]
  by_cases hk:k=f
  ·rw[if_pos hk];by_cases h:g=k
   ·let hb:(g == k)=true:=beq_iff_eq.mpr h;simp only[y1u,hb,if_pos (h.trans hk)]
   ·let hb:(g == k)=false:=beq_eq_false_iff_ne.mpr h;simp only[y1u,hb,if_neg (λe:g=f=>h (e.trans hk.symm))]
  ·rw[if_neg hk];by_cases h:g=k
   ·let hb:(g == k)=true:=beq_iff_eq.mpr h;simp only[y1u,hb,if_neg (λe:g=f=>hk (h.symm.trans e))]
   ·let hb:(g == k)=false:=beq_eq_false_iff_ne.mpr h;simp only[y1u,hb];show ih
theorem vP(f:Str)(v:V):∀fs:ve (Str×V),f∈(nH f v fs).map (·.1)/\∀g,g∈fs.map (·.1)->g∈(nH f v fs).map (·.1)
 |[]=>⟨by simp[nH],λg h=>by simp at h⟩
 |(k,x)::r=>by
  let⟨i1,i2⟩:=vP f v r;rw[show nH f v ((k,x)::r)=(if k=f then(k,v)::r else(k,x)::nH f v r) from rfl]
  by_cases hk:k=f
  ·rw[if_pos hk];subst hk;show⟨by simp,λg h=>by simpa using h⟩
  ·rw[if_neg hk];refine⟨?_,λg h=>?_⟩
   ·rw[YA];show XW _ i1
   ·rw[YA]at h⊢;rcases Yf.mp h with e|e
    ·show Yf.mpr (.inl e)
    ·show XW _ (i2 g e)
theorem xO(f:Str)(v:V):∀fs:ve (Str×V),(nH f v fs).length<=fs.length+1
 |[]=>by simp[nH]
 |(k,x)::r=>by
  let ih:=xO f v r;rw[show nH f v ((k,x)::r)=(if k=f then(k,v)::r else(k,x)::nH f v r) from rfl]
  by_cases hk:k=f
  ·rw[if_pos hk,YM,YM];omega
  ·rw[if_neg hk,YM,YM];omega
theorem rT.some_of{v:V}{o:v_ n_}(r:rT (a_ v) o):∃u,o=a_ u/\RelV v u:=by
 cases o with
 |none=>exact(show False from r).elim
 |some u=>exact⟨u,rfl,r⟩
theorem rT.none_of{o:v_ n_}(r:rT b_ o):o=b_:=by
 cases o with
 |none=>rfl
 |some u=>exact(show False from r).elim
theorem Ij{v:V}(r:RelV v u):PySem.W.handedIn u=true:=by
 cases v with
 |non=>cases(show u=Yn from r);rfl
 |bl b=>cases(show u=Value.bool b from r);rfl
 |int i=>let⟨t,e⟩:=(show ∃t,u=Value.int i t from r);cases e;rfl
 |str x=>let⟨t,e⟩:=(show ∃t,u=y1h x t from r);cases e;rfl
 |byt b=>let⟨t,e⟩:=(show ∃t,u=Value.bytes b t from r);cases e;rfl
 |flt b=>let⟨t,e⟩:=(show ∃t,u=Value.float b t from r);cases e;rfl
 |ref a=>cases(show u=YH a from r);rfl
 |ty n=>cases(show u=y0y n from r);rfl
section
variable{h:r_}{C:o_}{fs ym:ve (Str×V)}
theorem Cb(hok:q1p h)(e:H a=a_ (.ins C dx fs)):∃mA,FB h a dx C mA/\(∀f,rT (fs.lookup f) (mA f))/\PySem.Within mA (fs.map (·.1))/\fs.length<=1000/\H dx=a_ (.own a):=by
 let⟨d,z,ne,ob,mA,n,r,q⟩:=(show dZ P w H h a (.ins C dx fs) from hok a _ e)
 show⟨mA,⟨ob,n,ne⟩,r,q,z,d⟩
end
structure Cls(K:XQ)(C:o_):Prop where
 pg:y0M K C Str.empty=true
 hd:y02 K C=true
 po:y1H K C=true
 sa:YI K (.ref C) "__setattr__" = some (some (.builtin "object.__setattr__"))
theorem Cls.get{C:o_}(c:Cls K C)(f:Str):y0M K C f=true:=c.pg
def qA(K:XQ)(C:o_)(f:Str):Prop:=YI K (.ref C) f=a_ b_
theorem qA.taker{C:o_}{f:Str}(n:qA K C f):PySem.W.takerIn K C f=a_ b_:=by
 unfold PySem.W.takerIn;rw[show YI K (.ref C) f=a_ b_ from n]
 rfl
structure Cc(K:XQ)(C:o_)(m:Str)(f:o_):Prop where
 at_:YI K (.ref C) m=some (cu f)
 fn:PySem.W.isFn K (.ref f)=true
 kp:ZH K (.ref f)=true
variable{b:Bool}{env:Env}
section
variable{σ:St}{C:o_}{fs:ve (Str×V)}{f:Str}{v:V}
theorem FC(I:P_ s)(e:H a=a_ (.ins C dx fs))(c:Cls X.K C)(n:qA X.K C f)(l:fs.lookup f=a_ v)(h:∀u s',P_ s'->RelV v u->Q u s'):wpAny (fI X) A (getAttr (.ref a) f b) Q E s:=by let⟨mA,O,r,_,_,_⟩:=Cb I.hok e;let⟨u,hu,ru⟩:=rT.some_of (v:=v) (o:=mA f) (by rw[<-l];show r f);show get_map I.kIn O (c.get f) c.hd n hu (Ij ru) (h u _ (I.tok _) ru)
theorem zP{m:Str}{g:o_}{pl:Sem Bool}{Q:n_×ve n_->oa->Prop}(I:P_ s)(e:H a=a_ (.ins C dx fs))(c:Cls X.K C)(k:Cc X.K C m g)(l:fs.lookup m=b_)
  (h:Q (.ref g,[.ref a]) s):wpAny (fI X) A (getMethod (.ref a) m pl) Q E s:=by
 let⟨mA,O,r,_,_,_⟩:=Cb I.hok e;let hn:mA m=b_:=rT.none_of (by rw[<-l];show r m);show JU I.kIn O (c.get m) k.at_ k.fn hn h
theorem FD{y:V}{Q:g_ Unit}(I:P_ s)(e:H a=a_ (.ins C dx fs))(c:Cls X.K C)(n:qA X.K C f)(hl:fs.length<1000)(ry:RelV y u)(h:∀s',f_ (q0r a (.ins C dx (nH f y fs))) s'->Q () s'):wpAny (fI X) A (setAttr (.ref a) f u) Q E s:=by
 let⟨mA,O,r,wi,_,ho⟩:=Cb I.hok e;let hz:(fs.map (·.1)).length<=X5:=by rw[XR,YL];omega
 refine Nq I.kIn O c.sa c.po n.taker c.hd wi hz λh' O' sb=>h _ ?_;let hd:∃o,h'.get? dx=a_ o:=let ⟨o,_,_,e',_⟩:=O'.ns;⟨o,e'⟩;refine I.write (x:=a) (e:=dx) (by rw[e];show y0N) (.inr ho) (λb q hb z=>(sb.2 b hb).trans z) hd ?_;refine⟨by rw[aS O.ne];show ho,?_,O.ne,O'.obj,_,O'.ns,λg=>?_,λg hg=>?_⟩
 ·have:=xO f y fs;omega
 ·change rT ((nH f y fs).lookup g) (if g=f then a_ u else mA g)
  rw[xN];by_cases q:g=f
  ·rw[if_pos q,if_pos q];show ry
  ·rw[if_neg q,if_neg q];show r g
 ·by_cases q:g=f
  ·rw[q];show(vP f y fs).1
  ·refine(vP f y fs).2 g (wi g λz=>hg ?_)
   change(if g=f then a_ u else mA g)=b_
   rw[if_neg q];show z
theorem Inv.made(I:P_ s):f_ (upd (q0r (c_ s) (.own (s.heap.objs.size+1))) (s.heap.objs.size+1) (.ins C (c_ s) []))
  {s with heap:=(s.heap.push ZO).push (y0D C (c_ s))}:=by
 let e1:(s.heap.push ZO).get? (c_ s)=a_ ZO:=X2 s.heap rfl;let e2:((s.heap.push ZO).push (y0D C (c_ s))).get? (s.heap.objs.size+1)=a_ (y0D C (c_ s)):=by
  have:=X2 (s.heap.push ZO) (o:=y0D C (c_ s)) rfl
  rwa[Zn]at this
 let e3:(s.heap.push ZO).Ns (c_ s) (λ_=>b_):=⟨ZO,#[],_,e1,rfl,(λe he=>absurd he (by simp)),λ_=>rfl⟩;let I1:=I.laid (a:=(c_ s)) (o:=.own (s.heap.objs.size+1)) (h':=s.heap.push ZO) (t':=s.toks) (λb u q=>XO _ q) (X1 _) ⟨_,e1⟩;refine I1.laid (a:=(c_ s)+1) (o:=.ins C (c_ s) []) (t':=s.toks) (λb u q=>XO _ q) (Nat.le_of_eq (Zn _ _)) ?_;let ne:(c_ s)≠(c_ s)+1:=Yj (y1i _);refine⟨by rw[aS ne,bH],YE _,ne,e2,λ_=>b_,(Heap.Ns1.of_empty e3).at λo q=>XO _ q,λ_=>y0N,λy hy=>absurd rfl hy⟩
theorem Nr{f:Str}(hb:y1I e f env (eval e env)=eval e env)(h:x_ (eval e env) (λo s₁=>x_ (getAttr o f true) Q E s₁) E s):x_ (eval (.Attribute e f pos) env) Q E s:=Attribute_any_ h (by rw[arm_eval_Attribute,hb])
end
def V3(K:XQ)(ta:TE)(f:Str):TE:=λσ H Q=>ta σ H λx H1=>∃a C dx fs v,x=.ref a/\H1 a=a_ (.ins C dx fs)/\Cls K C/\qA K C f/\fs.lookup f=a_ v/\Q v H1
def V4(K:XQ)(ta tv:TE)(f:Str):TS:=λD σ H=>tv σ H λy H1=>ta σ H1 λx H2=>∃a C dx fs,x=.ref a/\H2 a=a_ (.ins C dx fs)/\Cls K C/\qA K C f/\fs.length<1000/\
 D.nx σ (upd H2 a (.ins C dx (nH f y fs)))
variable{value:t_}
section
variable{o:t_}{f:Str}{o8:Pos}{tv:TE}
theorem Qw(he:PE X e ta)(hb:y1I e f X.env (q0j 0)=q0j 0):PE X (.Attribute e f pos) (V3 X.K ta f):=by intro FR s σ H Q I h;refine Nr hb (thn (he FR s σ H _ I h) λu s1 hz=>?_);let⟨x,H1,I1,rx,a,C,dx,fs,v,ex,ea,c,n,l,q⟩:=hz;subst ex;obtain rfl:u=YH a:=rx;show FC I1 ea c n l λu' s2 I2 ru=>⟨v,H1,I2,ru,q⟩
theorem Qx(ha:PE X o ta)(hv:PE X value tv)(hs:swapsWith value (a_ (.Attribute o f pos')) pos.line X.env=pure false):PS X (.Assign [.Attribute o f pos'] value pos) (V4 X.K ta tv f):=by intro FR s σ H D I h;refine plainObj_wpAny_Assign_Attribute (thn (hv FR s σ H _ I h) λu s1 ⟨y,H1,I1,ry,q⟩=>thn (ha FR s1 σ H1 _ I1 q) λov s2 hz=>?_) hs;let⟨x,H2,I2,rx,a,C,dx,fs,ex,ea,c,n,l,q2⟩:=hz;subst ex;obtain rfl:ov=YH a:=rx;show FD I2 ea c n l ry λs3 I3=>⟨σ,_,I3,q2⟩
end
structure iL(k:Nat)(A:q_):Prop where
 hd:A.handled=none
 dp:A.depth+3*k+5<recursionLimit
 un:A.units+16*k+200<cLine
theorem iL.mono{k:Nat}(r:iL k A)(h:j<=k):iL j A:=⟨r.hd,by have:=r.dp;omega,by have:=r.un;omega⟩
theorem iL.deeper{k:Nat}(r:iL (k+1) A)(env:Env):iL k (A.deeper env):=⟨r.hd,by have:=r.dp;change A.depth+1+3*k+5<_;omega,by have:=r.un;change A.units+3+16*k+200<_;omega⟩
theorem iL.in1{k:Nat}(r:iL (k+1) A):iL k A.in1:=⟨r.hd,by have:=r.dp;change A.depth+3*k+5<_;omega,by have:=r.un;change A.units+1+16*k+200<_;omega⟩
theorem FF{C:o_}:(A.under (.builtin "type.__call__" ⟨.ref C::us,kw⟩)).depth=A.depth+1:=by first|rfl|simp[Around.under,Code.weight,Code.isCreation,Code.isGuard,Code.isCaller,Code.frames,Code.isFrame,guardIds]
theorem FG{C:o_}:(A.under (.builtin "type.__call__" ⟨.ref C::us,kw⟩)).units=A.units+1:=by first|rfl|simp[Around.under,Code.cUnits,Code.frames,Code.isFrame]
theorem iL.make{k:Nat}(r:iL (k+1) A)(C:o_)(us:ve n_)(kw:ve (Str×n_)):iL k (A.under (.builtin "type.__call__" ⟨.ref C::us,kw⟩)):=⟨r.hd,by have:=r.dp;rw[FF];omega,by have:=r.un;rw[FG];omega⟩
theorem iL.depth{k:Nat}(r:iL k A):A.depth<recursionLimit:=by have:=r.dp;omega
theorem iL.units{k:Nat}(r:iL k A):A.units+64<cLine:=by have:=r.un;omega
def Qy:TA:=λ_ H Q=>Q [] H
def Pt(ta:TE)(tr:TA):TA:=λσ H Q=>ta σ H λx H1=>tr σ H1 λxs H2=>Q (x::xs) H2
section
variable{t:TA}
theorem Cd:PA X [] Qy:=λ_ _ _ _ H Q I h=>Calls.spliced_nil ⟨[],H,I,.nil,h⟩
theorem yX(ha:PE X e te)(hr:PA X es t)(hs:Yr (e::es) X.env=(false,q0j 0)::q0i 0:=by rfl):PA X (e::es) (Pt te t):=by
 intro pos FR s σ H Q I h;rw[hs]
 change z_ (spliced ((false,q0j 0)::q0Q (q0i 0))) _ _ s
 refine Calls.spliced_cons (thn (q0N 0) λu s1 hz=>?_);let⟨x,H1,I1,r1,q1⟩:=hz;show thn (hr pos FR s1 σ H1 _ I1 q1) λus s2 ⟨xs,H2,I2,r2,q2⟩=>⟨x::xs,H2,I2,.cons r1 r2,q2⟩
def V5(t:TA):TE:=λσ H Q=>t σ H λxs H1=>xs.length<=X5/\∀p,H1 p=b_->Q (.ref p) (upd H1 p (.tup xs))
def V6(t:TA):TE:=λσ H Q=>t σ H λxs H1=>xs.length<=X5/\∀p,H1 p=b_->Q (.ref p) (upd H1 p (.lst xs))
theorem Qz{x1}(h:PA X es t):PE X (.Tuple es x1 pos) (V5 t):=by intro FR s σ H Q I hq;refine wpAny_Tuple_spliced (thn (h pos FR s σ H _ I hq) λus s1 ⟨xs,H1,I1,r,z,q⟩=>⟨by rw[<-r.length];show z,?_⟩);let hf:H1 (c_ s1)=b_:=I1.hok.fresh (X1 _);refine⟨.ref (c_ s1),upd H1 (c_ s1) (.tup xs),I1.laid (t':=s1.toks) (λb u e=>XO _ e) (X1 _) ?_,rfl,q _ hf⟩;show⟨z,us,r,⟨_,q0O 0,rfl,⟨_,rfl⟩,rfl⟩⟩
theorem QA(h:PA X es t):PE X (.List es pos) (V6 t):=by intro FR s σ H Q I hq;refine wpAny_List_spliced (thn (h pos FR s σ H _ I hq) λus s1 ⟨xs,H1,I1,r,z,q⟩=>⟨by rw[<-r.length];show z,?_⟩);let hf:H1 (c_ s1)=b_:=I1.hok.fresh (X1 _);refine⟨.ref (c_ s1),upd H1 (c_ s1) (.lst xs),I1.laid (t':=s1.toks) (λb u e=>XO _ e) (X1 _) ?_,rfl,q _ hf⟩;show⟨z,us,0,r,q0O 0⟩
end
abbrev Sp:=ve V->Hp->VK->XK->Prop
abbrev CXT:=ve Env->Hp->oa->XK->d_ 0
structure B3(P:td)(w:s_)(K:XQ)(mg:ke 0)(base:r_)(A:q_)(outer:ve Env)(s:oa)(H:Hp):Prop where
 frames:A.frames=some outer
 mod:Mod K mg base
 bs:∀b o,base.get? b=some o->s.heap.get? b=some o/\H b=none
 bsz:base.objs.size<=(c_ s)
 funs:s.heap.FunFrames base outer
 frf:∀b∈frs outer,H b=none
 hok:HOk P w H s.heap
 bare:AllBare s.gens
def CE(outer:ve Env)(P:td)(w:s_)(H:Hp)(s:oa)(Q:VK)(u:n_)(s':oa):Prop:=
 ∃v H',s'.os=s.os/\AllBare s'.gens/\Un (frs outer) [] H H' s.heap s'.heap/\HOk P w H' s'.heap/\RelV v u/\Q v H'
def CR(CX:CXT)(outer:ve Env)(P:td)(w:s_)(H:Hp)(s:oa)(Q:VK)(E:XK)(r:Result)(s':oa):Prop:=
 match r with
 |.ok (.ret u)=>CE outer P w H s Q u s'
 |.ok _=>False
 |.error e=>CX outer H s E e s'
structure bD(P:td)(w:s_)(K:XQ)(mg:ke 0)(base:r_)(CX:CXT)(k:Nat)(f:o_)(fd:YK)(ps:ve Str)(sp:Sp):Prop where
 len:∀vs H Q E,sp vs H Q E->vs.length=ps.length
 run:∀(A:q_)(outer:ve Env)(s:oa)(H:Hp)(args:Args)(us:ve n_)(vs:ve V)(Q:VK)(E:XK),iL k A->B3 P w K mg base A outer s H->BindsTo s fd args (ps.zip us)->aW vs us->sp vs H Q E->
  codeAny (model P w) A (.call (.ref f) args) (CR CX outer P w H s Q E) s
variable{CX:CXT}{base:r_}{fd:YK}{mg:ke 0}{ps:ve Str}{sp:Sp}
theorem bD.imp{k:Nat}{f:o_}{ze:Sp}(F:bD P w K mg base CX k f fd ps sp)(h:∀vs H Q E,ze vs H Q E->sp vs H Q E):bD P w K mg base CX k f fd ps ze:=⟨λvs H Q E q=>F.len vs H Q E (h _ _ _ _ q),λA outer s H args us vs Q E hr he hb hv hs=>F.run A outer s H args us vs Q E hr he hb hv (h _ _ _ _ hs)⟩
variable{outer:ve Env}
theorem B3.make(e:B3 P w K mg base A outer s H)(C:o_)(us:ve n_)(kw:ve (Str×n_)):
  B3 P w K mg base (A.under (.builtin "type.__call__" ⟨.ref C::us,kw⟩)) outer s H:=⟨by first|exact e.frames|(simpa[Around.under,Code.envs,Code.isFrame,pushEnvs] using e.frames),e.mod,e.bs,e.bsz,e.funs,e.frf,e.hok,e.bare⟩
theorem B3.in1(e:B3 P w K mg base A outer s H):
  B3 P w K mg base A.in1 outer s H:=⟨e.frames,e.mod,e.bs,e.bsz,e.funs,e.frf,e.hok,e.bare⟩
section
variable{σ:St}
theorem Inv.env0(I:P_ s):B3 X.prog X.w X.K X.mg X.base X.A X.stack s H:=⟨I.ok.frames,I.ok.mod,I.bs,Y9 I.ok.bsz I.sz,I.stack,I.stkFree,I.hok,I.bare⟩
theorem Inv.after{Q:VK}(I:P_ s)(h:CE X.stack X.prog X.w H s Q u s'):q0q Q u s':=by let⟨v,H',os,bare,un,hok,r,q⟩:=h;let⟨hh,g,d,t,m9⟩:=s';obtain rfl:m9=s.os:=os;show⟨v,H',I.call (h':=hh) (g':=g) (d':=d) (t':=t) (ch:=[]) un hok bare (λb z=>absurd z (by simp)),r,q⟩
end
def Pu(sp:Sp)(dh:ve V)(E:XK)(t:TA):TE:=λσ H Q=>t σ H λvs H1=>sp (vs++dh) H1 Q E
def SK(C:o_)(sp:Sp)(dh:ve V)(E:XK)(t:TA):TE:=λσ H Q=>t σ H λvs H1=>∀x dx,H1 x=b_->H1 dx=b_->dx≠x->
 sp (.ref x::(vs++dh)) (upd (upd H1 dx (.own x)) x (.ins C dx [])) (λv H2=>v=.non/\Q (.ref x) H2) E
def Binds(K:XQ)(fd:YK)(ps:ve Str)(ds:ve n_):Prop:=
 ∀(s:oa)(us:ve n_),K.In s.heap->(us++ds).length=ps.length->BindsTo s fd ⟨us,[]⟩ (ps.zip (us++ds))
theorem Binds.all(h:∀us:ve n_,us.length=ps.length->bindArgs fd ⟨us,[]⟩=pure (ps.zip us)):Binds K fd ps []:=λs us _ hl=>by rw[YY]at hl⊢;show .of_eq (h us hl)
def zQ(CX:CXT)(X:Cx)(E:XK):Prop:=∀(FR:e_ 0)(σ:St)(H:Hp)(s:oa)(e:n_)(s':oa),P_ s->CX X.stack H s E e s'->X.xe e s'
section
variable{k:Nat}{f C:o_}{dh:ve V}{ds:ve n_}{E:XK}{m:Str}{p:Pos}{o:t_}{t:TA}
theorem FH{σ:St}{Q:VK}{vs:ve V}(F:T_ CX k f fd ps sp)(hr:iL k X.A)(hb:Binds X.K fd ps ds)(hd:aW dh ds)(hx:zQ CX X E)(I:P_ s)(r:aW vs us)(h:sp (vs++dh) H Q E):wpAny (fI X) X.A (call (.ref f) us) (q0q Q) X.xe s:=by
 let r2:aW (vs++dh) (us++ds):=r.append hd;let hl:(us++ds).length=ps.length:=by rw[<-r2.length];show F.len _ _ _ _ h
 refine wpAny_call (y12 (F.run X.A X.stack s H ⟨us,[]⟩ (us++ds) (vs++dh) Q E hr I.env0 (hb s us I.kIn hl) r2 h) λr s' hq=>?_);cases r with
 |error e=>exact hx FR σ H s e s' I hq
 |ok fl=>
  cases fl with
  |ret u=>exact I.after hq
  |next=>exact Z1 hq
  |brk=>exact Z1 hq
  |cont=>exact Z1 hq
theorem Nt(F:T_ CX k f fd ps sp)(hr:iL k X.A)(hg:Gl X x)(hm:X.mg x=cu f)(hk:ZH X.K (.ref f)=true)(hb:Binds X.K fd ps ds)(hd:aW dh ds)(hx:zQ CX X E)
  (ha:PA X (e::es) t) (c8:(x == ("__debug__" : Str))=false:=by decide) (he:Yr (e::es) X.env=(false,q0j 0)::q0i 0:=by rfl) (bz:(q0Q (q0i 0)).any (·.1)=false:=by rfl):
  PE X (.Call (.Name x p) (e::es) [] pos) (Pu sp dh E t):=by
 intro FR s σ H Q I h;refine y1o (Ca I hg hm ?_ c8);refine PySem.W.callWith_K (h₀:=X.base) I.ok.mod.kin hk (thn (q0P 0) λus s1 ⟨vs,H1,I1,r,q⟩=>⟨I1.kIn,?_⟩) he bz;show FH F hr hb hd hx I1 r q
structure Mk(K:XQ)(C f:o_):Prop where
 makes:y1t K C=true
 init:YI K (.ref C) "__init__" = some (cu f)
 fn:PySem.W.isFn K (.ref f)=true
 kp:ZH K (.ref C)=true
theorem JW{σ:St}{Q:VK}{vs:ve V}(M:Mk X.K C f)(F:T_ CX k f fd ps sp)(hr:iL (k+1) X.A)(hb:Binds X.K fd ps ds)(hd:aW dh ds)(hx:zQ CX X E)(I:P_ s)(r:aW vs us)(h:∀x dx,H x=b_->H dx=b_->dx≠x->sp (.ref x::(vs++dh)) (upd (q0r dx (.own x)) x (.ins C dx [])) (λv H2=>v=.non/\Q (.ref x) H2) E):
  wpAny (fI X) X.A (call (.ref C) us) (q0q Q) X.xe s:=by
 let hq:=h (s.heap.objs.size+1) (c_ s) (I.hok.fresh (Nat.le_succ _)) (I.hok.fresh (X1 _)) (Yj (y1i _));let I2:=Inv.made (C:=C) I;let r2:aW (V.ref (s.heap.objs.size+1)::(vs++dh)) (YH (s.heap.objs.size+1)::(us++ds)):=.cons rfl (r.append hd);let hl:(YH (s.heap.objs.size+1)::us++ds).length=ps.length:=by let e:=r2.length;rw[F.len _ _ _ _ hq]at e;show e.symm
 refine wpAny_call (JV (f:=f) I.kIn M.makes M.init (beq_iff_eq.mp M.fn) (y12 (F.run _ X.stack _ _ ⟨YH (s.heap.objs.size+1)::us,[]⟩ (YH (s.heap.objs.size+1)::(us++ds)) _ _ E (hr.make C us [])
  (I2.env0.make C us []) (hb _ (YH (s.heap.objs.size+1)::us) I2.kIn hl) r2 hq) λr s' km=>?_))
 cases r with
 |error e=>exact hx FR σ _ _ e s' I2 km
 |ok fl=>
  cases fl with
  |ret u=>let⟨v,H',I3,rv,ev,q3⟩:=I2.after km;subst ev;show⟨rv,⟨V.ref (s.heap.objs.size+1),H',I3,rfl,q3⟩⟩
  |next=>exact Z1 km
  |brk=>exact Z1 km
  |cont=>exact Z1 km
theorem JX(M:Mk X.K C f)(F:T_ CX k f fd ps sp)(hr:iL (k+1) X.A)(hg:Gl X x)(hm:X.mg x=cu C)(hb:Binds X.K fd ps ds)(hd:aW dh ds)(hx:zQ CX X E)
  (c8:(x == ("__debug__" : Str))=false:=by decide):PE X (.Call (.Name x p) [] [] pos) (SK C sp dh E Qy):=by
 intro FR s σ H Q I h;refine y1o (Ca I hg hm ?_ c8);show PySem.W.callWith_K0 I.kIn M.kp (JW (us:=[]) M F hr hb hd hx I .nil h)
end
structure aX(N P:ve Str)(sc:Scope):Prop where
 kind:sc.kind=.function
 co:sc.isCoroutine=false
 gen:sc.isGenerator=false
 nd:N.Nodup
 pre:N.take P.length=P
 par:∀x∈P,sc.names.lookup x=some .local\/sc.names.lookup x=some .cell
 nofree:∀y∈sc.names,y.2≠.free
theorem Bx{kindOf:Str->v_ y1p}{x:Str}:∀{binds:ve (Str×n_)}{m:ke 0},(∀v,(x,v)∉binds)->bindL kindOf binds m x=m x
 |[],_,_=>rfl
 |(n,v)::r,m,h=>by
  unfold bindL;rw[Bx λw hw=>h w (XW _ hw)];split
  ·have:x≠n:=by rintro rfl;show h v XY
   simp[this]
  ·rfl
theorem By{kindOf:Str->v_ y1p}{x:Str}:∀{binds:ve (Str×n_)}{m:ke 0},(∀v,(x,v)∉binds)->bindC kindOf binds m x=m x
 |[],_,_=>rfl
 |(n,v)::r,m,h=>by
  unfold bindC;rw[By λw hw=>h w (XW _ hw)];split
  ·rfl
  ·have:x≠n:=by rintro rfl;show h v XY
   simp[this]
theorem Bz{kindOf:Str->v_ y1p}{x:Str}{v:n_}:∀{P:ve Str}{vs:ve n_}{i:Nat}{m:ke 0},P.Nodup->P[i]?=a_ x->vs[i]?=a_ v->kindOf x=a_ .local->
  bindL kindOf (P.zip vs) m x=a_ v
 |[],_,_,_,_,h,_,_=>by simp at h
 |_::_,[],_,_,_,_,h,_=>by simp at h
 |p::P,w::vs,0,m,nd,h1,h2,hk=>by
  simp at h1 h2;subst h1;subst h2
  change bindL kindOf ((p,w)::P.zip vs) m p=_
  unfold bindL;rw[Bx λv hv=>(Z7.mp nd).1 (List.of_mem_zip hv).1,if_pos hk];simp
 |p::P,w::vs,i+1,m,nd,h1,h2,hk=>by
  change bindL kindOf ((p,w)::P.zip vs) m x=_
  unfold bindL;show Bz (i:=i) (Z7.mp nd).2 (i_ h1) (i_ h2) hk
theorem BA{kindOf:Str->v_ y1p}{x:Str}{v:n_}:∀{P:ve Str}{vs:ve n_}{i:Nat}{m:ke 0},P.Nodup->P[i]?=a_ x->vs[i]?=a_ v->kindOf x≠a_ .local->
  bindC kindOf (P.zip vs) m x=a_ v
 |[],_,_,_,_,h,_,_=>by simp at h
 |_::_,[],_,_,_,_,h,_=>by simp at h
 |p::P,w::vs,0,m,nd,h1,h2,hk=>by
  simp at h1 h2;subst h1;subst h2
  change bindC kindOf ((p,w)::P.zip vs) m p=_
  unfold bindC;rw[By λv hv=>(Z7.mp nd).1 (List.of_mem_zip hv).1,if_neg hk];simp
 |p::P,w::vs,i+1,m,nd,h1,h2,hk=>by
  change bindC kindOf ((p,w)::P.zip vs) m x=_
  unfold bindC;show BA (i:=i) (Z7.mp nd).2 (i_ h1) (i_ h2) hk
def start(N:ve Str)(vs:ve V):St:=vs.map a_++X4 (N.length-vs.length) b_
def FI(CX:CXT)(P:td)(w:s_)(K:XQ)(mg:ke 0)(base:r_)(N:ve Str)(qual:Str)(scope:Scope)(f:o_)(cd:n_)(A:q_)(outer:ve Env)(s:oa)(H:Hp)(E:XK):Cx where
 prog:=P
 w:=w
 K:=K
 mg:=mg
 base:=base
 A:=A.deeper (q0_ (c_ s) f cd)
 N:=N
 s₀:=s
 H₀:=H
 env:=q0_ (c_ s) f cd
 outer:=outer
 stack:=q0_ (c_ s) f cd::outer
 ex:=[]
 calm:=true
 fn:=λ_=>true
 pn:=[]
 xe:=λe s'=>wpAny (model P w) (A.deeper (q0_ (c_ s) f cd)) (leaving (q0_ (c_ s) f cd) e) (λ_ b6=>CX outer H s E e b6) (λe' b6=>CX outer H s E e' b6) s'
variable{sc:Scope}
theorem DM(h:q0B 0=a_ .cell):∃c,(Zl n sc.names []).lookup x=a_ c:=by let q:=PySem.W.cellsFrom_some sc.names n [] (.inl h);show y03.mp q
variable{cd:n_}{qual:Str}{s1:oa}{scope:Scope}
theorem Ik{f:o_}{E:XK}{vs:ve V}(S:aX N ps scope)(hd:A.handled=b_)(e0:B3 P w K mg base A outer s H)(hl:vs.length=ps.length)(r:aW vs us)(x:InCallC s (c_ s) (bindL (q0_ (c_ s) f cd).kindOf (ps.zip us) λ_=>b_) (Zl (s.heap.objs.size+1) scope.names []) (bindC (q0_ (c_ s) f cd).kindOf (ps.zip us) λ_=>b_) s1):
  Inv (q0D cd A outer s H E) [] (start N vs) H s1:=by
 let bz:ps.length<=N.length:=by have:=q0Y S.pre;rw[X9]at this;omega
 let⟨h1,tk,rfl,hk⟩:=x.done;let p9:∀b:o_,b∉(q0D cd A outer s H E).ex:=λb z=>absurd (show b∈([]:ve o_) from z) (by simp)
 refine⟨⟨e0.mod,S.kind,rfl,rfl,X1 _,λy z c h1 h2=>?_,λy hy=>?_,λy c _ h=>?_,λ_=>hd,Around.frames_deeper e0.frames,.inr ⟨rfl,rfl⟩,λb z=>absurd z (p9 b),e0.bs,e0.bsz,λb _ _=>p9 b,λb z=>absurd z (p9 b),e0.funs,e0.frf⟩,
  rfl,e0.bare,Un.kept hk,⟨_,x.toInCall.ns,λi y v h1 h2 h3=>?_⟩,λy c h=>⟨_,x.cell y c h⟩,e0.hok.fresh (X1 _),λy c h=>?_,λp hp=>absurd (show p∈([]:e_ 0) from hp) (by simp),e0.hok.kept hk,?_⟩
 ·show name_of_addr x.apart (y1c h1) (y1c h2)
 ·let hy:scope.names.lookup y=a_ .cell\/scope.names.lookup y=a_ .free:=hy;rcases hy with hy|hy
  ·show DM hy
  ·show absurd rfl (S.nofree _ (y1c hy))
 ·show y1a (x.above y c (y1c h))
 ·let hi:i<vs.length:=by
   unfold start at h2;by_cases hi:i<vs.length
   ·show hi
   ·rw[XX (i_ hi)]at h2;rw[y0q]at h2;split at h2 <;> cases h2
  let ha:vs[i]?=a_ v:=by
   unfold start at h2;rw[Yb (i_ hi),XT]at h2;cases e:vs[i]? with
   |none=>rw[e]at h2;cases h2
   |some a=>rw[e]at h2;cases h2;rfl
  let⟨u,hu,rv⟩:=r.get ha;let hp:ps[i]?=a_ y:=by rw[<-S.pre,List.getElem?_take_of_lt ⋯];show h1
  let xt:ps.Nodup:=by rw[<-S.pre];show S.nd.sublist (List.take_sublist _ _)
  refine⟨u,rv,?_⟩;rcases S.par y (Yv hp) with k|k
  ·show .inl ⟨k,Bz xt hp hu k⟩
  ·let⟨c,e⟩:=DM (n:=(c_ s)+1) k;refine .inr ⟨.inl k,c,e,?_⟩;let q:=x.cell y c e;rw[BA xt hp hu (by change scope.names.lookup y≠_;rw[k];decide)]at q;show q
 ·show e0.hok.fresh (y1a (x.above y c (y1c h)))
 ·unfold start
  change _=N.length
  rw[X6,XR,Zw];omega
variable{an od:v_ o_}{cdv ct doc pm:n_}{osl:j_ 0}{params:Arguments}
theorem SL{k:Nat}{f:o_}{body:ve u_}{dV kV oc:n_}(lk:K.lookup f=a_ ⟨oc,od,.func (ZX name qual params body scope dV kV doc pm an cdv ct),osl⟩)(fb:y1Q K cdv qual=true)(S:aX N ps scope)(len:∀vs H Q E,sp vs H Q E->vs.length=ps.length)(gx:∀(A:q_)(outer:ve Env)(s:oa)(H:Hp)(vs:ve V)(Q:VK)(E:XK),iL k (A.deeper (q0_ (c_ s) f cdv))->sp vs H Q E->
   ∃t,PSs (q0D cdv A outer s H E) body t/\t { nx:=λ_ H'=>Q .non H',rt:=Q} (start N vs) H):
  bD P w K mg base CX (k+1) f (ZX name qual params body scope dV kV doc pm an cdv ct) ps sp:=by
 refine⟨len,λA outer s H args us vs Q E hr e0 hb r jt=>?_⟩;let hl:=len _ _ _ _ jt;let KX:K.In s.heap:=e0.mod.kin.keeps λb o e=>(e0.bs b o e).1;let lim:s.heap.NoLimit:=e0.mod.nolimit.keeps λb o e=>(e0.bs b o e).1;let o5:∀y∈ps.zip us,scope.names.lookup y.1=a_ .local\/(scope.names.lookup y.1=a_ .cell/\((Zl (s.heap.objs.size+1) scope.names []).lookup y.1).isSome=true):=λ⟨n,v⟩ hy=>by
  rcases S.par n (List.of_mem_zip hy).1 with q|q
  ·show .inl q
  ·show .inr ⟨q,PySem.W.cellsFrom_some _ _ _ (.inl q)⟩
 refine codeAny_call_function hr.depth (KX _ _ lk) rfl S.co S.gen rfl (PySem.W.codeRec_of KX fb) (hb _ _ _ _ ?_);refine wpAny_newFunctionEnv_cells S.kind o5 λenv he s1 x=>?_;subst he;refine⟨lim.keeps x.toInCall.keep,codeAny_func ?_⟩;let⟨t,ht,hq⟩:=gx A outer s H vs Q E (hr.deeper _) jt;let I:Inv (q0D cdv A outer s H E) [] (start N vs) H s1:=Ik S hr.hd e0 hl r x;refine ZG (ht [] s1 (start N vs) H _ I hq) (λfl s' hs=>?_) λe s' hs=>hs;let fin:∀{σ':St}{H':Hp}{v:V}{u:n_},Inv (q0D cdv A outer s H E) [] σ' H' s'->RelV v u->Q v H'->CE outer P w H s Q u s':=
  λ{σ' H' v u} J rv q=>⟨v,H',J.os,J.bare,J.base,J.hok,rv,q⟩
 cases fl with
 |ret u=>let⟨v,σ',H',J,rv,q⟩:=hs;show fin J rv q
 |next=>let⟨σ',H',J,q⟩:=hs;show fin (v:=V.non) (u:=Yn) J rfl q
 |brk=>let⟨_,_,_,q⟩:=hs;show Z1 q
 |cont=>let⟨_,_,_,q⟩:=hs;show Z1 q
variable{T:String}
section
variable{p:Pos}{t:TA}{id:String}{r:ve V->Hp->VK->Prop}
def tCB(r:ve V->Hp->VK->Prop)(t:TA):TE:=λσ H Q=>t σ H λvs H1=>r vs H1 Q
theorem DO(hc:dJ X (.builtin id) r)(hg:Gl X x)(hm:X.mg x=b_)(hv:y09 x=a_ (.builtin id))(ha:PA X (e::es) t)(hn:x≠"__name__" := by decide)(c8:(x == ("__debug__" : Str))=false:=by decide)
  (he:Yr (e::es) X.env=(false,q0j 0)::q0i 0:=by rfl) (bz:(q0Q (q0i 0)).any (·.1)=false:=by rfl):PE X (.Call (.Name x p) (e::es) [] pos) (tCB r t):=by
 intro FR s σ H Q I h;refine y1o (sH I hg hm hv ?_ hn c8);show PyProof.Rows.callWith_builtin1 (thn (q0P 0) λus s1 ⟨vs,H1,I1,r1,q1⟩=>hc FR s1 σ H1 vs us Q I1 r1 q1) he bz
theorem BB(hc:dJ X (.type T) r)(hg:Gl X x)(hm:X.mg x=b_)(hv:y09 x=a_ (.type T))(ha:PA X (e::es) t)(hn:x≠"__name__" := by decide)(c8:(x == ("__debug__" : Str))=false:=by decide)
  (he:Yr (e::es) X.env=(false,q0j 0)::q0i 0:=by rfl) (bz:(q0Q (q0i 0)).any (·.1)=false:=by rfl):PE X (.Call (.Name x p) (e::es) [] pos) (tCB r t):=by
 intro FR s σ H Q I h;refine y1o (sH I hg hm hv ?_ hn c8);show ZT (thn (q0P 0) λus s1 ⟨vs,H1,I1,r1,q1⟩=>hc FR s1 σ H1 vs us Q I1 r1 q1) he bz
end
end L2
namespace HT
open PySem PyProof.Rows
variable{A:q_}{E Q:d_ 0}{prog:td}{s:oa}{vs ws:ve n_}{w:s_}
theorem cat_tup{t b:o_}(ht:IsTup s.heap t vs.toArray)(hb:IsTup s.heap b ws.toArray)(hv:vs≠[])(h1:ws=[]->Q (.ref t) s)(h2:ws≠[]->Q (.ref (c_ s)) {s with heap:=s.heap.push {cls:=.type "tuple",data:=.seq (vs++ws).toArray} })(hsz:vs.length+ws.length<=X5):x_ (ZQ .Add (.ref t) (.ref b)) Q E s:=by
 let⟨⟨cls,dd,data,sl⟩,ho,hc,n,hd⟩:=id ht;let⟨⟨ka,dd2,data2,iw⟩,fc,c9,n2,hd2⟩:=id hb;simp only at hc hd c9 hd2;subst hc hd c9 hd2;let e:vs.toArray++ws.toArray=(vs++ws).toArray:=by simp
 by_cases hw:ws=[]
 ·show concat_meets ⟨_,ho,rfl⟩ ⟨_,fc,rfl⟩ noFill_tuple_add seq_tuple_add PySem.F.slot_tuple_add PySem.F.entry_tuple_add (PySem.F.args_tuple_add_2 _ _)
   (tuple_addW1 t b vs.toArray ws.toArray n n2 dd dd2 sl iw (i_ hv) (by simp[hw])) ⟨ho,fc,h1 hw⟩
 ·refine concat_meets ⟨_,ho,rfl⟩ ⟨_,fc,rfl⟩ noFill_tuple_add seq_tuple_add PySem.F.slot_tuple_add PySem.F.entry_tuple_add (PySem.F.args_tuple_add_2 _ _)
   (tuple_addW2 t b vs.toArray ws.toArray n n2 dd dd2 sl iw (i_ hv) (i_ hw) (by rw[X3,X3];show hsz)) ⟨ho,fc,?_⟩
  rw[e];show h2 hw
def sIx(n d:Nat):v_ Int->Nat
 |none=>d
 |some v=>if v<0 then(v+(n:Int)).toNat else min v.toNat n
theorem QB(n d:Nat)(hd:d<=n)(o:v_ Int):sIx n d o<=n:=by
 cases o with
 |none=>exact hd
 |some v=>
  change(if v<0 then(v+(n:Int)).toNat else min v.toNat n)<=n
  by_cases hv:v<0
  ·rw[if_pos hv];omega
  ·rw[if_neg hv];show Nat.min_le_right _ _
theorem GV(v:Int)(n d:Nat):(if v<0 then max (v+(n:Int)) 0 else min v (n:Int))=((sIx n d (a_ v):Nat):Int):=by
 change(if v<0 then max (v+(n:Int)) 0 else min v (n:Int))=(((if v<0 then(v+(n:Int)).toNat else min v.toNat n):Nat):Int)
 by_cases hv:v<0
 ·simp only[if_pos hv];omega
 ·simp only[if_neg hv];omega
theorem FJ(lo hi:v_ Int)(n:Nat):y1R lo hi 1 (n:Int)=(((sIx n 0 lo:Nat):Int),((sIx n n hi:Nat):Int)):=by
 let h1:¬ ((1:Int)<0):=⋯;unfold y1R;simp only[h1,if_false];refine Prod.ext ?_ ?_
 ·cases lo with
  |none=>rfl
  |some v=>exact GV v n 0
 ·cases hi with
  |none=>rfl
  |some v=>exact GV v n n
theorem FK(i j:Nat):y0X (i:Int) (j:Int) 1=j-i:=by
 unfold y0X;let h1:(1:Int)>0:=⋯;simp only[h1,if_true,Int.ediv_one];split <;> omega
variable{o:v_ Int}{v:n_}
theorem zR{Q:v_ Int->oa->Prop}(p:IsPart v o)(h:Q o s):x_ (Builtin.Slice.slicePartIndex v) Q E s:=by
 cases p with
 |none=>exact slicePart_none h
 |int i t=>exact slicePart_int h
variable{hi:v_ Int}{n:Nat}{sl:o_}{vl vu:n_}
theorem sliceApplied_gen{lo:v_ Int}{Q:Int×Int×Nat->oa->Prop}(hs:s.heap.IsSliceOf sl vl vu .none)(pl:IsPart vl lo)(pu:IsPart vu hi)(h:Q (((sIx n 0 lo:Nat):Int),1,sIx n n hi-sIx n 0 lo) s):x_ (Builtin.Slice.sliceApplied (.ref sl) (pure (n:Int))) Q E s:=by
 let⟨os,i9,r9,ju⟩:=id hs;unfold Builtin.Slice.sliceApplied Builtin.Slice.sliceFields;refine XJ (XJ (ZL i9 ju (x:=vl) rfl (XJ (ZL i9 ju (x:=vu) rfl (XJ (ZL i9 ju (x:=.none) rfl (XM ?_)))))));refine XJ (slicePart_none ?_)
 change z_ (if((1:Int) == 0)=true then _ else _) _ _ s
 rw[q0a 0];refine XJ (zR pl (XJ (zR pu (XJ (XM ?_)))))
 change z_ (match y1R lo hi 1 (n:Int) with|(lo,hi)=>pure (lo,(1:Int),y0X lo hi 1)) _ _ s
 rw[FJ lo hi n]
 change z_ (pure (((sIx n 0 lo:Nat):Int),(1:Int),y0X ((sIx n 0 lo:Nat):Int) ((sIx n n hi:Nat):Int) 1)) _ _ s
 rw[FK];show XM h
theorem JY(xs:q0p 0)(i k:Nat):((YN k).filterMap λ(m:Nat)=>xs[((i:Int)+(m:Int)*1).toNat]?).toArray=((xs.toList.drop i).take k).toArray:=by
 let e:(λ(m:Nat)=>xs[((i:Int)+(m:Int)*1).toNat]?)=λm=>xs[i+m]?:=by
  funext m;have:((i:Int)+(m:Int)*1).toNat=i+m:=⋯;rw[this]
 rw[e];have:=pick_run xs i k;rw[List.filterMap_map]at this;let e2:((λx=>xs[x]?)∘λx=>i+x)=λm=>xs[i+m]?:=rfl;rw[e2]at this;rw[this]
variable{items:q0p 0}
theorem getItem_tuple_cut{t:o_}{lo:v_ Int}(ht:IsTup s.heap t items)(hs:s.heap.IsSliceOf sl vl vu .none)(pl:IsPart vl lo)(pu:IsPart vu hi)(hw:¬ (q0e 0 lo=0/\q1i 0=items.size))(h:Q (.ref (c_ s)) {s with heap:=s.heap.push {cls:=.type "tuple",data:=.seq ((items.toList.drop (q0e 0 lo)).take (q1i 0-q0e 0 lo)).toArray} })(hsz:items.size<=X5):x_ (getItem (.ref t) (.ref sl)) Q E s:=by
 let dv:sizeOk (.seq ((items.toList.drop (q0e 0 lo)).take (q1i 0-q0e 0 lo)).toArray):=by
  change((items.toList.drop (q0e 0 lo)).take (q1i 0-q0e 0 lo)).toArray.size<=X5
  rw[X3,X9,Yi,y0E];omega
 let hj:q1i 0<=items.size:=QB _ _ (X1 _) hi;let⟨os,i9,r9,ju⟩:=id hs;let ui:s.TypeIs (.ref sl) "slice" := ⟨os,i9,r9⟩;unfold getItem
 try with_reducible refine YZ ?_
 first|refine XJ (XM ?_)|skip
 refine XJ (wpAny_sequenceKey ht.typeIs nofun ?_);refine XJ (YT (name:=Zj "__getitem__") ht.typeIs Zg
  (Y1 Zg ht.typeIs entry_tuple_getitem ?_ (args_tuple_getitem _ _)))
 change z_ (y1N (.ref t) >>= _) _ _ s
 refine XJ (tupleItemsOf_ ht ?_);refine XJ (y1v ui ?_);rw[if_pos nofun];refine XJ (sliceApplied_gen hs pl pu ?_);let iu:¬ ((((sIx items.size 0 lo:Nat):Int) == 0&&(1:Int) == 1&&(q1i 0-q0e 0 lo) == items.size)=true):=by intro q;rw[YU,YU]at q;let q1:((sIx items.size 0 lo:Nat):Int)=0:=eq_of_beq q.1.1;let q2:q1i 0-q0e 0 lo=items.size:=eq_of_beq q.2;show hw ⟨⋯,⋯⟩
 change z_ (if(((sIx items.size 0 lo:Nat):Int) == 0&&(1:Int) == 1&&(q1i 0-q0e 0 lo) == items.size)=true then _ else _) _ _ s
 rw[if_neg iu,JY]
 first
  |exact XJ (m:=y04 _) (YJ (XM ⟨_,rfl,XM h⟩) dv)
  |exact XJ (m:=y04 _) (YJ (XJ (XM (XM ⟨_,rfl,XM h⟩))) dv)
  |exact XJ (XJ (m:=y04 _) (YJ (XM (XM ⟨_,rfl,XM h⟩)) dv))
  |exact XJ (XJ (m:=y04 _) (YJ (XM ⟨_,rfl,XM h⟩) dv))
end HT
namespace L2
abbrev TO:=St->Hp->(v_ Int->Hp->Prop)->Prop
def PO(X:Cx)(e:v_ t_)(t:TO):Prop:=
 ∀(FR:e_ 0)(s:oa)(σ:St)(H:Hp)(Q:v_ Int->Hp->Prop),P_ s->t σ H Q->
  wpAny (fI X) X.A (evalPart e X.env) (λu s'=>∃o H',f_ H' s'/\IsPart u o/\Q o H') X.xe s
def Nu:TO:=λ_ H Q=>Q b_ H
variable{X:Cx}{e:t_}{p2 pos:Pos}{te:TE}{us:ve n_}
section
variable{lo hi:v_ t_}{tl th:TO}
theorem Nv:PO X b_ Nu:=by intro FR s σ H Q I h;rw[evalPart_none];show XM ⟨b_,H,I,.none,h⟩
def SlR(X:Cx)(r:V->v_ Int->v_ Int->Hp->VK->Prop):Prop:=
 ∀(FR:e_ 0)(s:oa)(σ:St)(H:Hp)(x:V)(v vl vu:n_)(lo hi:v_ Int)(sl:o_)(Q:VK),P_ s->q1f v->s.heap.IsSliceOf sl vl vu .none->IsPart vl lo->IsPart vu hi->r x lo hi H Q->
  ∃T id,typeLookup (.type T) "__getitem__" = pure (a_ (.builtin id))/\s.TypeIs v T/\wpAny (fI X) X.A (getItem v (.ref sl)) (q0q Q) X.xe s
theorem SlR.or{r r':V->v_ Int->v_ Int->Hp->VK->Prop}(h:SlR X r)(h':SlR X r'):SlR X (λx lo hi H Q=>r x lo hi H Q\/r' x lo hi H Q):=by
 intro FR s σ H x v vl vu lo hi sl Q I rx hs pl pu q;rcases q with q|q
 ·show q0t x v vl vu lo hi sl Q I rx hs pl pu q
 ·show h' FR s σ H x v vl vu lo hi sl Q I rx hs pl pu q
def tSl(r:V->v_ Int->v_ Int->Hp->VK->Prop)(te:TE)(tl th:TO):TE:=λσ H Q=>te σ H λx H1=>tl σ H1 λl H2=>th σ H2 λu H3=>r x l u H3 Q
theorem JZ{r:V->v_ Int->v_ Int->Hp->VK->Prop}(hr:SlR X r)(he:PE X e te)(hl:PO X lo tl)(hu:PO X hi th):PE X (.Subscript e (.Slice lo hi b_ p2) pos) (tSl r te tl th):=by
 intro FR s σ H Q I h;refine Subscript_ (thn (he FR s σ H _ I h) λv s1 hz=>?_);let⟨x,H1,I1,r1,q1⟩:=hz;refine wpAny_Slice (thn (hl FR s1 σ H1 _ I1 q1) λvl s2 ⟨l,H2,I2,pl,q2⟩=>thn (hu FR s2 σ H2 _ I2 q2) λvu s3 hz=>?_);let⟨u,H3,I3,pu,q3⟩:=hz;rw[evalPart_none];refine XM ?_;let I4:f_ H3 {s3 with heap:=s3.heap.push {cls:=.type "slice",data:=.fields #[vl,vu,.none]} }:=I3.kept (t':=s3.toks) λb ob q=>XO _ q;let⟨T,id,hT,ht,hg⟩:=hr FR {s3 with heap:=s3.heap.push {cls:=.type "slice",data:=.fields #[vl,vu,.none]} } σ H3 x v vl vu l u (c_ s3) Q I4 r1 (Heap.IsSliceOf.new ..) pl pu q3
 change wpAny (fI X) X.A (subscriptTail e (.Slice lo hi b_ p2) v (.ref (c_ s3))) (q0q Q) X.xe {s3 with heap:=s3.heap.push {cls:=.type "slice",data:=.fields #[vl,vu,.none]} }
 show tail_any (ops:=[.ref (c_ s3),v]) ht hT hg (by with_unfolding_all rfl)
def DP(xs:ve V)(lo hi:v_ Int):ve V:=(xs.drop (q0b 0 lo)).take (q0b xs.length hi-q0b 0 lo)
theorem xP(xs:ve V)(lo hi:v_ Int):(DP xs lo hi).length<=xs.length:=by unfold DP;rw[X9,Yi];omega
def SM(K:XQ):V->v_ Int->v_ Int->Hp->VK->Prop:=λx lo hi H Q=>∃a xs,x=.ref a/\q1b a xs/\
 ¬ (q0b 0 lo=0/\q0b xs.length hi=xs.length)/\∀p,H p=b_->Q (.ref p) (q0r p (.tup (DP xs lo hi)))
theorem QC:SlR X (SM X.K):=by
 intro FR s σ H x v vl vu lo hi sl Q I rx hs pl pu h;let⟨a,xs,rfl,hx,hw,q⟩:=h;cases rx
 let⟨its,r,ht,hz⟩:=I.tuple hx;let hlen:its.toArray.size=xs.length:=by rw[X3];show r.length.symm
 refine⟨"tuple",_,Zg.lookup,ht.typeIs,?_⟩;refine HT.getItem_tuple_cut ht hs pl pu (by rw[hlen];show hw) ?_ (by rw[hlen];show hz);rw[hlen];refine⟨.ref (c_ s),_,I.laid (t':=s.toks) (o:=.tup (DP xs lo hi)) (λb ob q=>XO _ q) (X1 _) ?_,rfl,q _ (I.hok.fresh (X1 _))⟩;show⟨Y9 (xP xs lo hi) hz,_,(r.drop (q0b 0 lo)).take (q0b xs.length hi-q0b 0 lo),yI.new _ _⟩
def Pv(K:XQ):R2:=λx y H Q=>∃a b xs ys,x=.ref a/\y=.ref b/\q1b a xs/\q1b b ys/\xs≠[]/\xs.length+ys.length<=X5/\
 (ys=[]->Q (.ref a) H)/\(ys≠[]->∀p,H p=b_->Q (.ref p) (q0r p (.tup (xs++ys))))
theorem aW.nil_iff{xs:ve V}(r:aW xs us):us=[]↔xs=[]:=by
 cases r with
 |nil=>simp
 |cons _ _=>simp
theorem Nw:q0J (ZQ .Add) (Pv X.K):=by
 intro FR s σ H x y v u Q I rx ry h;let⟨a,b,xs,ys,rfl,rfl,ha,hb,hx,hz,q1,q2⟩:=h;cases rx
 cases ry
 let⟨its,r1,p1,_⟩:=I.tuple ha;let⟨gi,r2,p2,_⟩:=I.tuple hb;refine HT.cat_tup p1 p2 (λz=>hx (r1.nil_iff.mp z)) (λz=>⟨.ref a,H,I,rfl,q1 (r2.nil_iff.mp z)⟩) (λz=>?_) (by rw[<-r1.length,<-r2.length];show hz);refine⟨.ref (c_ s),_,I.laid (t':=s.toks) (o:=.tup (xs++ys)) (λb ob q=>XO _ q) (X1 _) ?_,rfl,q2 (λw=>z (r2.nil_iff.mpr w)) _ (I.hok.fresh (X1 _))⟩;show⟨by rw[X6];show hz,_,r1.append r2,yI.new _ _⟩
end
def ixN(n:Nat)(i:Int):v_ Nat:=if 0<=i then(if i<n then a_ i.toNat else b_) else if -(n:Int)<=i then a_ (i+n).toNat else b_
def atI{α:Type}(xs:ve α)(i:Int):v_ α:=(ixN xs.length i).bind λj=>xs[j]?
variable{j n:Nat}
theorem GW{i:Int}(h:ixN n i=a_ j):seqIndex? i n=a_ j/\j<n/\-(n:Int)<=i/\i<n:=by
 unfold ixN at h;by_cases h0:0<=i
 ·rw[if_pos h0]at h;by_cases h1:i<n
  ·rw[if_pos h1]at h;let e:i.toNat=j:=Yp h;show⟨by rw[seqIndex_of h0 h1,e],⋯,⋯,h1⟩
  ·rw[if_neg h1]at h;cases h
 ·rw[if_neg h0]at h;by_cases h1:-(n:Int)<=i
  ·rw[if_pos h1]at h;let e:(i+n).toNat=j:=Yp h;show⟨by rw[seqIndex_neg ⋯ h1,e],⋯,h1,⋯⟩
  ·rw[if_neg h1]at h;cases h
theorem Ce{α:Type}{xs:ve α}{i:Int}{v:α}(h:atI xs i=a_ v):∃j,seqIndex? i xs.length=a_ j/\xs[j]?=a_ v/\j<xs.length/\-(xs.length:Int)<=i/\i<xs.length:=by
 unfold atI at h;cases e:ixN xs.length i with
 |none=>rw[e]at h;cases h
 |some j=>rw[e]at h;let⟨h1,h2,h3,h4⟩:=GW e;show⟨j,h1,h,h2,h3,h4⟩
def GX(b:t_):Prop:=∀o i,subscripted b false o i=operate [o,i] (getItem o i)
def IxR(X:Cx)(r:R2):Prop:=
 ∀(value slice:t_)(FR:e_ 0)(s:oa)(σ:St)(H:Hp)(x y:V)(v u:n_)(Q:VK),P_ s->q1f v->RelV y u->r x y H Q->
  subscripted slice false v u=operate [v,u] (getItem v u)->wpAny (fI X) X.A (subscriptTail value slice v u) (q0q Q) X.xe s
def MtR(X:Cx)(id:String)(r:V->ve V->Hp->VK->Prop):Prop:=
 ∀(FR:e_ 0)(s:oa)(σ:St)(H:Hp)(x:V)(xs:ve V)(v:n_)(us:ve n_)(Q:VK),P_ s->q1f v->aW xs us->r x xs H Q->
  wpAny (fI X) X.A (call (.builtin id) (v::us)) (q0q Q) X.xe s
variable{r':R2}{ta:TE}{H:Hp}{FR:e_ 0}{s:oa}{its its':ve n_}{A:q_}{u v:n_}{T:String}{aj apos:Pos}{es:ve t_}{name:Str}
section
variable{a b:t_}{tb:TE}
theorem IxR.or{r:R2}(h:IxR X r)(h':IxR X r'):IxR X (λx y H Q=>r x y H Q\/r' x y H Q):=by
 intro value slice FR s σ H x y v u Q I rx ry q hs;rcases q with q|q
 ·show h value slice FR s σ H x y v u Q I rx ry q hs
 ·show h' value slice FR s σ H x y v u Q I rx ry q hs
theorem SN{r:R2}(hr:IxR X r)(ha:PE X a ta)(hb:PE X b tb)(hs:GX b):PE X (.Subscript a b pos) (tOp r ta tb):=by intro FR s σ H Q I h;show Subscript_ (Qo ha hb I h λv u s2 x y H2 I2 rx ry q=>hr a b FR s2 σ H2 x y v u Q I2 rx ry q (hs _ _))
def V7(K:XQ):R2:=λx y H Q=>∃p xs i v,x=.ref p/\y=.int i/\q0S p xs/\atI xs i=a_ v/\Q v H
def V8(K:XQ):R2:=λx y H Q=>∃p xs i v,x=.ref p/\y=.int i/\q1b p xs/\atI xs i=a_ v/\Q v H
def V9:R2:=λx y H Q=>∃z i c,x=.str z/\y=.int i/\z.length<=X5/\atI z.cps.toList i=a_ c/\Q (.str ⟨#[c]⟩) H
theorem Nx:IxR X (V7 X.K):=by
 intro value slice FR s σ H x y v u Q I rx ry h hs;let⟨p,xs,i,z,rfl,rfl,hq,he,q⟩:=h;cases rx
 let⟨t,rfl⟩:=ry;let⟨its,r,pl,hz⟩:=I.list hq;let⟨j,h1,h2,h3,h4,h5⟩:=Ce he;let⟨w,ew,cf⟩:=r.get h2;let hl:=r.length;let hn:=sI;let fin:q0q Q w s:=⟨z,H,I,cf,q⟩;by_cases h0:0<=i
 ·let hj:i.toNat=j:=by rw[seqIndex_of h0 h5]at h1;show Yp h1
  show item_listR pl.isList h0 ⋯ (by rw[hj];simpa using ew) fin hs
 ·let hj:(i+(its.toArray.size:Int)).toNat=j:=by rw[seqIndex_neg ⋯ h4]at h1;rw[X3,<-hl];show Yp h1
  show subscriptTail_builtinR (x:=w) pl.isList.typeIs slot_list_getitem.lookup
   (wpAny_getItem_list_neg (Q:=λr s'=>r=w/\q0q Q r s') pl.isList ⋯ (by rw[X3] <;> omega) ⋯ (by rw[hj];simpa using ew) ⟨rfl,fin⟩) hs
theorem QD:IxR X (V8 X.K):=by
 intro value slice FR s σ H x y v u Q I rx ry h hs;let⟨p,xs,i,z,rfl,rfl,hq,he,q⟩:=h;cases rx
 let⟨t,rfl⟩:=ry;let⟨its,r,pl,hz⟩:=I.tuple hq;let⟨j,h1,h2,h3,h4,h5⟩:=Ce he;let⟨w,ew,cf⟩:=r.get h2;let hl:=r.length;let hn:=sI;let fin:q0q Q w s:=⟨z,H,I,cf,q⟩;show subscriptTail_builtinR (x:=w) pl.typeIs slot_tuple_getitem.lookup
  (getItem_tuple (j:=j) (Q:=λr s'=>r=w/\q0q Q r s') pl ⋯ ⋯ (by rw[X3,<-hl];show h1) (i_ ew) ⟨rfl,fin⟩) hs
theorem QE:IxR X V9:=by
 intro value slice FR s σ H x y v u Q I rx ry h hs;let⟨z,i,c,rfl,rfl,hz,he,q⟩:=h;let⟨t,rfl⟩:=rx;let⟨t',rfl⟩:=ry;let⟨j,h1,h2,h3,h4,h5⟩:=Ce he;let hl:z.cps.toList.length=z.length:=by simp[Str.length]
 rw[hl]at h1 h4 h5;let hn:=sI;show tail_any (typeIs_str s z t) slot_str_getitem.lookup (getItem_str (c:=c) (by let e1:decide (i < -(2 ^ 63:Int))=false:=decide_eq_false ⋯;let e2:decide (i >= 2 ^ 63)=false:=decide_eq_false ⋯;rw[e1,e2,Bool.or_false]) (by rw[h1];simpa using h2) ⟨.str ⟨#[c]⟩,H,I.tok _,⟨_,rfl⟩,q⟩) hs
theorem FL(its:ve n_)(n j:Nat)(u:n_):YO (·.setIfInBounds j u) {cls:=.type "list",data:=.seq its.toArray n}={cls:=.type "list",data:=.seq (its.set j u).toArray n}:=by simp[YO]
theorem Inv.lst{σ:St}{p:o_}{xs:ve V}(I:P_ s)(h:H p=a_ (.lst xs)):
  ∃(its:ve n_)(n:Nat),aW xs its/\s.heap.get? p=a_ {cls:=.type "list",data:=.seq its.toArray n}/\xs.length<=X5:=by
 let⟨z,its,n,r,e⟩:=I.hok p _ h;show⟨its,n,r,e,z⟩
theorem Inv.lstUpd{σ:St}{p:o_}{xs ys:ve V}{n':Nat}{f:Obj->Obj}(I:P_ s)(h:H p=a_ (.lst xs))(ho:s.heap.get? p=a_ {cls:=.type "list",data:=.seq its.toArray n})(hf:f {cls:=.type "list",data:=.seq its.toArray n}={cls:=.type "list",data:=.seq its'.toArray n'})(r:aW ys its')(hz:ys.length<=X5)(t:Nat):
  f_ (q0r p (.lst ys)) {s with heap:=s.heap.update p f,toks:=t}:=by
 let e:(s.heap.update p f).get? p=a_ {cls:=.type "list",data:=.seq its'.toArray n'}:=by rw[YR f ho (by rw[hf] <;> rfl),hf]
 refine I.write (x:=p) (e:=p) (by rw[h];trivial) (.inl rfl) (λb u hb q=>(Y8 _ _ (ZK hb)).trans q) ⟨_,e⟩ ?_;show⟨hz,its',n',r,e⟩
def SQ:V->V->V->Hp->(Hp->Prop)->Prop:=λo i v H Q=>∃p xs k j,o=.ref p/\i=.int k/\H p=a_ (.lst xs)/\ixN xs.length k=a_ j/\Q (q0r p (.lst (xs.set j v)))
theorem set_list:UX X SQ:=by
 intro FR s σ H o i v ov iv u Q I ro ri rv h;let⟨p,xs,k,j,rfl,rfl,hp,hj,q⟩:=h;cases ro
 let⟨t,rfl⟩:=ri;let⟨its,n,r,ho,hz⟩:=I.lst hp;let⟨h1,h2,h3,h4⟩:=GW hj;let hl:=r.length;let hn:=sI;let I':f_ (q0r p (.lst (xs.set j v))) {s with heap:=s.heap.update p (YO (·.setIfInBounds j u))}:=I.lstUpd hp ho (FL its n j u) (r.set rv j) (by rw[Zm];show hz) s.toks;by_cases h0:0<=k
 ·let hk:k.toNat=j:=by rw[seqIndex_of h0 h4]at h1;show Yp h1
  show PySem.W.ki_setAt ho h0 ⋯ (by rw[X3,<-hl];show h4) (by rw[hk];show⟨_,I',q⟩)
 ·let hk:(k+(its.toArray.size:Int)).toNat=j:=by rw[seqIndex_neg ⋯ h3]at h1;rw[X3,<-hl];show Yp h1
  show PySem.W.ki_setBack ho ⋯ (by rw[X3,<-hl];show h3) ⋯ (by rw[hk];show⟨_,I',q⟩)
theorem Cf(lo hi:v_ Int)(n:Nat):(sliceBounds lo hi b_ n).1=((HT.sIx n 0 lo:Nat):Int)/\(sliceBounds lo hi b_ n).2.1=((HT.sIx n n hi:Nat):Int)/\(sliceBounds lo hi b_ n).2.2=1:=by
 refine⟨?_,?_,rfl⟩
 ·cases lo with
  |none=>simp[sliceBounds,HT.sIx]
  |some i=>
   simp only[sliceBounds,HT.sIx,Option.getD_none,show(1:Int)>0 by decide,if_true]
   by_cases h:i<0
   ·simp only[h,if_true] <;> omega
   ·simp only[h,if_false] <;> omega
 ·cases hi with
  |none=>simp[sliceBounds,HT.sIx]
  |some i=>
   simp only[sliceBounds,HT.sIx,Option.getD_none,show(1:Int)>0 by decide,if_true]
   by_cases h:i<0
   ·simp only[h,if_true] <;> omega
   ·simp only[h,if_false] <;> omega
theorem B4(its:ve n_)(lo hi:v_ Int):slicePick its.toArray lo hi b_=((its.drop (HT.sIx its.length 0 lo)).take (HT.sIx its.length its.length hi-HT.sIx its.length 0 lo)).toArray:=by let⟨h1,h2,h3⟩:=Cf lo hi its.toArray.size;unfold slicePick;rw[h1,h2,h3];simp only[sliceRange_one,pick_run,X3] <;> rfl
def SR(K:XQ):V->v_ Int->v_ Int->Hp->VK->Prop:=λx lo hi H Q=>∃a xs,x=.ref a/\q0S a xs/\∀p,H p=b_->Q (.ref p) (q0r p (.lst (DP xs lo hi)))
theorem Ny:SlR X (SR X.K):=by
 intro FR s σ H x v vl vu lo hi sl Q I rx hs pl pu h;let⟨a,xs,rfl,hx,q⟩:=h;cases rx
 let⟨its,r,ht,hz⟩:=I.list hx;let hlen:=r.length;refine⟨"list",_,slot_list_getitem.lookup,ht.isList.typeIs,?_⟩;refine wpAny_getItem_list_slice ht.isList hs pl pu .none (by simp) ?_ (by rw[X3] <;> omega);rw[B4,<-hlen];refine⟨.ref (c_ s),_,I.laid (t':=s.toks) (o:=.lst (DP xs lo hi)) (λb ob q=>XO _ q) (X1 _) ?_,rfl,q _ (I.hok.fresh (X1 _))⟩;show⟨Y9 (xP xs lo hi) hz,_,0,(r.drop (q0b 0 lo)).take (q0b xs.length hi-q0b 0 lo),q0O 0⟩
def xQ:V->Bool
 |.non=>true
 |.bl _=>true
 |.int _=>true
 |.str _=>true
 |_=>false
def eqV:V->V->Bool
 |.non,.non=>true
 |.bl a,.bl b=>a == b
 |.bl a,.int b=>(if a then 1 else 0) == b
 |.int a,.bl b=>a == (if b then 1 else 0)
 |.int a,.int b=>a == b
 |.str a,.str b=>a == b
 |_,_=>false
theorem QF{y x:V}(ry:RelV y u)(rx:q1f v)(fy:xQ y=true)(fx:xQ x=true):SeqAt.EqAt A s u v (eqV y x):=by
 cases y with
 |non=>
  cases ry
  cases x with
  |non=>cases rx;show SeqAt.EqAt.same _
  |bl b=>cases rx;show SeqAt.EqAt.none_bool b
  |int b=>let⟨t,rfl⟩:=rx;show SeqAt.EqAt.none_int b t
  |str b=>let⟨t,rfl⟩:=rx;show SeqAt.EqAt.none_str b t
  |_=>exact absurd (show false=true from fx) Yg
 |bl a=>
  cases ry
  cases x with
  |non=>cases rx;show SeqAt.EqAt.bool_none a
  |bl b=>cases rx;show SeqAt.EqAt.bool_bool a b
  |int b=>let⟨t,rfl⟩:=rx;show SeqAt.EqAt.bool_int a b t
  |str b=>let⟨t,rfl⟩:=rx;show SeqAt.EqAt.bool_str a b t
  |_=>exact absurd (show false=true from fx) Yg
 |int a=>
  let⟨t',rfl⟩:=ry;cases x with
  |non=>cases rx;show SeqAt.EqAt.int_none a t'
  |bl b=>cases rx;show SeqAt.EqAt.int_bool a t' b
  |int b=>let⟨t,rfl⟩:=rx;show SeqAt.EqAt.int_int a t' b t
  |str b=>let⟨t,rfl⟩:=rx;show SeqAt.EqAt.int_str a t' b t
  |_=>exact absurd (show false=true from fx) Yg
 |str a=>
  let⟨t',rfl⟩:=ry;cases x with
  |non=>cases rx;show SeqAt.EqAt.str_none a t'
  |bl b=>cases rx;show SeqAt.EqAt.str_bool a t' b
  |int b=>let⟨t,rfl⟩:=rx;show SeqAt.EqAt.str_int a t' b t
  |str b=>let⟨t,rfl⟩:=rx;show SeqAt.EqAt.str_str a t' b t
  |_=>exact absurd (show false=true from fx) Yg
 |_=>exact absurd (show false=true from fy) Yg
def eqU(x:V)(u:n_):Bool:=match u with
 |.none=>eqV .non x
 |.bool b=>eqV (.bl b) x
 |.int i _=>eqV (.int i) x
 |.str z _=>eqV (.str z) x
 |_=>false
theorem K0{x y:V}(r:RelV y u)(f:xQ y=true):eqU x u=eqV y x:=by
 cases y with
 |non=>cases r;rfl
 |bl b=>cases r;rfl
 |int i=>let⟨t,rfl⟩:=r;rfl
 |str z=>let⟨t,rfl⟩:=r;rfl
 |_=>exact absurd (show false=true from f) Yg
theorem tQ{x:V}:∀{xs:ve V}{us:ve n_},aW xs us->xs.all xQ=true->us.any (eqU x)=xs.any λy=>eqV y x
 |_,_,.nil,_=>rfl
 |y::xs,u::us,.cons r t,f=>by rw[y0r,YU]at f;rw[y1d,y1d,K0 r f.1,tQ t f.2]
theorem qB{A:q_}{s:oa}{x:V}{v:n_}(rx:q1f v)(fx:xQ x=true):∀{xs:ve V}{us:ve n_},aW xs us->xs.all xQ=true->∀u∈us,SeqAt.EqAt A s u v (eqU x u)
 |_,_,.nil,_=>λu hu=>by cases hu
 |y::xs,u::us,.cons r t,f=>λu' hu=>by
  rw[y0r,YU]at f;rcases Yf.mp hu with rfl|hu
  ·rw[K0 r f.1];show QF r rx f.1 fx
  ·show qB rx fx t f.2 u' hu
def inV(x:V)(xs:ve V):Bool:=xs.any λy=>eqV y x
def rIn(K:XQ)(neg:Bool):R2:=λx y H Q=>∃p xs,y=.ref p/\(q0S p xs\/q1b p xs)/\xQ x=true/\xs.all xQ=true/\Q (.bl (if neg then !inV x xs else inV x xs)) H
theorem Il:q0J (YD .In) (rIn X.K false):=by
 intro FR s σ H x y v u Q I rx ry h;let⟨p,xs,rfl,hq,fx,fs,q⟩:=h;cases ry
 rcases hq with hq|hq
 ·let⟨its,r,pl,hz⟩:=I.list hq;refine SeqAt.in_listAt (eqU x) pl.isList (λw hw=>qB rx fx r fs w (i_ hw)) ⟨.bl _,H,I,rfl,?_⟩;rw[show its.toArray.any (eqU x)=its.any (eqU x) by simp,tQ r fs];show q
 ·let⟨its,r,pl,hz⟩:=I.tuple hq;refine SeqAt.in_tupleAt (eqU x) pl (λw hw=>qB rx fx r fs w (i_ hw)) ⟨.bl _,H,I,rfl,?_⟩;rw[show its.toArray.any (eqU x)=its.any (eqU x) by simp,tQ r fs];show q
theorem Cg:q0J (YD .NotIn) (rIn X.K true):=by
 intro FR s σ H x y v u Q I rx ry h;let⟨p,xs,rfl,hq,fx,fs,q⟩:=h;cases ry
 rcases hq with hq|hq
 ·let⟨its,r,pl,hz⟩:=I.list hq;refine SeqAt.notIn_listAt (eqU x) pl.isList (λw hw=>qB rx fx r fs w (i_ hw)) ⟨.bl _,H,I,rfl,?_⟩;rw[show its.toArray.any (eqU x)=its.any (eqU x) by simp,tQ r fs];show q
 ·let⟨its,r,pl,hz⟩:=I.tuple hq;refine SeqAt.notIn_tupleAt (eqU x) pl (λw hw=>qB rx fx r fs w (i_ hw)) ⟨.bl _,H,I,rfl,?_⟩;rw[show its.toArray.any (eqU x)=its.any (eqU x) by simp,tQ r fs];show q
theorem Ci:dJ X (.builtin "len") (λxs H Q=>∃p ys,xs=[.ref p]/\(SqL X.K H p ys\/SqT X.K H p ys)/\Q (.int ys.length) H):=by
 intro FR s σ H xs us Q I r h;let⟨p,ys,rfl,hq,q⟩:=h;let⟨u,rfl,rx⟩:=vals1 r;cases rx
 let hn:=sI;rcases hq with hq|hq
 ·let⟨its,r',pl,hz⟩:=I.list hq;let hlen:=r'.length;show Calls.call_len_list pl.isList (by simp only[X3] <;> omega) ⟨.int ys.length,H,I.tok _,⟨s.toks+1,by rw[X3,hlen]⟩,q⟩
 ·let⟨its,r',pl,hz⟩:=I.tuple hq;let hlen:=r'.length;show len_tuple pl (by simp only[X3] <;> omega) ⟨.int ys.length,H,I.tok _,⟨s.toks+1,by rw[X3,hlen]⟩,q⟩
theorem dJ.or{f:n_}{r r':ve V->Hp->VK->Prop}(h:dJ X f r)(h':dJ X f r'):dJ X f (λxs H Q=>r xs H Q\/r' xs H Q):=by
 intro FR s σ H xs us Q I rs q;rcases q with q|q
 ·show q0t xs us Q I rs q
 ·show h' FR s σ H xs us Q I rs q
theorem Cj:dJ X (.type "list") (λxs H Q=>∃p ys,xs=[.ref p]/\(SqL X.K H p ys\/SqT X.K H p ys)/\∀l,H l=b_->Q (.ref l) (q0r l (.lst ys))):=by
 intro FR s σ H xs us Q I r h;let⟨p,ys,rfl,hq,q⟩:=h;let⟨u,rfl,rx⟩:=vals1 r;cases rx
 let fin:∀(its:ve n_),aW ys its->ys.length<=X5->∀(h':r_)(c':Nat),(∀b o',I_ 0=a_ o'->q0A 0=a_ o')->
   h'.get? (c_ s)=a_ {cls:=.type "list",dict:=b_,data:=.seq its.toArray c',slots:=#[]}->q0q Q (.ref (c_ s)) {s with heap:=h'}:=λits r' hz h' c' kp e=>
  ⟨.ref (c_ s),_,I.laid (t':=s.toks) kp (X1 _) (show dZ X.prog X.w _ h' _ (.lst ys) from⟨hz,its,c',r',e⟩),rfl,q _ (I.hok.fresh (X1 _))⟩
 rcases hq with hq|hq
 ·let⟨its,r',pl,hz⟩:=I.list hq;let hlen:=r'.length;let⟨o,ho,hc,n,hd⟩:=pl.isList;show call_list_seq p (.inl rfl) ho hc hd (λh' c' kp e=>fin its r' hz h' c' kp e) (by simp only[X3] <;> omega)
 ·let⟨its,r',pl,hz⟩:=I.tuple hq;let hlen:=r'.length;let⟨o,ho,hc,n,hd⟩:=pl;show call_list_seq p (.inr rfl) ho hc hd (λh' c' kp e=>fin its r' hz h' c' kp e) (by simp only[X3] <;> omega)
theorem B5:dJ X (.type "tuple") (λxs H Q=>∃p ys,xs=[.ref p]/\((SqL X.K H p ys/\∀l,H l=b_->Q (.ref l) (q0r l (.tup ys)))\/(SqT X.K H p ys/\Q (.ref p) H))):=by
 intro FR s σ H xs us Q I r h;let⟨p,ys,rfl,h⟩:=h;let⟨u,rfl,rx⟩:=vals1 r;cases rx
 rcases h with⟨hq,q⟩|⟨hq,q⟩
 ·let⟨its,r',pl,hz⟩:=I.list hq;let hlen:=r'.length;refine call_tuple_list pl.isList (λh' kp=>?_) (by simp only[X3] <;> omega);let I1:P_ {s with heap:=h'}:=I.kept (t':=s.toks) kp;let I2:f_ (q0r h'.objs.size (.tup ys)) {s with heap:=h'.push {cls:=.type "tuple",data:=.seq its.toArray} }:=I1.laid (t':=s.toks) (λb o e=>XO _ e) (X1 _) (show dZ X.prog X.w _ _ _ (.tup ys) from⟨hz,its,r',yI.new _ _⟩)
  show⟨.ref h'.objs.size,_,I2,rfl,q _ (I1.hok.fresh (X1 _))⟩
 ·let⟨its,r',pl,hz⟩:=I.tuple hq;show call_tuple_same pl ⟨.ref p,H,I,rfl,q⟩
def tyV(K:XQ)(T:String)(x:V)(H:Hp):Prop:=match x with
 |.str _=>T="str"
 |.int _=>T="int"
 | .ref p=>(T="list" /\ ∃ xs,q0S p xs)\/(T="tuple" /\ ∃ o,K.lookup p=a_ o/\o.cls=.type "tuple" /\ o.dict=b_)\/
   (T="dict" /\ ((∃kvs,H p=a_ (.dK kvs))\/∃kvs,H p=a_ (.dT kvs)))\/(T="set" /\ ∃S n,H p=a_ (.set S n))
 |_=>False
theorem QG{σ:St}{x:V}(I:P_ s)(r:q1f v)(ty:tyV X.K T x H):
  s.TypeIs v T/\∀a,v=.ref a->∃ob,q0C 0=a_ ob/\ob.dict=b_:=by
 cases x with
 |str z=>
  let⟨t,rfl⟩:=r;cases(show T="str" from ty)
  show⟨typeIs_str s z t,λ_ e=>nomatch e⟩
 |int i=>
  let⟨t,rfl⟩:=r;cases(show T="int" from ty)
  show⟨typeIs_int s i t,λ_ e=>nomatch e⟩
 |ref p=>
  cases r
  rcases ty with⟨rfl,xs,hq⟩|⟨rfl,o,hk,hc,hd⟩|⟨rfl,hk⟩|⟨rfl,S,n,hk⟩
  ·let⟨its,_,pl,_⟩:=I.list hq;refine⟨pl.isList.typeIs,λa e=>?_⟩;cases e
   let⟨o,n,e,c,hd,_⟩:=pl;show⟨o,e,hd⟩
  ·refine⟨⟨o,I.kIn p o hk,hc⟩,λa e=>?_⟩;cases e
   show⟨o,I.kIn _ o hk,hd⟩
  ·let z:∃o,s.heap.get? p=a_ o/\o.ExactDict:=by
    rcases hk with⟨kvs,hk⟩|⟨kvs,hk⟩
    ·let⟨_,_,_,_,o,_,_,e,ex,_⟩:=I.hok p _ hk;show⟨o,e,ex⟩
    ·let⟨_,_,_,_,o,_,_,e,ex,_⟩:=I.hok p _ hk;show⟨o,e,ex⟩
   let⟨o,e,ex⟩:=z;refine⟨⟨o,e,ex.1⟩,λa e2=>?_⟩;cases e2
   show⟨o,e,ex.2.1⟩
  ·let⟨o,_,_,_,e,ex,_⟩:=I.hok p _ hk;refine⟨⟨o,e,ex.1⟩,λa e2=>?_⟩;cases e2
   show⟨o,e,ex.2.1⟩
 |_=>exact Z1 ty
def tBM(K:XQ)(T:String)(r:V->ve V->Hp->VK->Prop)(to:TE)(t:TA):TE:=λσ H Q=>to σ H λx H1=>tyV K T x H1/\t σ H1 λxs H2=>r x xs H2 Q
variable{o:t_}{to:TE}{t:TA}{id:String}{r:V->ve V->Hp->VK->Prop}
theorem SS(pa:PlainAttrs T)(slot:Slot T name id)(j4:typeOf (.builtin id)=pure (.type "method_descriptor"))(hm:MtR X id r)(ho:PE X o to)(ha:PA X (e::es) t)
  (br:y1I o name X.env (eval o X.env)=eval o X.env:=by rfl)
  (gf:((backTo aj (Yr (e::es) X.env)).all (λx=>!x.1)&&(backToKw aj (keywordEach [] X.env)).all (λx=>x.1.isSome)
   && decide ((e::es).length+([]:ve Keyword).length+(if([]:ve Keyword).isEmpty then 0 else 1)<30))=true:=by rfl)
  (bw:(apos.endLine == aj.line)=true:=by rfl) (hs:Yr (e::es) X.env=(false,q0j 0)::q0i 0:=by rfl) (bq:(backTo aj (q0i 0)).any (·.1)=false:=by rfl):
  PE X (.Call (.Attribute o name apos) (e::es) [] aj) (tBM X.K T r to t):=by
 intro FR s σ H Q I h;refine wpAny_Call_method_late br gf bw rfl (thn (ho FR s σ H _ I h) λv s1 hz=>?_);let⟨x,H1,I1,r1,ty,q1⟩:=hz;let⟨h1,h2⟩:=QG I1 r1 ty;refine⟨T,id,pa,slot,j4,h1,h2,?_⟩;let hA:=ha aj FR s1 σ H1 _ I1 q1;rw[hs]at hA⊢;refine Calls.callWith_builtin (by change(false || (backTo aj (q0i 0)).any (·.1))=false;rw[bq] <;> rfl) (Calls.evalArgs_plain ?_);show thn hA λus s2 ⟨vs,H2,I2,r2,q2⟩=>hm FR s2 σ H2 x vs v us Q I2 r1 r2 q2
end
def MtM(X:Cx)(id:String)(r:V->ve V->Hp->VK->Prop):Prop:=
 ∀(FR:e_ 0)(s:oa)(σ:St)(H:Hp)(x:V)(xs:ve V)(v:n_)(us:ve n_)(Q:VK),P_ s->q1f v->aW xs us->r x xs H Q->
  wpAny (fI X) X.A (call (.builtin id) (v::us)) (q0q Q) X.xe s
theorem aW.one:∀{x:V}{us:ve n_},aW [x] us->∃u,us=[u]/\q1f u
 |_,_,.cons r .nil=>⟨_,rfl,r⟩
theorem aW.rep{xs:ve V}(h:aW xs us):∀k:Nat,aW (X4 k xs).flatten (X4 k us).flatten
 |0=>.nil
 |k+1=>by rw[y0G,y0G,y1J,y1J];show aW.append h (aW.rep h k)
theorem foldl_rep(its:ve n_):∀(k:Nat)(acc:ve n_),
  List.foldl (λx1 x2=>x1++x2) acc.toArray (X4 k its.toArray)=(acc++(X4 k its).flatten).toArray
 |0,acc=>by simp
 |k+1,acc=>by
  let e:acc.toArray++its.toArray=(acc++its).toArray:=by simp
  let e2:(acc++its)++(X4 k its).flatten=acc++(X4 (k+1) its).flatten:=by rw[y0G,y1J,XU]
  rw[<-e2,<-foldl_rep its k (acc++its),<-e,y0G,y1w]
variable{t':Nat}
section
variable{σ:St}{l b:o_}{xs ys zs:ve V}
theorem Inv.lset{f:q0p 0->q0p 0}(I:P_ s)(hH:H l=a_ (.lst xs))(e:s.heap.get? l=a_ {cls:=.type "list",data:=.seq its.toArray n})(hf:f its.toArray=its'.toArray)(hv:aW ys its')(hz:ys.length<=X5):
  f_ (q0r l (.lst ys)) {s with heap:=s.heap.update l (YO f),toks:=t'}:=by
 let q:=PySem.IsL.update e f;rw[hf]at q;refine I.write (x:=l) (e:=l) (by rw[hH];show trivial) (.inl rfl) (λb' u hb hu=>(Y8 s.heap (YO f) (ZK hb)).trans hu) ⟨_,q⟩ ?_;show⟨hz,its',_,hv,q⟩
theorem Inv.lnew(I:P_ s)(hv:aW ys its)(hz:ys.length<=X5):
  f_ (q0r (c_ s) (.lst ys)) {s with heap:=s.heap.push {cls:=.type "list",data:=.seq its.toArray},toks:=t'}:=
 I.laid (λ_ _ q=>XO _ q) (X1 _) ⟨hz,its,0,hv,q0O 0⟩
theorem Inv.fresh(I:P_ s):H (c_ s)=b_:=I.hok.fresh (X1 _)
theorem Inv.lstM(I:P_ s)(hH:H l=a_ (.lst xs)):xs.length<=X5/\∃(its:ve n_)(n:Nat),aW xs its/\xs.length=its.length/\s.heap.get? l=a_ {cls:=.type "list",data:=.seq its.toArray n}:=by let⟨z,its,n,r,e⟩:=I.hok l _ hH;show⟨z,its,n,r,r.length,e⟩
theorem K1(h:n<=X5):y13 n=false:=by unfold y13;show decide_eq_false ⋯
end
def GY:V->ve V->Hp->VK->Prop:=λx vs H Q=>∃l xs y,x=.ref l/\vs=[y]/\H l=a_ (.lst xs)/\xs.length<X5/\Q .non (q0r l (.lst (xs++[y])))
theorem BC:MtM X "list.append" GY:=by
 intro FR s σ H x vs v us Q I rx rv h;let⟨l,xs,y,rfl,rfl,hH,hz,q⟩:=h;cases rx
 let⟨u,rfl,ru⟩:=rv.one;let⟨z,its,n,r,hl,e⟩:=I.lstM hH;refine call_meets F.slot_list_append ⟨_,e,rfl⟩ F.entry_list_append (F.args_list_append_2 _ _) (PySem.list_append l its.toArray n u (by rw[X3];omega)) ⟨e,?_⟩;refine⟨.non,_,I.lset (its':=its++[u]) hH e (by simp) (r.append (.cons ru .nil)) ?_,rfl,q⟩;rw[X6,List.length_singleton];omega
def SU:R2:=λx y H Q=>∃l b xs zs,x=.ref l/\y=.ref b/\H l=a_ (.lst xs)/\H b=a_ (.lst zs)/\xs.length+zs.length<=X5/\∀p,H p=b_->Q (.ref p) (q0r p (.lst (xs++zs)))
theorem QH:q0J (ZQ .Add) SU:=by
 intro FR s σ H x y v u Q I rx ry h;let⟨l,b,xs,zs,rfl,rfl,hH,hB,hz,q⟩:=h;cases rx
 cases ry
 let⟨z,its,n,r,hl,e⟩:=I.lstM hH;let⟨z2,gi,n2,r2,cq,e2⟩:=I.lstM hB;refine PySem.P.add_list e e2 ?_ (by rw[X3,X3];omega);let ea:its.toArray++gi.toArray=(its++gi).toArray:=by simp
 rw[ea];show⟨.ref _,_,I.lnew (t':=s.toks) (r.append r2) (by rw[X6];omega),rfl,q _ I.fresh⟩
def V':R2:=λx y H Q=>∃l k xs,x=.ref l/\y=.int k/\H l=a_ (.lst xs)/\-(2 ^ 63)<=k/\k<2 ^ 63/\xs.length*k.toNat<=X5/\
 ∀p,H p=b_->Q (.ref p) (q0r p (.lst (X4 k.toNat xs).flatten))
theorem len_rep{α:Type}(xs:ve α)(k:Nat):(X4 k xs).flatten.length=k*xs.length:=by
 induction k with
 |zero=>simp
 |succ k ih=>rw[y0G,y1J,X6,ih,Nat.succ_mul,Nat.add_comm]
theorem QI:q0J (ZQ .Mult) V':=by
 intro FR s σ H x y v u Q I rx ry h;let⟨l,k,xs,rfl,rfl,hH,h1,h2,hz,q⟩:=h;cases rx
 let⟨t,rfl⟩:=ry;let⟨z,its,n,r,hl,e⟩:=I.lstM hH;let hlen:its.toArray.size*k.toNat<=X5:=by rw[X3,<-hl];show hz
 let ux:¬ its.toArray.size*k.toNat>(2 ^ 63-1)/8:=by
  have:(X5:Nat)<=(2 ^ 63-1)/8:=by decide
  omega
 let nc:¬ (!Builtin.List.listFitsIndex k)=true:=by rw[fitsIndex_both h1 h2];show Yg
 let o4:¬ y13 (its.toArray.size*k.toNat)=true:=by rw[K1 hlen];show Yg
 let uf:List.foldl (λx1 x2=>x1++x2) #[] (X4 (if its.toArray.isEmpty=true then 0 else k.toNat) its.toArray)=(X4 k.toNat its).flatten.toArray:=by
  let f0:∀m:Nat,List.foldl (λx1 x2=>x1++x2) #[] (X4 m its.toArray)=(X4 m its).flatten.toArray:=λm=>by have:=foldl_rep its m [];rw[Zx]at this;show this
  rw[f0];cases its with
  |nil=>simp
  |cons a r'=>rw[if_neg (by simp)]
 refine wpAny_binaryOp_repeat_ref (T:="list") (U:="int") nofun ⟨_,e,rfl⟩ (λs'=>typeIs_int s' k t) noFill_list_mul F.fills_int_mul F.slot_int_rmul repeat_list F.slot_int_index.lookup
  (call_meets F.slot_int_rmul (typeIs_int s k t) F.entry_int_rmul (F.args_int_rmul_2 _ _) (int___rmul___int_list k t l its.toArray n)
   ⟨e,rfl,⟨_,e,rfl⟩,call_meets F.slot_list_mul ⟨_,e,rfl⟩ F.entry_list_mul (F.args_list_mul_2 _ _) (AutoListH.list___mul___list_int_3 l its.toArray n k t nc ux o4) ⟨e,?_⟩⟩)
 rw[uf];show⟨.ref _,_,I.lnew (t':=s.toks) (r.rep k.toNat) (by rw[len_rep,Nat.mul_comm];show hz),rfl,q _ I.fresh⟩
end L2
namespace Att
open PySem PySem.W PySem.Calls PyProof.Rows
variable{P:Params}{h:r_}
theorem yJ:∀(ns:ve Int)(vs:ve n_),WellAll P h vs (ns.map WData.int)->IntsAre vs ns:=by
 intro ns
 induction ns with
 |nil=>
  intro vs w;rw[y1b]at w;cases w
  show .nil
 |cons n ns ih=>
  intro vs w;rw[YA]at w;cases w with
  |cons a b=>
   cases a
   show .cons _ _ (ih _ b)
variable{args:ve WData}{l:OpenLaw}{n:Nat}{vals:ve n_}
theorem Im(hn:l.most=a_ n)(je:l.row.toRowW.claim.pre args=true)(ue:WellAll P h vals args):
  ∃a vs ns,vals=[YH a]/\args=[WData.list (ns.map WData.int)]/\h.get? a=a_ {cls:=.type "list",data:=.seq vs.toArray}/\IntsAre vs ns/\ns.length<=n:=by
 let hsh:WShape.hasAll [] args [.list .int]=true:=(pre_splitW je).1;let hc:l.pre.holds [] { args:=args}=true:=(pre_splitW je).2;let⟨d,r,rfl,h1,h2⟩:=hasAllW_cons hsh;obtain rfl:=hasAllW_nil h2;let⟨xs,rfl,h3⟩:=hasW_list h1;let⟨ns,rfl⟩:=items_int h3;let hlen:ns.length<=n:=by
  unfold OpenLaw.pre at hc;let h4:(WTm.not (.lt (.lit (.int (n:Int))) (.len (.arg 0)))).holds [] { args:=[.list (ns.map .int)]}=true:=by let h4:=(holds_andW hc).1;rw[hn]at h4;show h4
  let h5:=condW_of h4 (w_not (w_lt w_lit (w_len_list (w_arg rfl))));rw[XR]at h5;refine Nat.le_of_not_lt λq=>?_;let q':(n:Int)<((ns.length:Nat):Int):=⋯
  first
   |(rw[decide_eq_true q']at h5;show absurd h5 nofun)
   |(simp at h5;omega)
 cases ue with
 |cons w1 w2=>
  cases w2
  cases w1 with
  |list ho hall=>exact⟨_,_,ns,rfl,rfl,ho,yJ ns _ hall,hlen⟩
theorem Ip(l:OpenLaw)(args:ve WData):l.row.toRowW.claim.post args (.bool true) args=true:=
 postW_of (r:=l.row.toRowW) (X:=(true == true))
  (show WShape.has [] (.bool true) .bool=true by first|rfl|decide|simp[WShape.has,WShape.arms,WShape.armsAll])
  (show(WTm.eq .res (.lit (.bool true))).value [] { args:=args,res:=a_ (.bool true),after:=args}=a_ (.bool (true == true)) from w_eq_bool (w_res rfl) w_lit) rfl
variable{XP:(ke 0)->r_->Prop}{YP:s_->r_->Prop}{loose:ve Str}
theorem attach_call{q:td}{d:DefRec}(hn:l.most=a_ n)(qi:d.params.defaults=[])(call:∀(w:s_)(s₀ s₁:oa)(mg mb:ke 0)(fa:o_)(o:Obj)(pm cd doc:n_)(a:o_)(vs:ve n_)(ns:ve Int),
   Ground q loose [] XP w s₀ mg mb s₁.heap->YP w s₁.heap->
   s₁.heap.get? fa=a_ o->o.data=.func (docDef d.name d.params d.body d.scope pm cd doc)->s₁.heap.CodeRec cd d.name->mg d.name=cu fa->
   s₁.heap.get? a=a_ {cls:=.type "list",data:=.seq vs.toArray}->IntsAre vs ns->ns.length<=n->s₁.gens=#[]->
   codeAny (model l.prog w) callerA (.call (.ref fa) ⟨[.ref a],[]⟩) (λr s'=>r=.ok (.ret (.bool true))/\OldK s₁.heap s'.heap/\s'.os=s₁.os/\AllBare s'.gens) s₁):
  WalkO q loose XP YP l.row.toRowW d [] (λf vs=>PySem.call f vs):=by
 intro w s₀ s₁ mg mb G Y fa o pm cd doc dV kV ho hd fb hD hmg hg args vals as je hlay hrd ue hlo;obtain rfl:dV=.none:=Dflts.none hD qi;obtain rfl:kV=.none:=Dflts.noKw hD;let⟨a,vs,ns,rfl,rfl,ku,hints,hlen⟩:=Im hn je ue;refine enter_call (y12 (call w s₀ s₁ mg mb fa o pm cd doc a vs ns G Y ho (fd_plain hd) fb hmg ku hints hlen hg) λr s' hq=>?_);let⟨rfl,h2,h3,h4⟩:=hq;show⟨.inl ⟨.bool true,.bool true,[],rfl,λ_=>rfl,.bool true,Ip l _,λ_=>⟨ZE,λ_ hm=>(nomatch hm)⟩⟩,h2,h3,h4⟩
end Att
namespace L2
theorem BD:∀{vs:ve n_}{ns:ve Int},IntsAre vs ns->aW (ns.map V.int) vs
 |_,_,.nil=>.nil
 |_,_,.cons n t h=>.cons ⟨t,rfl⟩ (BD h)
def K3(H:Hp):Prop:=∀b,H b=b_\/∃o xs,H b=a_ (.frz o (.lst xs))
variable{CX:CXT}{K:XQ}{P:td}{a:o_}{fd:YK}{mg:ke 0}{sp:Sp}{s₁:oa}{vs:ve n_}{w:s_}{x:Str}
theorem K4{mb:ke 0}{k:Nat}{fa:o_}{ns:ve Int}(KX:K.In s₁.heap)(yr:s₁.heap.Ns Zt mg)(hb:s₁.heap.Ns builtinsNs mb)(VY:∀x:Str,x≠"__name__" -> mb x=y09 x)(t7:s₁.heap.NoLimit)(hg:s₁.gens=#[])(ha:s₁.heap.get? a=a_ {cls:=.type "list",data:=.seq vs.toArray})(hi:IntsAre vs ns)(hl:ns.length<=X5)(hr:iL k callerA)(F:∀base:r_,K.In base->base.Ns Zt mg->bD P w K mg base CX k fa fd [x] sp)(ph:∀(s:oa)(u:n_),BindsTo s fd ⟨[u],[]⟩ [(x,u)])(jt:∀H:Hp,K3 H->q0S a (ns.map V.int)->sp [.ref a] H (λv _=>v=.bl true) λ_ _ _=>False)(uk:∀H e s',CX [] H s₁ (λ_ _ _=>False) e s'->False):
  codeAny (model P w) callerA (.call (.ref fa) ⟨[.ref a],[]⟩) (λr s'=>r=.ok (.ret (.bool true))/\OldK s₁.heap s'.heap/\s'.os=s₁.os/\AllBare s'.gens) s₁:=by
 let rv:=BD hi;let vg:=hi.length
 -- from an abstract heap in which nothing but the script may be tracked
 let core:∀H:Hp,K3 H->q0S a (ns.map V.int)->q1p s₁.heap->(∀b,H b≠b_->b=a)->(H a≠b_->K.lookup a=b_)->
   codeAny (model P w) callerA (.call (.ref fa) ⟨[.ref a],[]⟩) (λr s'=>r=.ok (.ret (.bool true))/\OldK s₁.heap s'.heap/\s'.os=s₁.os/\AllBare s'.gens) s₁:=by
  intro H hO hS hok hA hK;let dt:∀{b:o_}{o:Obj},s₁.heap.get? b=a_ o->H b=b_->(C9 s₁.heap H).get? b=a_ o:=λe n=>JG e n;let p9:∀{b:o_}{o:Obj}{es:Array y0o}{ep:Nat},s₁.heap.get? b=a_ o->o.data=.dict es ep->H b=b_:=λ{b o es ep} e d=>by
   cases q:H b with
   |none=>rfl
   |some u=>have e':b=a:=hA b (by rw[q];simp);subst e';rw[ha]at e;cases e;let d':Data.seq vs.toArray _=Data.dict es ep:=d;cases d'
  let sy:∀{b:o_}{m:ke 0},s₁.heap.Ns b m->(C9 s₁.heap H).Ns b m:=λ{b m} ⟨o,es,ep,e,d,r⟩=>⟨o,es,ep,dt e (p9 e d),d,r⟩;let zo:K.In (C9 s₁.heap H):=λb o e=>dt (KX b o e) (by
   cases q:H b with
   |none=>rfl
   |some u=>have e':b=a:=hA b (by rw[q];simp);subst e';rw[hK (by rw[q];simp)]at e;cases e)
  let hM:Mod K mg (C9 s₁.heap H):=⟨zo,sy yr,⟨mb,sy hb,VY⟩,let ⟨mc,h1,h2⟩:=t7;⟨mc,sy h1,h2⟩⟩;let e0:B3 P w K mg (C9 s₁.heap H) callerA [] s₁ H:=⟨rfl,hM,λb o e=>Nb e,Nat.le_of_eq (Ia _ _),trivial,λb hb=>absurd (show b∈([]:ve o_) from hb) (by simp),hok,.of_eq hg⟩
  refine y12 ((F _ zo (sy yr)).run callerA [] s₁ H ⟨[.ref a],[]⟩ [.ref a] [.ref a] _ _ hr e0 (ph s₁ (.ref a)) (.cons rfl .nil) (jt H hO hS)) λr s' h=>?_;cases r with
  |error e=>exact(uk H e s' h).elim
  |ok fl=>
   cases fl with
   |next=>exact Z1 h
   |brk=>exact Z1 h
   |cont=>exact Z1 h
   |ret u=>
    let⟨v,H',os,bare,un,u6,r',q⟩:=h;let q':v=.bl true:=q;subst q';obtain rfl:u=Value.bool true:=r';refine⟨rfl,OldK.of_keep λb o e=>?_,os,bare⟩;cases q:H b with
    |none=>exact un.keep b o e q (by intro z;show absurd (show b∈([]:ve o_) from z) (by simp)) (by simp)
    |some u=>
     rcases hO b with z|⟨ob,xs,z⟩
     ·rw[q]at z;cases z
     ·let z2:=un.frzs b ob _ z;let⟨e1,_⟩:=hok b _ z;let⟨e2,_⟩:=u6 b _ z2;rw[e]at e1;cases e1;show e2
 cases hk:K.lookup a with
 |some o=>
  -- the script is one of the module's own objects
  let e:=KX a o hk;rw[ha]at e;cases e
  refine core (λ_=>b_) (λ_=>.inl rfl) (.inr ⟨_,vs.toArray,_,hk,rfl,rfl,rfl,by rw[X3,vg];show hl,i_ rv⟩) (λb u z=>by let z':(b_:v_ HO)=a_ u:=z;cases z') (λb z=>absurd rfl z) λz=>absurd rfl z
 |none=>
  refine core (λb=>if b=a then a_ (.frz {cls:=.type "list",data:=.seq vs.toArray} (.lst (ns.map V.int))) else b_) (λb=>?_) (.inl (.inr ⟨{cls:=.type "list",data:=.seq vs.toArray},q0s 0⟩)) (λb u z=>?_) (λb z=>?_) λ_=>hk
  ·by_cases hb:b=a
   ·show .inr ⟨_,_,if_pos hb⟩
   ·show .inl (if_neg hb)
  ·by_cases hb:b=a
   ·let z':=(if_pos hb).symm.trans z;cases z'
    subst hb;show⟨ha,by rw[XR];show hl,vs,_,rv,ha⟩
   ·let z':=(if_neg hb).symm.trans z;cases z'
  ·by_cases hb:b=a
   ·show hb
   ·show absurd (if_neg hb) z
variable{XP:(ke 0)->r_->Prop}{YP:s_->r_->Prop}{loose:ve Str}{n:Nat}
theorem walk_of{l:PySem.W.OpenLaw}{k:Nat}{q:td}{d:DefRec}{K:Params->XQ}{CX:s_->CXT}{sp:s_->Sp}(hn:l.most=a_ n)(rm:n<=X5)(qi:d.params.defaults=[])(hr:iL k callerA)(hY:∀(w:s_)(h:r_),YP w h->(K w.params).In h)(F:∀(w:s_)(mg:ke 0)(fa:o_)(h:r_),(K w.params).In h->h.Ns Zt mg->mg d.name=cu fa->
   ∃fd:YK,(∀(s:oa)(u:n_),BindsTo s fd ⟨[u],[]⟩ [(x,u)])/\
    ∀base:r_,(K w.params).In base->base.Ns Zt mg->bD l.prog w (K w.params) mg base (CX w) k fa fd [x] (sp w))(jt:∀(w:s_)(H:Hp)(a:o_)(ns:ve Int),ns.length<=n->K3 H->SqL (K w.params) H a (ns.map V.int)->sp w [.ref a] H (λv _=>v=.bl true) λ_ _ _=>False)(uk:∀(w:s_)(H:Hp)(s:oa)(e:n_)(s':oa),CX w [] H s (λ_ _ _=>False) e s'->False):
  PySem.W.WalkO q loose XP YP l.row.toRowW d [] (λf vs=>PySem.call f vs):=by
 refine Att.attach_call hn qi λw s₀ s₁ mg mb fa o pm cd doc a vs ns G Y ho hd fb hmg ku hints hlen hg=>?_;let KX:=hY w _ Y;let⟨fd,hb,hF⟩:=F w mg fa _ KX G.T.g hmg;show K4 KX G.T.g G.T.b G.T.builtins G.T.nolimit hg ku hints (Y9 hlen rm) hr hF hb (λH hO hS=>jt w H a ns hlen hO hS) λH e s'=>uk w H s₁ e s'
def inClass(s:u_)(j:Nat):u_:=match s with
 |.ClassDef _ _ _ body _ _ _ _ _ _ _=>body.getD j (.Pass ⟨0,0,0,0⟩)
 |_=>.Pass ⟨0,0,0,0⟩
def hZ(s:u_):Arguments:=match s with
 |.FunctionDef _ a _ _ _ _ _ _ _ _=>a
 |_=>{ posonlyargs:=[],args:=[],vararg:=b_,kwonlyargs:=[],kw_defaults:=[],kwarg:=b_,defaults:=[]}
def fL(s:u_):ve u_:=match s with
 |.FunctionDef _ _ b _ _ _ _ _ _ _=>b
 |_=>[]
def aL(s:u_):Scope:=match s with
 |.FunctionDef _ _ _ _ _ _ sc _ _ _=>sc
 |_=>{ kind:=.function,names:=[],isGenerator:=false,isCoroutine:=false}
abbrev CX0:CXT:=λ_ _ _ _ _ _=>False
abbrev E0:XK:=λ_ _ _=>False
variable{X:Cx}
theorem GZ:zQ CX0 X E0:=λ_ _ _ _ _ _ _ h=>h.elim
structure Fun(K:XQ)(x qual:Str)(st:u_)(f:o_)(fd:YK):Prop where
 ex:∃(oc:n_)(od:v_ o_)(kV doc pm:n_)(an:v_ o_)(cdv ct:n_)(osl:j_ 0),
  fd=ZX x qual (hZ st) (fL st) (aL st) .none kV doc pm an cdv ct/\K.lookup f=some ⟨oc,od,.func fd,osl⟩/\y1Q K cdv qual=true
 kp:ZH K (.ref f)=true
variable{N ps:ve Str}{base:r_}{qual:Str}
theorem Fun.ok{st:u_}{f:o_}{k:Nat}(F:Fun K x qual st f fd)(S:aX N ps (aL st))(len:∀vs H Q E,sp vs H Q E->vs.length=ps.length)(gx:∀(cdv:n_)(A:q_)(outer:ve Env)(s:oa)(H:Hp)(vs:ve V)(Q:VK)(E:XK),iL k (A.deeper (envOfC qual (aL st) (c_ s) f cdv))->sp vs H Q E->
   ∃t,PSs (FI CX0 P w K mg base N qual (aL st) f cdv A outer s H E).nox (fL st) t/\t { nx:=λ_ H'=>Q .non H',rt:=Q} (start N vs) H):m_ (k+1) f fd ps sp:=by
 let⟨oc,od,kV,doc,pm,an,cdv,ct,osl,rfl,lk,fb⟩:=F.ex;refine SL lk fb S len λA outer s H vs Q E hr jt=>?_;let⟨t,h,q⟩:=gx cdv A outer s H vs Q E hr jt;show⟨t,h.nox,q⟩
theorem Fun.binds{st:u_}{f:o_}(F:Fun K x qual st f fd)(h:∀(kV doc pm:n_)(an:v_ o_)(cdv ct:n_)(us:ve n_),us.length=ps.length->bindArgs (ZX x qual (hZ st) (fL st) (aL st) .none kV doc pm an cdv ct) ⟨us,[]⟩=pure (ps.zip us)):Binds K fd ps []:=by let⟨oc,od,kV,doc,pm,an,cdv,ct,osl,rfl,lk,fb⟩:=F.ex;show .all (h kV doc pm an cdv ct)
variable{an od:v_ o_}{cdv ct doc pm:n_}{osl:j_ 0}
theorem zS{st:u_}{f:o_}{oc:n_}{kV:n_}(l:K.lookup f=a_ ⟨oc,od,.func (ZX x qual (hZ st) (fL st) (aL st) .none kV doc pm an cdv ct),osl⟩)(c:y1Q K cdv qual=true)(k:ZH K (.ref f)=true):Fun K x qual st f (ZX x qual (hZ st) (fL st) (aL st) .none kV doc pm an cdv ct):=⟨⟨oc,od,kV,doc,pm,an,cdv,ct,osl,rfl,l,c⟩,k⟩
variable{A:q_}
theorem SV{k:Nat}(hr:iL k A):A.units+1<cLine:=Nat.lt_of_le_of_lt (Nat.add_le_add_left (by decide:1<=64) _) hr.units
variable{B:Prop}
theorem Iq{A:Prop}(h:B):if false=true then A else B:=by rw[if_neg Yg];show h
theorem Ir{A:Prop}(h:A):if true=true then A else B:=by rw[q0s 0];show h
def zT(H H':Hp):Prop:=∀b o,H b=a_ o->H' b=a_ o
variable{u:n_}
section
variable{κ:Type}[DecidableEq κ]
def nI(kvs:ve (κ×V))(k:κ):v_ V:=(kvs.find? λkv=>decide (kv.1=k)).map (·.2)
def putK(kvs:ve (κ×V))(k:κ)(v:V):ve (κ×V):=if(kvs.any λkv=>decide (kv.1=k))=true then kvs.map (λkv=>if kv.1=k then(kv.1,v) else kv) else kvs++[(k,v)]
theorem tR{p:κ×V}{r:ve (κ×V)}{k:κ}(e:p.1=k):nI (p::r) k=a_ p.2:=by simp[nI,y0H,e]
theorem tS{p:κ×V}{r:ve (κ×V)}{k:κ}(e:¬ p.1=k):nI (p::r) k=nI r k:=by simp[nI,y0H,e]
theorem zV(k:κ):∀kvs:ve (κ×V),(kvs.any λkv=>decide (kv.1=k))=(nI kvs k).isSome
 |[]=>rfl
 |p::r=>by
  rw[y1d];by_cases e:p.1=k
  ·simp only[tR e,decide_eq_true e,Bool.true_or,Option.isSome_some]
  ·rw[tS e,decide_eq_false e,Bool.false_or];show zV k r
theorem qC(kvs:ve (κ×V))(k:κ)(v:V):(putK kvs k v).length<=kvs.length+1:=by
 unfold putK;split
 ·rw[XR];omega
 ·rw[X6,YM,List.length_nil];omega
theorem rT.isSome_eq{o:v_ V}{u:v_ n_}(r:rT o u):o.isSome=u.isSome:=by
 cases o with
 |none=>cases u with
  |none=>rfl
  |some _=>exact(show False from r).elim
 |some _=>cases u with
  |none=>exact(show False from r).elim
  |some _=>rfl
theorem KV.val{kvs:ve (κ×V)}{vs:ve (κ×n_)}(r:KV kvs vs)(k:κ):rT (nI kvs k) (valueAt vs k):=by
 unfold KV at r
 induction r with
 |nil=>exact y0N
 | @cons p q ps qs h t ih=>
  let⟨h1,h2⟩:=h;by_cases e:p.1=k
  ·let e':q.1=k:=h1.symm.trans e;let b:valueAt (q::qs) k=a_ q.2:=by simp[valueAt,y0H,e']
   rw[tR e,b];show h2
  ·let e':¬ q.1=k:=λz=>e (h1.trans z);let b:valueAt (q::qs) k=valueAt qs k:=by simp[valueAt,y0H,e']
   rw[tS e,b];show ih
theorem KV.any{kvs:ve (κ×V)}{vs:ve (κ×n_)}(r:KV kvs vs)(k:κ):(kvs.any λkv=>decide (kv.1=k))=vs.any λkv=>decide (kv.1=k):=by
 unfold KV at r
 induction r with
 |nil=>rfl
 |cons h t ih=>rw[y1d,y1d,ih,h.1]
theorem KV.repl{kvs:ve (κ×V)}{vs:ve (κ×n_)}(r:KV kvs vs)(k:κ){y:V}(ry:RelV y u):
  KV (kvs.map λkv=>if kv.1=k then(kv.1,y) else kv) (vs.map λkv=>if kv.1=k then(kv.1,u) else kv):=by
 unfold KV at r⊢
 induction r with
 |nil=>exact .nil
 | @cons p q ps qs h t ih=>
  rw[YA,YA];refine .cons ?_ ih;let⟨h1,h2⟩:=h;by_cases e:p.1=k
  ·rw[if_pos e,if_pos (h1.symm.trans e)];show⟨h1,ry⟩
  ·rw[if_neg e,if_neg (λz=>e (h1.trans z))];show⟨h1,h2⟩
theorem KV.put{kvs:ve (κ×V)}{vs:ve (κ×n_)}(r:KV kvs vs)(k:κ){y:V}(ry:RelV y u):KV (putK kvs k y) (stored vs k u):=by
 unfold putK stored;rw[r.any k];by_cases e:(vs.any λkv=>decide (kv.1=k))=true
 ·rw[if_pos e,if_pos e];show r.repl k ry
 ·rw[if_neg e,if_neg e];show Paired.snoc r ⟨rfl,ry⟩
theorem KV.length{kvs:ve (κ×V)}{vs:ve (κ×n_)}(r:KV kvs vs):kvs.length=vs.length:=YV r
end
theorem BE{k:Key}(r:RelV (kV k) u):(dY P w).is k u=true:=by
 cases k with
 |inl i=>let⟨t,e⟩:=(show ∃t,u=Value.int i t from r);subst e;show DF P w i t
 |inr x=>let⟨t,e⟩:=(show ∃t,u=y1h x t from r);subst e;show DG P w x t
theorem BF{P:td}{w:s_}:∀{ks:ve Key}{us:ve n_},aW (ks.map kV) us->ItemsAre (dY P w) ks us
 |[],_,r=>by rw[y1b]at r;cases r;show .nil
 |k::ks,_,r=>by
  rw[YA]at r;cases r with
  |cons h t=>exact .cons (BE h) (BF t)
abbrev KT(H:Hp):ve (ve Key×V)->ve (ve Key×o_×n_)->Prop:=Paired λp q=>p.1=q.1/\H q.2.1=a_ (.tup (p.1.map kV))/\RelV p.2 q.2.2
variable{H:Hp}
theorem KT.val{kvs:ve (ve Key×V)}{xs:ve (ve Key×o_×n_)}(r:KT H kvs xs)(k:ve Key):rT (nI kvs k) ((q1g k).map (·.2)):=by
 induction r with
 |nil=>exact y0N
 | @cons p q ps qs h t ih=>
  let⟨h1,_,h2⟩:=h;by_cases e:p.1=k
  ·let e':q.1=k:=h1.symm.trans e;let b:atKey (q::qs) k=a_ q.2:=by simp[atKey,y0H,e']
   rw[tR e,b];show h2
  ·let e':¬ q.1=k:=λz=>e (h1.trans z);let b:atKey (q::qs) k=atKey qs k:=by simp[atKey,y0H,e']
   rw[tS e,b];show ih
theorem KT.repl{kvs:ve (ve Key×V)}{xs:ve (ve Key×o_×n_)}(r:KT H kvs xs)(k:ve Key){y:V}(ry:RelV y u):
  KT H (kvs.map λkv=>if kv.1=k then(kv.1,y) else kv) (xs.map (putAt k u)):=by
 induction r with
 |nil=>exact .nil
 | @cons p q ps qs h t ih=>
  rw[YA,YA];refine .cons ?_ ih;let⟨h1,h2,h3⟩:=h;unfold putAt;by_cases e:p.1=k
  ·rw[if_pos e,if_pos (h1.symm.trans e)];show⟨h1,h2,ry⟩
  ·rw[if_neg e,if_neg (λz=>e (h1.trans z))];show⟨h1,h2,h3⟩
theorem KT.put{kvs:ve (ve Key×V)}{xs:ve (ve Key×o_×n_)}(r:KT H kvs xs)(k:ve Key){b:o_}{y:V}(hb:H b=a_ (.tup (k.map kV)))(ry:RelV y u):
  KT H (putK kvs k y) (storedH xs k b u):=by
 let e:(kvs.any λkv=>decide (kv.1=k))=(q1g k).isSome:=by rw[zV,(r.val k).isSome_eq,Option.isSome_map]
 unfold putK storedH;rw[e];by_cases q:(q1g k).isSome=true
 ·rw[if_pos q,if_pos q];show r.repl k ry
 ·rw[if_neg q,if_neg q];show Paired.snoc r ⟨rfl,hb,ry⟩
variable{H':Hp}
theorem KT.keeps{kvs:ve (ve Key×V)}{xs:ve (ve Key×o_×n_)}(r:KT H kvs xs)(ht:∀b ys,H b=a_ (.tup ys)->H' b=a_ (.tup ys)):KT H' kvs xs:=Paired.mapP r λ_ _ z=>⟨z.1,ht _ _ z.2.1,z.2.2⟩
theorem Pw{h:r_}{u:HO}(ok:q1p h)(e:Rd H a u):dZ P w H h a u:=e.ok ok
theorem BG{h:r_}{kvs:ve (Key×V)}(ok:q1p h)(e:Rd H a (.dK kvs)):kvs.length<=X5/\(a == Zf)=false/\∃vs,KV kvs vs/\h.DictOf (dY P w) a vs:=show dZ P w H h a (.dK kvs) from Pw ok e
theorem BH{h:r_}{kvs:ve (Key×V)}(ok:q1p h)(e:H a=a_ (.dK kvs)):kvs.length<=X5/\(a == Zf)=false/\∃vs,KV kvs vs/\h.DictOf (dY P w) a vs:=BG ok (.inl e)
theorem zW{h:r_}{ks:ve Key}(ok:q1p h)(e:H a=a_ (.tup (ks.map kV))):(tupleKind (dY P w)).is h ks a:=by
 let⟨_,its,r,o,h1,h2,⟨n,h3⟩,_⟩:=(show dZ P w H h a (.tup (ks.map kV)) from ok a _ e)
 show⟨o,its.toArray,n,h1,h2,h3,by simpa using BF r⟩
theorem DQ{h:r_}{kvs:ve (ve Key×V)}(ok:q1p h)(e:Rd H a (.dT kvs)):kvs.length<=X5/\(a == Zf)=false/\
  ∃xs,KT H kvs xs/\h.DictOfH (tupleKind (dY P w)) a xs:=by
 let⟨z,y,xs,r,o,es,ep,h1,h2,h3,h4,h5⟩:=(show dZ P w H h a (.dT kvs) from Pw ok e)
 refine⟨z,y,xs,r,o,es,ep,h1,h2,h3,h4,λx hx=>?_,h5⟩;let all:∀{l:ve (ve Key×V)}{m:ve (ve Key×o_×n_)},KT H l m->∀x∈m,(tupleKind (dY P w)).is h x.1 x.2.1:=by
  intro l m q
  induction q with
  |nil=>intro x hx;show nomatch hx
  | @cons p q ps qs hq t ih=>
   intro x hx;rcases Yf.mp hx with e|hx
   ·subst e;show zW ok (by rw[<-hq.1];show hq.2.1)
   ·show ih x hx
 show all r x hx
theorem SX{h:r_}{kvs:ve (ve Key×V)}(ok:q1p h)(e:H a=a_ (.dT kvs)):kvs.length<=X5/\(a == Zf)=false/\
  ∃xs,KT H kvs xs/\h.DictOfH (tupleKind (dY P w)) a xs:=DQ ok (.inl e)
def vQ(H:Hp)(a:o_)(y:V)(r:v_ V):Prop:=(∃kvs k,Rd H a (.dK kvs)/\y=kV k/\r=nI kvs k)\/∃kvs k b,Rd H a (.dT kvs)/\y=.ref b/\H b=a_ (.tup (k.map kV))/\r=nI kvs k
def QJ(H:Hp)(a:o_)(y v:V)(H':Hp):Prop:=
 (∃kvs k,H a=a_ (.dK kvs)/\y=kV k/\kvs.length<X5/\H'=q0r a (.dK (putK kvs k v)))\/
 ∃kvs k b,H a=a_ (.dT kvs)/\y=.ref b/\H b=a_ (.tup (k.map kV))/\kvs.length<X5/\H'=q0r a (.dT (putK kvs k v))
theorem vQ.k{H:Hp}{a:o_}{kvs:ve (Key×V)}{k:Key}(e:H a=a_ (.dK kvs)):vQ H a (kV k) (nI kvs k):=.inl ⟨kvs,k,.inl e,rfl,rfl⟩
theorem QJ.k{H:Hp}{a:o_}{kvs:ve (Key×V)}{k:Key}{v:V}(e:H a=a_ (.dK kvs))(hl:kvs.length<X5):QJ H a (kV k) v (q0r a (.dK (putK kvs k v))):=.inl ⟨kvs,k,e,rfl,hl,rfl⟩
variable{FR:e_ 0}{s:oa}{E Q:d_ 0}{h':r_}{t':Nat}
section
variable{σ:St}{y v:V}{r:n_}{o:v_ V}
theorem Inv.big(I:P_ s):Zf<(c_ s):=by let h:Zt<(c_ s):=(I.mod.glob.keeps I.bk).lt;show Nat.lt_trans nofun h
theorem Iu(hu:A.units+1<cLine)(I:P_ s)(g:vQ H a y (a_ v))(ry:RelV y u)(h:∀w' s',P_ s'->RelV v w'->Q w' s'):
  wpAny (fI X) A (getItem (.ref a) u) Q E s:=by
 rcases g with⟨kvs,k,e,ey,l⟩|⟨kvs,k,b,e,ey,eb,l⟩
 ·subst ey;let⟨z,hd,vs,rel,dd⟩:=BG I.hok e;let⟨w',hw,cf⟩:=rT.some_of (v:=v) (o:=valueAt vs k) (by rw[l];show rel.val k);show wpAny_getItem_of (BE ry) dd.mapOf hw (h w' _ (I.tok _) cf)
 ·subst ey;cases(show u=YH b from ry)
  let⟨z,hd,xs,rel,dd⟩:=DQ I.hok e;let⟨w',hw,cf⟩:=rT.some_of (v:=v) (o:=(q1g k).map (·.2)) (by rw[l];show rel.val k);let⟨p,hp,wo⟩:=Yo.mp hw;refine wpAny_getItem_heap (tupleKind_room_in1 hu) (zW I.hok eb) dd hp ?_;rw[wo];show h w' _ (I.tok _) cf
theorem Va(hu:A.units+1<cLine)(I:P_ s)(g:vQ H a y o)(ry:RelV y u)(h:∀s',P_ s'->Q (.bool o.isSome) s'):
  wpAny (fI X) A (YD .In u (.ref a)) Q E s:=by
 rcases g with⟨kvs,k,e,ey,l⟩|⟨kvs,k,b,e,ey,eb,l⟩
 ·subst ey;let⟨z,hd,vs,rel,dd⟩:=BG I.hok e;refine wpAny_in_of (BE ry) hd dd.mapOf ?_;rw[<-(rel.val k).isSome_eq,<-l];show h _ (I.tok _)
 ·subst ey;cases(show u=YH b from ry)
  let⟨z,hd,xs,rel,dd⟩:=DQ I.hok e;refine wpAny_in_heap (tupleKind_room_in1 hu) (zW I.hok eb) hd dd ?_;let q:=(rel.val k).isSome_eq;rw[Option.isSome_map]at q;rw[<-q,<-l];show h _ (I.tok _)
theorem Nz(hu:A.units+1<cLine)(I:P_ s)(g:vQ H a y o)(ry:RelV y u)(h:∀s',P_ s'->Q (.bool (!o.isSome)) s'):
  wpAny (fI X) A (YD .NotIn u (.ref a)) Q E s:=by
 rcases g with⟨kvs,k,e,ey,l⟩|⟨kvs,k,b,e,ey,eb,l⟩
 ·subst ey;let⟨z,hd,vs,rel,dd⟩:=BG I.hok e;refine wpAny_notIn_of (BE ry) hd dd.mapOf ?_;rw[<-(rel.val k).isSome_eq,<-l];show h _ (I.tok _)
 ·subst ey;cases(show u=YH b from ry)
  let⟨z,hd,xs,rel,dd⟩:=DQ I.hok e;refine wpAny_notIn_heap (tupleKind_room_in1 hu) (zW I.hok eb) hd dd ?_;let q:=(rel.val k).isSome_eq;rw[Option.isSome_map]at q;rw[<-q,<-l];show h _ (I.tok _)
theorem rB{ob:HO}(I:P_ s)(mu:Mut (H a))(hs:Zv a s.heap h')(he:∃q,h'.get? a=a_ q)(new:dZ X.prog X.w (q0r a ob) h' a ob):
  f_ (q0r a ob) {s with heap:=h',toks:=t'}:=
 I.write (x:=a) (e:=a) mu (.inl rfl) (λb q hb z=>(hs.2 b hb).trans z) he new
theorem K5{kvs:ve (Key×V)}{vs:ve (Key×n_)}(z:kvs.length<=X5)(hd:(a == Zf)=false)(rel:KV kvs vs)(dd:h'.DictOf (dY P w) a vs):
  dZ P w H' h' a (.dK kvs):=⟨z,hd,vs,rel,dd⟩
theorem Iv{Q:g_ Unit}(hu:A.units+1<cLine)(I:P_ s)(g:QJ H a y v H')(ry:RelV y u)(rv:RelV v r)(h:∀s',f_ H' s'->Q () s'):
  wpAny (fI X) A (setItem (.ref a) u r) Q E s:=by
 rcases g with⟨kvs,k,e,ey,l,eH⟩|⟨kvs,k,b,e,ey,eb,l,eH⟩
 ·subst ey eH;let⟨z,hd,vs,rel,dd⟩:=BH I.hok e;let hz:vs.length<=X5:=by rw[<-rel.length];show z
  let hl:(putK kvs k v).length<=X5:=by have:=qC kvs k v;omega
  refine wpAny_setItem_pairs (hsz:=hz) (BE ry) dd λh' fe hs=>h _ ?_;let he:∃q,h'.get? a=a_ q:=let ⟨q,_,_,hq,_⟩:=fe;⟨q,hq⟩;show rB I (by rw[e];show y0N) hs he (K5 hl hd (rel.put k rv) fe)
 ·subst ey eH;cases(show u=YH b from ry)
  let⟨z,hd,xs,rel,dd⟩:=SX I.hok e;let hz:xs.length<=X5:=by rw[<-YV rel];show z
  let hl:(putK kvs k v).length<=X5:=by have:=qC kvs k v;omega
  refine wpAny_setItem_heap (hsz:=hz) (tupleKind_room_in1 hu) (zW I.hok eb) dd λh' fe hs=>h _ ?_;let⟨q,es,ep,hq,h2,h3,h4,_,h5⟩:=fe;refine rB I (by rw[e];show y0N) hs ⟨q,hq⟩ ⟨hl,hd,_,(rel.put k eb rv).keeps λc ys ec=>?_,q,es,ep,hq,h2,h3,h4,h5⟩;rw[aS (Sr ec e (λz=>nomatch z))];show ec
end
section
variable{σ:St}{kvs:ve (Key×V)}{k:Key}
theorem SY(I:P_ s)(e:Rd H a (.dK kvs))(h:∀t s',P_ s'->Q (.int kvs.length t) s'):wpAny (fI X) A (call (.builtin "len") [.ref a]) Q E s:=by let⟨z,hd,vs,rel,dd⟩:=BG I.hok e;refine call_len_dict hd dd (by rw[<-rel.length];rw[YL]at z;omega) ?_;rw[<-rel.length];show h _ _ (I.tok _)
end
theorem DR{σ:St}{y:V}{o:v_ V}(I:P_ s)(g:vQ H a y o):s.TypeIs (.ref a) "dict" := by
 rcases g with⟨kvs,k,e,_,_⟩|⟨kvs,k,b,e,_,_,_⟩
 ·let⟨_,_,vs,_,dd⟩:=BG I.hok e;show dd.typeIs
 ·let⟨_,_,xs,_,dd⟩:=DQ I.hok e;show dd.typeIs
theorem K6(h:r_)(hb:Zf<h.objs.size):dZ P w H (h.push {cls:=.type "dict",data:=.dict #[]}) h.objs.size (.dK []):=⟨YE _,beq_eq_false_iff_ne.mpr (ZK (Yj hb)),[],.nil,Heap.DictOf.new h⟩
def QK:TE:=λ_ H Q=>∀p,H p=b_->Q (.ref p) (q0r p (.dK []))
variable{pos:Pos}
theorem K7:PE X (.Dict [] [] pos) QK:=λFR s σ H Q I h=>wpAny_Dict_empty ⟨.ref (c_ s),_,I.laid (a:=(c_ s)) (o:=.dK []) (t':=s.toks) (λ_ _ q=>XO _ q) (X1 _) (K6 s.heap I.big),rfl,h _ (I.hok.fresh (X1 _))⟩
theorem Iw:dJ X (.builtin "len") (λxs H Q=>∃a kvs,xs=[V.ref a]/\H a=a_ (.dK kvs)/\Q (.int kvs.length) H):=by
 intro FR s σ H xs us Q I r h;let⟨a,kvs,rfl,ha,q⟩:=h;let⟨u,rfl,ru⟩:=vals1 r;cases ru
 show SY I (.inl ha) λt s' I'=>⟨.int kvs.length,H,I',⟨t,rfl⟩,q⟩
def cU:Bool->Keyed->w_ 0->Nat->Nat->Nat->A_ (v_ Nat):=sortPriv% PySem.Builtin.gallop
def iA(left:Bool)(key:Keyed)(arr:w_ 0)(base i:Nat):A_ (v_ Bool):=do
  let x <-elem' arr (base+i)
  if left then lt' x key else return(<-lt' key x).map (!·)
def Ck(left:Bool)(key:Keyed)(arr:w_ 0)(base n lo hi:Nat):A_ (v_ Nat):=do
 let mut lo:=lo
 let mut hi:=hi
 for _ in [0:n] do
  if lo >= hi then break
  let m:=lo+(hi-lo)/2
  let a_ more <-q1n m|return b_
  if more then lo:=m+1 else hi:=m
 return a_ hi
def Px(left:Bool)(key:Keyed)(arr:w_ 0)(base n hint:Nat):A_ (v_ Nat):=do
 let mut lastofs:=0
 let mut ofs:=1
 let bp:=n-hint
 for _ in [0:n] do
  if ofs >= bp then break
  let a_ more <-q1n (hint+ofs)|return b_
  if !more then break
  lastofs:=ofs
  ofs:=2*ofs+1
 Ck left key arr base n (hint+lastofs+1) (hint+min ofs bp)
def Py(left:Bool)(key:Keyed)(arr:w_ 0)(base n hint:Nat):A_ (v_ Nat):=do
 let mut lastofs:=0
 let mut ofs:=1
 let bp:=hint+1
 for _ in [0:n] do
  if ofs >= bp then break
  let a_ found <-q1n (hint-ofs)|return b_
  if found then break
  lastofs:=ofs
  ofs:=2*ofs+1
 Ck left key arr base n (hint+1-min ofs bp) (hint-lastofs)
theorem FM(left:Bool)(key:Keyed)(arr:w_ 0)(base n hint:Nat):cU left key arr base n hint=(do
 let a_ right <-q1n hint|return b_
 if right then Px left key arr base n hint else Py left key arr base n hint):=rfl
variable{M:Model}{bey:Nat->Bool}{left:Bool}{st:SortSt}{hint:Nat}
section
variable{key:Keyed}{arr:w_ 0}{base:Nat}{Q:v_ Nat->SortSt->Prop}
theorem iO{lo hi:Nat}(hb:∀i,i<n->∀Q':v_ Bool->SortSt->Prop,Q' (a_ (bey i)) st->E_ (q1n i) Q' st)
  (mono:∀i j,i<=j->j<n->bey j=true->bey i=true) (h1:lo<=hi) (h2:hi<=n) (h3:∀i,i<lo->bey i=true) (h4:∀i,hi<=i->i<n->bey i=false)
  (k:∀r,r<=n->(∀i,i<r->bey i=true)->(∀i,r<=i->i<n->bey i=false)->Q (a_ r) st):
  E_ (Ck left key arr base n lo hi) Q st:=by
 unfold Ck;refine Yc (Zr (λi c aa=>aa=st/\∃lo hi,c=(b_,lo,hi)/\lo<=hi/\hi<=n/\hi-lo<=n-i/\(∀i,i<lo->bey i=true)/\∀i,hi<=i->i<n->bey i=false) (λi c aa _ hi=>?_) (λc aa=>?_) ⟨rfl,lo,hi,rfl,h1,h2,⋯,h3,h4⟩)
 ·rintro⟨rfl,lo,hi,rfl,a1,a2,a3,a4,a5⟩;dsimp only;by_cases c:lo >= hi
  ·rw[if_pos c];refine Yk (Yk (k hi a2 (λi q=>a4 i ⋯) a5))
  ·rw[if_neg c];refine Yc (hb (lo+(hi-lo)/2) ⋯ _ ?_);dsimp only;cases e:bey (lo+(hi-lo)/2) with
   |true=>rw[q0s 0];show Yk ⟨rfl,_,_,rfl,⋯,a2,⋯,λi q=>mono i _ ⋯ ⋯ e,a5⟩
   |false=>
    rw[q0a 0];refine Yk ⟨rfl,_,_,rfl,⋯,⋯,⋯,a4,λi q1 q2=>?_⟩;cases e2:bey i with
    |false=>rfl
    |true=>rw[mono _ i q1 q2 e2]at e;cases e
 ·rintro⟨rfl,lo,hi,rfl,a1,a2,a3,a4,a5⟩;dsimp only;show Yk (k hi a2 (λi q=>a4 i ⋯) a5)
theorem kO(hb:∀i,i<n->∀Q':v_ Bool->SortSt->Prop,Q' (a_ (bey i)) st->E_ (q1n i) Q' st)
  (mono:∀i j,i<=j->j<n->bey j=true->bey i=true) (hh:hint<n)
  (k:∀r,r<=n->(∀i,i<r->bey i=true)->(∀i,r<=i->i<n->bey i=false)->Q (a_ r) st):
  E_ (cU left key arr base n hint) Q st:=by
 let jh:∀i j,i<=j->j<n->bey i=false->bey j=false:=λi j h1 h2 h3=>by
  cases e:bey j with
  |false=>rfl
  |true=>rw[mono i j h1 h2 e]at h3;cases h3
 rw[FM];refine Yc (hb hint hh _ ?_);dsimp only;cases e:bey hint with
 |true=>
  rw[q0s 0];unfold Px;refine Yc (Zr (λi c aa=>aa=st/\∃la of,c=(b_,la,of)/\la<of/\i<of/\hint+la<n/\bey (hint+la)=true) (λi c aa _ hi=>?_) (λc aa=>?_) ⟨rfl,0,1,rfl,⋯,⋯,hh,e⟩)
  ·rintro⟨rfl,la,of,rfl,a1,a2,a3,a4⟩;dsimp only;by_cases c:of >= n-hint
   ·rw[if_pos c];refine Yk ?_;dsimp only;show iO hb mono ⋯ ⋯ (λi q=>mono i _ ⋯ a3 a4) (λi q1 q2=>by omega) k
   ·rw[if_neg c];refine Yc (hb (hint+of) ⋯ _ ?_);dsimp only;cases e2:bey (hint+of) with
    |true=>rw[q0a 0];show Yk ⟨rfl,_,_,rfl,⋯,⋯,⋯,e2⟩
    |false=>rw[if_pos nofun];refine Yk ?_;dsimp only;show iO hb mono ⋯ ⋯ (λi q=>mono i _ ⋯ a3 a4) (λi q1 q2=>jh _ i ⋯ q2 e2) k
  ·rintro⟨rfl,la,of,rfl,a1,a2,a3,a4⟩;dsimp only;show iO hb mono ⋯ ⋯ (λi q=>mono i _ ⋯ a3 a4) (λi q1 q2=>by omega) k
 |false=>
  rw[q0a 0];unfold Py;refine Yc (Zr (λi c aa=>aa=st/\∃la of,c=(b_,la,of)/\la<of/\i<of/\la<=hint/\bey (hint-la)=false) (λi c aa _ hi=>?_) (λc aa=>?_) ⟨rfl,0,1,rfl,⋯,⋯,⋯,e⟩)
  ·rintro⟨rfl,la,of,rfl,a1,a2,a3,a4⟩;dsimp only;by_cases c:of >= hint+1
   ·rw[if_pos c];refine Yk ?_;dsimp only;show iO hb mono ⋯ ⋯ (λi q=>by omega) (λi q1 q2=>jh _ i ⋯ q2 a4) k
   ·rw[if_neg c];refine Yc (hb (hint-of) ⋯ _ ?_);dsimp only;cases e2:bey (hint-of) with
    |true=>rw[q0s 0];refine Yk ?_;dsimp only;show iO hb mono ⋯ ⋯ (λi q=>mono i (hint-of) ⋯ ⋯ e2) (λi q1 q2=>jh _ i ⋯ q2 a4) k
    |false=>rw[q0a 0];show Yk ⟨rfl,_,_,rfl,⋯,⋯,⋯,e2⟩
  ·rintro⟨rfl,la,of,rfl,a1,a2,a3,a4⟩;dsimp only;show iO hb mono ⋯ ⋯ (λi q=>by omega) (λi q1 q2=>jh _ i ⋯ q2 a4) k
end
def zX:w_ 0->w_ 0->A_ (w_ 0):=sortPriv% PySem.Builtin.mergeLo
abbrev vR(g:Nat)(st:SortSt):SortSt:=SortSt.mk' (q1j 0) (arrOf st) (YS st) g (y0P st)
def cB(g:Nat):A_ Unit:=modify (vR g)
def eX(a b:w_ 0)(out:w_ 0)(ia ib:Nat):=out++a.extract ia a.size++b.extract ib b.size
def jS(a b:w_ 0)(out:w_ 0)(ia ib:Nat):=out++b.extract ib b.size++a.extract ia a.size
theorem DS(a b:w_ 0):zX a b=(do
 rule "list.sort.merge-lo"
 let total:=a.size+b.size
 let mut out:w_ 0:=#[<-elem' b 0]
 let mut ia:=0
 let mut ib:=1
 if ib == b.size then return eX a b out ia ib
 if ia+1 == a.size then return jS a b out ia ib
 let mut minGallop:=gallopOf (<-get)
 for _ in [0:total] do
  let mut acount:=0
  let mut bcount:=0
  for _ in [0:total] do
   let a_ bWins <-lt' (<-elem' b ib) (<-elem' a ia)|return eX a b out ia ib
   if bWins then
    out:=out.push (<-elem' b ib);ib:=ib+1;bcount:=bcount+1;acount:=0
    if ib == b.size then return eX a b out ia ib
    if bcount >= minGallop then break
   else
    out:=out.push (<-elem' a ia);ia:=ia+1;acount:=acount+1;bcount:=0
    if ia+1 == a.size then return jS a b out ia ib
    if acount >= minGallop then break
  rule "list.sort.gallop"
  minGallop:=minGallop+1
  for _ in [0:total] do
   if minGallop>1 then minGallop:=minGallop-1
   cB minGallop
   let a_ k <-cU false (<-elem' b ib) a ia (a.size-ia) 0|return eX a b out ia ib
   acount:=k
   if k>0 then
    out:=out++a.extract ia (ia+k);ia:=ia+k
    if ia+1 == a.size then return jS a b out ia ib
    if ia == a.size then return eX a b out ia ib
   out:=out.push (<-elem' b ib);ib:=ib+1
   if ib == b.size then return eX a b out ia ib
   let a_ k <-cU true (<-elem' a ia) b ib (b.size-ib) 0|return eX a b out ia ib
   bcount:=k
   if k>0 then
    out:=out++b.extract ib (ib+k);ib:=ib+k
    if ib == b.size then return eX a b out ia ib
   out:=out.push (<-elem' a ia);ia:=ia+1
   if ia+1 == a.size then return jS a b out ia ib
   if acount<7&&bcount<7 then break
  minGallop:=minGallop+1
  cB minGallop
 unsupported "internal:list.sort.merge-bound"):=rfl
structure Ask(M:Model)(A:q_)(E:d_ 0)(s:oa)(κ:y0e)(pr:Nat->Keyed)(n:Nat)(lt:Nat->Nat->Bool):Prop where
 tr:∀i j k,i<n->j<n->k<n->lt j i=false->lt k j=false->lt k i=false
 as:∀i j,i<n->j<n->lt i j=true->lt j i=false
 run:∀(st:SortSt) i j,kindOf st=κ->i<n->j<n->∀Q:v_ Bool->SortSt->Prop,Q (some (lt i j)) st->wpS M A E s (lt' (pr i) (pr j)) Q st
def arr(pr:Nat->Keyed)(l:W_ 0):w_ 0:=(l.map pr).toArray
theorem eY(pr:Nat->Keyed)(l:W_ 0):(B_ l).size=l.length:=by simp[arr]
theorem jH(pr:Nat->Keyed)(l:W_ 0)(i:Nat):(B_ l).push (pr i)=B_ (l++[i]):=by simp[arr]
theorem gJ(pr:Nat->Keyed)(l m:W_ 0):B_ l++B_ m=B_ (l++m):=by simp[arr]
theorem eS(pr:Nat->Keyed)(l:W_ 0)(i j:Nat):(B_ l).extract i j=B_ ((l.drop i).take (j-i)):=by unfold arr;rw[List.extract_toArray,Z5,y0s]
variable{i:Nat}{l:W_ 0}{pr:Nat->Keyed}
theorem bE{Q:Keyed->SortSt->Prop}(hi:i<l.length)(h:Q (pr (l.getD i 0)) st):E_ (elem' (B_ l) i) Q st:=by
 rw[elem'_eq];let e:(B_ l)[i]?=a_ (pr (l.getD i 0)):=by simp[arr,hi]
 rw[e];show Yk h
structure MI(lt:Nat->Nat->Bool)(la lb lo:ve Nat)(ia ib:Nat):Prop where
 perm:(lo++(la.drop ia++lb.drop ib)).Perm (la++lb)
 srt:lo.Pairwise λi j=>lt j i=false
 low:∀o∈lo,∀x∈la.drop ia++lb.drop ib,lt x o=false
structure Two(lt:Nat->Nat->Bool)(n:Nat)(la lb:ve Nat):Prop where
 sa:la.Pairwise λi j=>lt j i=false
 sb:lb.Pairwise λi j=>lt j i=false
 na:∀x∈la,x<n
 nb:∀x∈lb,x<n
def Mgd(pr:Nat->Keyed)(lt:Nat->Nat->Bool)(la lb:W_ 0)(out:w_ 0):Prop:=∃lo:W_ 0,out=B_ lo/\lo.Perm (la++lb)/\lo.Pairwise λi j=>lt j i=false
variable{ia ib:Nat}{la:W_ 0}
section
variable{lt:Nat->Nat->Bool}{lb lo:W_ 0}
theorem gF{R:Nat->Nat->Prop}(h:l.Pairwise R)(k:Nat):(l.drop k).Pairwise R:=h.sublist (List.drop_sublist k l)
theorem DT{R:Nat->Nat->Prop}(h:l.Pairwise R)(i k:Nat):∀x∈(l.drop i).take k,∀y∈l.drop (i+k),R x y:=λx hx y hy=>by let hd:=gF h i;rw[<-Yh k (l.drop i)]at hd;rw[<-List.drop_drop]at hy;show(Ya.mp hd).2.2 x hx y hy
theorem oE(l:W_ 0)(i k:Nat):l.drop i=(l.drop i).take k++l.drop (i+k):=by rw[<-List.drop_drop,Yh]
theorem MI.pushA(m:J_ 0)(t:S_ 0){k:Nat}(h:∀x∈(la.drop ia).take k,∀y∈lb.drop ib,lt y x=false):MI lt la lb (lo++(la.drop ia).take k) (ia+k) ib:=by
 let sub:∀x∈(la.drop ia).take k,x∈la.drop ia:=λx hx=>Ym hx;let dq:∀x∈la.drop (ia+k),x∈la.drop ia:=λx hx=>by rw[oE la ia k];show XS _ hx
 refine⟨?_,?_,?_⟩
 ·refine Z8 ?_ m.perm;rw[XU];refine Ys _ ?_;rw[<-XU,<-oE]
 ·rw[Ya];show⟨m.srt,(gF t.sa ia).sublist (List.take_sublist k _),λo ho x hx=>m.low o ho x (Yu _ (sub x hx))⟩
 ·intro o ho x hx;rcases X7.mp ho with q|q
  ·refine m.low o q x ?_;rcases X7.mp hx with z|z
   ·show Yu _ (dq x z)
   ·show XS _ z
  ·rcases X7.mp hx with z|z
   ·show DT t.sa ia k o q x z
   ·show h o q x z
theorem MI.pushB(m:J_ 0)(t:S_ 0){k:Nat}(h:∀x∈(lb.drop ib).take k,∀y∈la.drop ia,lt y x=false):MI lt la lb (lo++(lb.drop ib).take k) ia (ib+k):=by
 let sub:∀x∈(lb.drop ib).take k,x∈lb.drop ib:=λx hx=>Ym hx;let dq:∀x∈lb.drop (ib+k),x∈lb.drop ib:=λx hx=>by rw[oE lb ib k];show XS _ hx
 refine⟨?_,?_,?_⟩
 ·refine Z8 ?_ m.perm;rw[XU];refine Ys _ ?_;refine(List.perm_append_comm_assoc _ _ _).trans ?_;rw[<-oE]
 ·rw[Ya];show⟨m.srt,(gF t.sb ib).sublist (List.take_sublist k _),λo ho x hx=>m.low o ho x (XS _ (sub x hx))⟩
 ·intro o ho x hx;rcases X7.mp ho with q|q
  ·refine m.low o q x ?_;rcases X7.mp hx with z|z
   ·show Yu _ z
   ·show XS _ (dq x z)
  ·rcases X7.mp hx with z|z
   ·show h o q x z
   ·show DT t.sb ib k o q x z
theorem eG(h:i<l.length):(l.drop i).take 1=[l.getD i 0]:=by rw[Y5 h,List.take_succ_cons,List.take_zero,X8,Yd h];rfl
theorem MI.done(m:J_ 0)(t:S_ 0)(h:ia=la.length\/ib=lb.length):X_ (eX (B_ la) (B_ lb) (B_ lo) ia ib):=by
 refine⟨lo++la.drop ia++lb.drop ib,?_,by rw[XU];show m.perm,?_⟩
 ·unfold eX;rw[eS,eS,gJ,gJ,eY,eY,YW (by rw[Yi];omega),YW (by rw[Yi];omega)]
 ·rw[XU,Ya];refine⟨m.srt,?_,m.low⟩;rw[Ya];refine⟨gF t.sa _,gF t.sb _,λx hx y hy=>?_⟩;rcases h with h|h
  ·rw[h]at hx;simp at hx
  ·rw[h]at hy;simp at hy
theorem MI.last(m:J_ 0)(t:S_ 0)(h:ia+1=la.length)(top:∀x∈lb,lt (q1u 0) x=false):X_ (jS (B_ la) (B_ lb) (B_ lo) ia ib):=by
 let ed:la.drop ia=[q1u 0]:=by rw[<-eG ⋯,YW (by rw[Yi];omega)]
 refine⟨lo++lb.drop ib++la.drop ia,?_,?_,?_⟩
 ·unfold jS;rw[eS,eS,gJ,gJ,eY,eY,YW (by rw[Yi];omega),YW (by rw[Yi];omega)]
 ·refine Z8 ?_ m.perm;rw[XU];show Ys _ y0Q
 ·rw[XU,Ya];refine⟨m.srt,?_,λo ho x hx=>m.low o ho x (by rcases X7.mp hx with z|z;show XS _ z;show Yu _ z)⟩;rw[Ya];refine⟨gF t.sb _,gF t.sa _,λx hx y hy=>?_⟩;rw[ed]at hy;simp at hy;rw[hy];have:=top x (Yz hx);simpa using this
end
variable{κ:y0e}
section
variable{lt:Nat->Nat->Bool}
def Sg(st aa:SortSt):Prop:=kindOf aa=q1j 0/\arrOf aa=arrOf st/\YS aa=YS st/\y0P aa=y0P st
theorem Sg.refl(st:SortSt):Sg st st:=⟨rfl,rfl,rfl,rfl⟩
theorem oF{g:Nat}{Q:Unit->SortSt->Prop}(h:Q () (vR g st)):E_ (cB g) Q st:=wpS_modify h
theorem nJ{x:String}{Q:Unit->SortSt->Prop}(h:Q () st):E_ (liftM (rule x):A_ Unit) Q st:=wpS_lift (y0f ⟨rfl,h⟩)
theorem Iy(O:p_ 0)(sl:l.Pairwise λi j=>lt j i=false)(nl:∀x∈l,x<n){y:Nat}(hy:y<n)(hi:i<l.length)(hk:q1j 0=κ){Q:v_ Nat->SortSt->Prop}(k:∀r,i+r<=l.length->(∀x∈(l.drop i).take r,lt y x=false)->(∀x∈l.drop (i+r),lt y x=true)->Q (a_ r) st):E_ (cU false (pr y) (B_ l) i (l.length-i) 0) Q st:=by
 let at':∀j,j<l.length->l.getD j 0∈l:=λj hj=>by
  have:l.getD j 0=l[j]:=by simp[hj]
  rw[this];show Yw hj
 refine kO (bey:=λj=>!lt y (l.getD (i+j) 0)) (λj hj Q' hq=>?_) (λa b h1 h2 h3=>?_) ⋯ (λr h1 h2 h3=>k r ⋯ (λx hx=>?_) (λx hx=>?_))
 ·unfold iA;refine Yc (bE ⋯ ?_);rw[q0a 0];refine Yc (O.run st _ _ hk hy (nl _ (at' _ ⋯)) _ ?_);show Yk hq
 ·rw[y0B]at h3⊢;by_cases e:a=b
  ·subst e;show h3
  ·let q:=Yq.mp sl (i+a) (i+b) ⋯ ⋯ ⋯;let e1:l.getD (i+a) 0=l[i+a]:=by simp[show i+a<l.length by omega]
   let e2:l.getD (i+b) 0=l[i+b]:=by simp[show i+b<l.length by omega]
   rw[e2]at h3;rw[e1];show q1a (nl _ (Yw _)) (nl _ (Yw _)) hy q h3
 ·let⟨j,hj,rfl⟩:=Y7 hx;rw[X9,Yi]at hj;have:=h2 j ⋯;rw[y0B]at this;rw[Zh,ZP];simpa[show i+j<l.length by omega] using this
 ·let⟨j,hj,rfl⟩:=Y7 hx;rw[Yi]at hj;have:=h3 (r+j) ⋯ ⋯;rw[Bool.not_eq_false']at this;rw[ZP];let e:i+(r+j)=i+r+j:=⋯
  rw[e]at this;simpa[show i+r+j<l.length by omega] using this
theorem DU(O:p_ 0)(sl:l.Pairwise λi j=>lt j i=false)(nl:∀x∈l,x<n){y c:Nat}(hy:y<n)(hc:i+c<=l.length)(hi:hint<c)(hk:q1j 0=κ){Q:v_ Nat->SortSt->Prop}(k:∀r,r<=c->(∀x∈(l.drop i).take r,lt x y=true)->(∀j,r<=j->j<c->lt (l.getD (i+j) 0) y=false)->Q (a_ r) st):E_ (cU true (pr y) (B_ l) i c hint) Q st:=by
 let at':∀j,j<l.length->l.getD j 0∈l:=λj hj=>by
  have:l.getD j 0=l[j]:=by simp[hj]
  rw[this];show Yw hj
 refine kO (bey:=λj=>lt (l.getD (i+j) 0) y) (λj hj Q' hq=>?_) (λa b h1 h2 h3=>?_) hi (λr h1 h2 h3=>k r h1 (λx hx=>?_) h3)
 ·unfold iA;refine Yc (bE ⋯ ?_);rw[q0s 0];show O.run st _ _ hk (nl _ (at' _ ⋯)) hy _ hq
 ·by_cases e:a=b
  ·subst e;show h3
  ·let q:=Yq.mp sl (i+a) (i+b) ⋯ ⋯ ⋯;let e1:l.getD (i+a) 0=l[i+a]:=by simp[show i+a<l.length by omega]
   let e2:l.getD (i+b) 0=l[i+b]:=by simp[show i+b<l.length by omega]
   change lt (l.getD (i+a) 0) y=true
   let h3:lt (l.getD (i+b) 0) y=true:=h3;rw[e2]at h3;rw[e1];cases z:lt l[i+a] y with
   |true=>rfl
   |false=>have:=O.tr y _ _ hy (nl _ (Yw _)) (nl _ (Yw _)) z q;rw[this]at h3;cases h3
 ·let⟨j,hj,rfl⟩:=Y7 hx;rw[X9,Yi]at hj;have:lt (l.getD (i+j) 0) y=true:=h2 j ⋯;rw[Zh,ZP];simpa[show i+j<l.length by omega] using this
end
def NA(a b:w_ 0)(na nb g ac bc ia:Nat)(out:w_ 0)(ib:Nat):A_ (ForInStep (v_ (w_ 0)×w_ 0×Nat×Nat×Nat×Nat×Nat)):=do
 let z <-elem' a ia
 if ia+1+1 == na then pure (.done (a_ (jS a b (q0z 0) (ia+1) ib),q0z 0,ia+1,ib,g,ac,bc))
 else if ac<7&&bc<7 then pure (.done (b_,q0z 0,ia+1,ib,g,ac,bc))
 else pure (.yield (b_,q0z 0,ia+1,ib,g,ac,bc))
def NB(a b:w_ 0)(na nb g ac bc ib:Nat)(out:w_ 0)(ia:Nat):A_ (ForInStep (v_ (w_ 0)×w_ 0×Nat×Nat×Nat×Nat×Nat)):=do
 let z <-elem' b ib
 if ib+1 == nb then pure (.done (a_ (eX a b (q0z 0) ia (ib+1)),q0z 0,ia,ib+1,g,ac,bc))
 else
  let a_ k <-cU true (<-elem' a ia) b (ib+1) (nb-(ib+1)) 0|pure (.done (a_ (eX a b (q0z 0) ia (ib+1)),q0z 0,ia,ib+1,g,ac,bc))
  if k>0 then
   if ib+1+k == nb then pure (.done (a_ (eX a b (q0z 0++b.extract (ib+1) (ib+1+k)) ia (ib+1+k)),q0z 0++b.extract (ib+1) (ib+1+k),ia,ib+1+k,g,ac,k))
   else NA a b na nb g ac k ia (q0z 0++b.extract (ib+1) (ib+1+k)) (ib+1+k)
  else NA a b na nb g ac k ia (q0z 0) (ib+1)
def NC(a b:w_ 0)(na nb:Nat)(out:w_ 0)(ia ib ac bc g:Nat):A_ (ForInStep (v_ (w_ 0)×w_ 0×Nat×Nat×Nat×Nat×Nat)):=do
 cB g
 let a_ k <-cU false (<-elem' b ib) a ia (na-ia) 0|pure (.done (a_ (eX a b out ia ib),out,ia,ib,g,ac,bc))
 if k>0 then
  if ia+k+1 == na then pure (.done (a_ (jS a b (out++a.extract ia (ia+k)) (ia+k) ib),out++a.extract ia (ia+k),ia+k,ib,g,k,bc))
  else if ia+k == na then pure (.done (a_ (eX a b (out++a.extract ia (ia+k)) (ia+k) ib),out++a.extract ia (ia+k),ia+k,ib,g,k,bc))
  else NB a b na nb g k bc ib (out++a.extract ia (ia+k)) (ia+k)
 else NB a b na nb g k bc ib out ia
def QL(a b:w_ 0)(na nb g:Nat)(c:v_ (w_ 0)×w_ 0×Nat×Nat×Nat×Nat):A_ (ForInStep (v_ (w_ 0)×w_ 0×Nat×Nat×Nat×Nat)):=do
 let a_ w <-lt' (<-elem' b c.2.2.2.1) (<-elem' a c.2.2.1)|pure (.done (a_ (eX a b c.2.1 c.2.2.1 c.2.2.2.1),c.2))
 if w then
  let z <-elem' b c.2.2.2.1
  if c.2.2.2.1+1 == nb then pure (.done (a_ (eX a b (c.2.1.push z) c.2.2.1 (c.2.2.2.1+1)),c.2.1.push z,c.2.2.1,c.2.2.2.1+1,0,c.2.2.2.2.2+1))
  else if c.2.2.2.2.2+1 >= g then pure (.done (b_,c.2.1.push z,c.2.2.1,c.2.2.2.1+1,0,c.2.2.2.2.2+1))
  else pure (.yield (b_,c.2.1.push z,c.2.2.1,c.2.2.2.1+1,0,c.2.2.2.2.2+1))
 else
  let z <-elem' a c.2.2.1
  if c.2.2.1+1+1 == na then pure (.done (a_ (jS a b (c.2.1.push z) (c.2.2.1+1) c.2.2.2.1),c.2.1.push z,c.2.2.1+1,c.2.2.2.1,c.2.2.2.2.1+1,0))
  else if c.2.2.2.2.1+1 >= g then pure (.done (b_,c.2.1.push z,c.2.2.1+1,c.2.2.2.1,c.2.2.2.2.1+1,0))
  else pure (.yield (b_,c.2.1.push z,c.2.2.1+1,c.2.2.2.1,c.2.2.2.2.1+1,0))
def QM(a b:w_ 0)(na nb:Nat)(c:v_ (w_ 0)×w_ 0×Nat×Nat×Nat×Nat×Nat):A_ (ForInStep (v_ (w_ 0)×w_ 0×Nat×Nat×Nat×Nat×Nat)):=if c.2.2.2.2.1>1 then NC a b na nb c.2.1 c.2.2.1 c.2.2.2.1 c.2.2.2.2.2.1 c.2.2.2.2.2.2 (c.2.2.2.2.1-1) else NC a b na nb c.2.1 c.2.2.1 c.2.2.2.1 c.2.2.2.2.2.1 c.2.2.2.2.2.2 c.2.2.2.2.1
def Ig(pr:Nat->Keyed)(lt:Nat->Nat->Bool)(la lb:W_ 0)(st:SortSt)(p:Nat)(c:v_ (w_ 0)×w_ 0×Nat×Nat×Nat×Nat×Nat)(aa:SortSt):Prop:=Sg st aa/\∃lo ia ib g ac bc,c=(b_,B_ lo,ia,ib,g,ac,bc)/\J_ 0/\ia+1<la.length/\ib<lb.length/\p<=ia+ib
def Qg(pr:Nat->Keyed)(lt:Nat->Nat->Bool)(la lb:W_ 0)(st:SortSt)(p:Nat)(c:v_ (w_ 0)×w_ 0×Nat×Nat×Nat×Nat×Nat)(aa:SortSt):Prop:=(Sg st aa/\∃r d,c=(a_ r,d)/\X_ r)\/Ig pr lt la lb st p c aa
def Rg(pr:Nat->Keyed)(lt:Nat->Nat->Bool)(la lb:W_ 0)(st:SortSt)(p:Nat)(r:ForInStep (v_ (w_ 0)×w_ 0×Nat×Nat×Nat×Nat×Nat))(aa:SortSt):Prop:=match r with
 |.done c=>Qg pr lt la lb st p c aa
 |.yield c=>Ig pr lt la lb st p c aa
variable{ai:SortSt}{j:Nat}{c:v_ (w_ 0)×w_ 0×Nat×Nat×Nat×Nat×Nat}{F2:Nat->v_ (w_ 0)×w_ 0×Nat×Nat×Nat×Nat×Nat->A_ (ForInStep (v_ (w_ 0)×w_ 0×Nat×Nat×Nat×Nat×Nat))}{K2:v_ (w_ 0)×w_ 0×Nat×Nat×Nat×Nat×Nat->A_ (ForInStep (v_ (w_ 0)×w_ 0×Nat×Nat×Nat))}{aa:SortSt}
section
variable{lt:Nat->Nat->Bool}{lb:W_ 0}
theorem cN{σ α:Type}{c:Prop}[Decidable c]{x y:StateT σ Sem α}{Q:α->σ->Prop}{st:σ}(h1:c->E_ x Q st)(h2:¬ c->E_ y Q st):E_ (if c then x else y) Q st:=by
 split
 ·show h1 ‹_›
 ·show h2 ‹_›
theorem bG(h:i<l.length):l.getD i 0∈l:=by
 have:l.getD i 0=l[i]:=by simp[h]
 rw[this];show Yw h
theorem tT(O:p_ 0)(sl:l.Pairwise λi j=>lt j i=false)(nl:∀x∈l,x<n){x:Nat}(hx:x<n)(hi:i<l.length)(h:lt (l.getD i 0) x=false):∀y∈l.drop i,lt y x=false:=λy hy=>by
 let hd:=gF sl i;rw[Y5 hi]at hd hy;let e:l.getD i 0=l[i]:=by simp[hi]
 rw[e]at h;rcases Yf.mp hy with rfl|q
 ·show h
 ·show q1a hx (nl _ (Yw hi)) (nl _ (Yz q)) h ((y0g.mp hd).1 y q)
theorem Two.pa(O:p_ 0)(t:S_ 0){lo:W_ 0}(m:J_ 0)(ha:ia<la.length)(hb:ib<lb.length)(e:lt (lb.getD ib 0) (q1u 0)=false):MI lt la lb (lo++[q1u 0]) (ia+1) ib:=by
 have:=m.pushA t (k:=1) λx hx=>by rw[eG ha]at hx;simp at hx;rw[hx];have:=tT O t.sb t.nb (t.na _ (bG ha)) hb e;simpa using this
 rwa[eG ha]at this
theorem Two.pb(O:p_ 0)(t:S_ 0){lo:W_ 0}(m:J_ 0)(ha:ia<la.length)(hb:ib<lb.length)(e:lt (lb.getD ib 0) (q1u 0)=true):MI lt la lb (lo++[lb.getD ib 0]) ia (ib+1):=by
 have:=m.pushB t (k:=1) λx hx=>by rw[eG hb]at hx;simp at hx;rw[hx];have:=tT O t.sa t.na (t.nb _ (bG hb)) ha (O.as _ _ (t.nb _ (bG hb)) (t.na _ (bG ha)) e);simpa using this
 rwa[eG hb]at this
theorem DV(O:p_ 0)(t:S_ 0)(top:∀x∈lb,lt (la.getD (la.length-1) 0) x=false)(sg:Sg st ai){lo:W_ 0}{p:Nat}(m:J_ 0)(ha:ia+1<la.length)(hb:ib<lb.length)(h:∀y∈lb.drop ib,lt y (q1u 0)=false)(pg:p<=ia+ib)(g ac bc:Nat):E_ (NA (B_ la) (B_ lb) la.length lb.length g ac bc ia (B_ lo) ib) (Rg pr lt la lb st p) ai:=by
 unfold NA;refine Yc (bE ⋯ ?_);let m':MI lt la lb (lo++[q1u 0]) (ia+1) ib:=by
  have:=m.pushA t (k:=1) λx hx=>by rw[eG ⋯]at hx;simp at hx;rw[hx];simpa using h
  rwa[eG ⋯]at this
 rw[jH];refine cN (λc3=>?_) λc3=>?_
 ·rw[beq_iff_eq]at c3;refine Yk (.inl ⟨sg,_,_,rfl,m'.last t c3 ?_⟩);have:ia+1=la.length-1:=⋯;rw[this];show top
 rw[beq_iff_eq]at c3;refine cN (λc4=>?_) λc4=>?_
 ·show Yk (.inr ⟨sg,_,_,_,_,_,_,rfl,m',⋯,hb,⋯⟩)
 ·show Yk ⟨sg,_,_,_,_,_,_,rfl,m',⋯,hb,⋯⟩
theorem DW(O:p_ 0)(t:S_ 0)(top:∀x∈lb,lt (la.getD (la.length-1) 0) x=false)(hk:q1j 0=κ)(sg:Sg st ai){lo:W_ 0}{p:Nat}(m:J_ 0)(ha:ia+1<la.length)(hb:ib<lb.length)(h:∀x∈la.drop ia,lt (lb.getD ib 0) x=true)(pg:p<=ia+ib)(g ac bc:Nat):E_ (NB (B_ la) (B_ lb) la.length lb.length g ac bc ib (B_ lo) ia) (Rg pr lt la lb st p) ai:=by
 unfold NB;refine Yc (bE hb ?_);let hm:q1u 0∈la.drop ia:=by
  let e:q1u 0=la[ia]:=by simp[show ia<la.length by omega]
  rw[e,Y5 (show ia<la.length by omega)];show XY
 let m':=t.pb O m ⋯ hb (h _ hm);rw[jH];refine cN (λc3=>?_) λc3=>?_
 ·rw[beq_iff_eq]at c3;show Yk (.inl ⟨sg,_,_,rfl,m'.done t (.inr c3)⟩)
 rw[beq_iff_eq]at c3;let hx:q1u 0<n:=t.na _ (bG ⋯);refine Yc (bE ⋯ (Yc (DU O t.sb t.nb hx ⋯ ⋯ (sg.1.trans hk) λr a1 a2 a3=>?_)));dsimp only;let rest:∀y∈lb.drop (ib+1+r),lt y (q1u 0)=false:=λy hy=>by let⟨j,hj,rfl⟩:=Y7 hy;rw[Yi]at hj;have:=a3 (r+j) ⋯ ⋯;rw[show ib+1+(r+j)=ib+1+r+j by omega]at this;rw[ZP];simpa[show ib+1+r+j<lb.length by omega] using this
 by_cases c5:r>0
 ·rw[if_pos c5,eS,gJ,show ib+1+r-(ib+1)=r by omega];let m2:=m'.pushB t (k:=r) λx az=>by let j1:=t.nb x (Yz (Ym az));show tT O t.sa t.na j1 ⋯ (O.as _ _ j1 hx (a2 x az))
  refine cN (λc6=>?_) λc6=>?_
  ·rw[beq_iff_eq]at c6;show Yk (.inl ⟨sg,_,_,rfl,m2.done t (.inr c6)⟩)
  rw[beq_iff_eq]at c6;show DV O t top sg m2 ha ⋯ rest ⋯ _ _ _
 ·rw[if_neg c5];obtain rfl:r=0:=⋯;show DV O t top sg m' ha ⋯ rest ⋯ _ _ _
theorem DX(O:p_ 0)(t:S_ 0)(top:∀x∈lb,lt (la.getD (la.length-1) 0) x=false)(hk:q1j 0=κ)(sg:Sg st ai){lo:W_ 0}{p:Nat}(m:J_ 0)(ha:ia+1<la.length)(hb:ib<lb.length)(pg:p<=ia+ib)(ac bc g:Nat):E_ (NC (B_ la) (B_ lb) la.length lb.length (B_ lo) ia ib ac bc g) (Rg pr lt la lb st p) ai:=by
 unfold NC;refine Yc (oF (Yc (bE hb (Yc (Iy (i:=ia) (st:=vR g ai) O t.sa t.na (t.nb _ (bG hb)) ⋯ (sg.1.trans hk) λr a1 a2 a3=>?_)))));dsimp only;let jv:Sg st (vR g ai):=sg;by_cases c5:r>0
 ·rw[if_pos c5,eS,gJ,show ia+r-ia=r by omega];let m':=m.pushA t (k:=r) λx hx=>tT O t.sb t.nb (t.na x (Yz (Ym hx))) hb (a2 x hx);refine cN (λc6=>?_) λc6=>?_
  ·rw[beq_iff_eq]at c6;refine Yk (.inl ⟨jv,_,_,rfl,m'.last t c6 ?_⟩);have:ia+r=la.length-1:=⋯;rw[this];show top
  rw[beq_iff_eq]at c6;refine cN (λc7=>?_) λc7=>?_
  ·rw[beq_iff_eq]at c7;show Yk (.inl ⟨jv,_,_,rfl,m'.done t (.inl c7)⟩)
  rw[beq_iff_eq]at c7;show DW O t top hk jv m' ⋯ hb a3 ⋯ _ _ _
 ·rw[if_neg c5];obtain rfl:r=0:=⋯;show DW O t top hk jv m ha hb a3 pg _ _ _
theorem K8(O:p_ 0)(t:S_ 0)(lst:∀{lo:W_ 0}{ia ib:Nat},J_ 0->ia+1=la.length->X_ (jS (B_ la) (B_ lb) (B_ lo) ia ib))(hk:q1j 0=κ)(sg:Sg st ai){lo:W_ 0}(m:J_ 0)(ha:ia+1<la.length)(hb:ib<lb.length)(pg:i+1+j<=ia+ib)(ac bc g:Nat):
  E_ (QL (B_ la) (B_ lb) la.length lb.length g (b_,B_ lo,ia,ib,ac,bc)) (λr aa=>match r with
   |.done c=>Sg st aa/\((∃r d,c=(a_ r,d)/\X_ r)\/∃lo ia ib ac bc,c=(b_,B_ lo,ia,ib,ac,bc)/\J_ 0/\ia+1<la.length/\ib<lb.length/\i+2<=ia+ib)
   |.yield c=>Sg st aa/\∃lo ia ib ac bc,c=(b_,B_ lo,ia,ib,ac,bc)/\J_ 0/\ia+1<la.length/\ib<lb.length/\i+1+(j+1)<=ia+ib) ai:=by
 unfold QL;dsimp only;refine Yc (bE hb (Yc (bE ⋯ (Yc (O.run ai _ _ (sg.1.trans hk) (t.nb _ (bG hb)) (t.na _ (bG ⋯)) _ ?_)))));dsimp only;cases e:lt (lb.getD ib 0) (q1u 0) with
 |true=>
  rw[q0s 0];refine Yc (bE hb ?_);let m':=t.pb O m ⋯ hb e;rw[jH];refine cN (λc3=>?_) λc3=>?_
  ·rw[beq_iff_eq]at c3;show Yk ⟨sg,.inl ⟨_,_,rfl,m'.done t (.inr c3)⟩⟩
  rw[beq_iff_eq]at c3;refine cN (λc4=>?_) λc4=>?_
  ·show Yk ⟨sg,.inr ⟨_,_,_,_,_,rfl,m',ha,⋯,⋯⟩⟩
  ·show Yk ⟨sg,_,_,_,_,_,rfl,m',ha,⋯,⋯⟩
 |false=>
  rw[q0a 0];refine Yc (bE ⋯ ?_);let m':=t.pa O m ⋯ hb e;rw[jH];refine cN (λc3=>?_) λc3=>?_
  ·rw[beq_iff_eq]at c3;show Yk ⟨sg,.inl ⟨_,_,rfl,lst m' c3⟩⟩
  rw[beq_iff_eq]at c3;refine cN (λc4=>?_) λc4=>?_
  ·show Yk ⟨sg,.inr ⟨_,_,_,_,_,rfl,m',⋯,hb,⋯⟩⟩
  ·show Yk ⟨sg,_,_,_,_,_,rfl,m',⋯,hb,⋯⟩
theorem K9(O:p_ 0)(t:S_ 0)(top:∀x∈lb,lt (la.getD (la.length-1) 0) x=false)(hk:q1j 0=κ){p:Nat}(hi:Ig pr lt la lb st p c ai):E_ (QM (B_ la) (B_ lb) la.length lb.length c) (Rg pr lt la lb st p) ai:=by let⟨sg,lo,ia,ib,g,ac,bc,rfl,m,ha,hb,pg⟩:=hi;unfold QM;show cN (λ_=>DX O t top hk sg m ha hb pg ac bc (g-1)) λ_=>DX O t top hk sg m ha hb pg ac bc g
theorem Pz{β:Type}{tag:_}{t:Nat}{b1 b2:Bool}{r1 r2:Keyed->w_ 0}{yw:Keyed->SortSt->β}{F:Nat->β->A_ (ForInStep β)}{G:β->A_ (w_ 0)}{Q:w_ 0->SortSt->Prop}(hj:j<l.length)(q1:b1=true->Q (r1 (pr (l.getD j 0))) st)(q2:b2=true->Q (r2 (pr (l.getD j 0))) st)(hF:¬ b1=true->¬ b2=true->E_ (forIn [0:t] (yw (pr (l.getD j 0)) st) F) (λc aa=>E_ (G c) Q aa) st):
  E_ ((liftM (rule tag):A_ Unit) >>= λ_=>elem' (B_ l) j >>= λx=>if b1=true then pure (r1 x) else if b2=true then pure (r2 x) else get >>= λg=>forIn [0:t] (yw x g) F >>= G) Q st:=by
 refine Yc (nJ ?_);refine Yc (bE hj ?_);refine cN (λc=>Yk (q1 c)) λc1=>cN (λc=>Yk (q2 c)) λc2=>Yc (wpS_get (Yc (hF c1 c2)))
theorem ND(O:p_ 0)(t:S_ 0)(top:∀x∈lb,lt (la.getD (la.length-1) 0) x=false)(lst:∀{lo:W_ 0}{ia ib:Nat},J_ 0->ia+1=la.length->X_ (jS (B_ la) (B_ lb) (B_ lo) ia ib))(hk:q1j 0=κ){u:Nat}(hu:0<u)(sg:Sg st aa){lo:W_ 0}{g:Nat}(m:J_ 0)(ha:ia+1<la.length)(hb:ib<lb.length)(pg:i+1<=ia+ib){F1:Nat->v_ (w_ 0)×w_ 0×Nat×Nat×Nat×Nat->A_ (ForInStep (v_ (w_ 0)×w_ 0×Nat×Nat×Nat×Nat))}{K:v_ (w_ 0)×w_ 0×Nat×Nat×Nat×Nat->A_ (ForInStep (v_ (w_ 0)×w_ 0×Nat×Nat×Nat))}(e1:∀j c,F1 j c=QL (B_ la) (B_ lb) la.length lb.length g c)(e2:∀j c,F2 j c=QM (B_ la) (B_ lb) la.length lb.length c)(k1:∀r d,K (a_ r,d)=pure (.done (a_ r,d.1,d.2.1,d.2.2.1,g)))(k2:∀d,K (b_,d)=((liftM (rule "list.sort.gallop"):A_ Unit) >>= λ_=>forIn [0:u] (b_,d.1,d.2.1,d.2.2.1,g+1,d.2.2.2.1,d.2.2.2.2) F2 >>= K2))(k3:∀r d,K2 (a_ r,d)=pure (.done (a_ r,d.1,d.2.1,d.2.2.1,d.2.2.2.1)))(k4:∀d,K2 (b_,d)=(cB (d.2.2.2.1+1) >>= λ_=>pure (.yield (b_,d.1,d.2.1,d.2.2.1,d.2.2.2.1+1)))):
  E_ (forIn [0:u] (b_,B_ lo,ia,ib,0,0) F1 >>= K) (λr aa=>match r with
   |.done c'=>Sg st aa/\∃r d,c'=(a_ r,d)/\X_ r
   |.yield c'=>Sg st aa/\∃lo ia ib g,c'=(b_,B_ lo,ia,ib,g)/\J_ 0/\ia+1<la.length/\ib<lb.length/\i+1+1<=ia+ib) aa:=by
 refine Yc (y0h (Zr (λj c ag=>Sg st ag/\∃lo ia ib ac bc,c=(b_,B_ lo,ia,ib,ac,bc)/\J_ 0/\ia+1<la.length/\ib<lb.length/\i+1+j<=ia+ib) (Q:=λc ag=>Sg st ag/\((∃r d,c=(a_ r,d)/\X_ r)\/∃lo ia ib ac bc,c=(b_,B_ lo,ia,ib,ac,bc)/\J_ 0/\ia+1<la.length/\ib<lb.length/\i+2<=ia+ib)) (λj c ag _ hj=>?_) (λc ag=>?_) ⟨sg,lo,ia,ib,0,0,rfl,m,ha,hb,⋯⟩) λc ag hq=>?_)
 ·rintro⟨sg,lo,ia,ib,ac,bc,rfl,m,ha,hb,pg⟩;rw[e1];show y0h (K8 O t lst hk sg m ha hb pg ac bc g) λr _ h=>by cases r <;> exact h
 ·rintro⟨sg,lo,ia,ib,ac,bc,rfl,m,ha,hb,pg⟩;show⟨sg,.inr ⟨_,_,_,_,_,rfl,m,ha,hb,⋯⟩⟩
 ·obtain⟨sg,⟨r,d,rfl,mg⟩|⟨lo,ia,ib,ac,bc,rfl,m,ha,hb,pg⟩⟩:=hq
  ·rw[k1];show Yk ⟨sg,_,_,rfl,mg⟩
  rw[k2];refine Yc (nJ ?_);refine Yc (y0h (Zr (λj c ag=>Ig pr lt la lb st (i+2) c ag) (Q:=Qg pr lt la lb st (i+2)) (λj c ag _ hj=>?_) (λc ag h=>.inr h) ⟨sg,lo,ia,ib,_,ac,bc,rfl,m,ha,hb,pg⟩) λc ag hq=>?_)
  ·rw[e2];show λhi=>y0h (K9 O t top hk hi) λr _ h=>by cases r <;> exact h
  ·rcases hq with⟨sg,r,d,rfl,mg⟩|⟨sg,lo,ia,ib,g,ac,bc,rfl,m,ha,hb,pg⟩
   ·rw[k3];show Yk ⟨sg,_,_,rfl,mg⟩
   ·rw[k4];show Yc (oF (Yk ⟨sg,_,_,_,_,rfl,m,ha,hb,⋯⟩))
theorem DY(O:p_ 0)(t:S_ 0)(h1:0<la.length)(h2:0<lb.length)(first:lt (lb.getD 0 0) (la.getD 0 0)=true)(top:∀x∈lb,lt (la.getD (la.length-1) 0) x=false)(hk:q1j 0=κ){Q:w_ 0->SortSt->Prop}(k:∀out aa,Sg st aa->X_ out->Q out aa):E_ (zX (B_ la) (B_ lb)) Q st:=by
 let m0:MI lt la lb [] 0 0:=⟨by simp,ZE,λo ho=>by simp at ho⟩;let m1:=t.pb O m0 h1 h2 first
 let lst:∀{lo:W_ 0}{ia ib:Nat},J_ 0->ia+1=la.length->X_ (jS (B_ la) (B_ lb) (B_ lo) ia ib):=λ{lo ia ib} m h=>m.last t h (by
  have:ia=la.length-1:=⋯;rw[this];show top)
 rw[DS,eY,eY];refine Pz (l:=lb) (j:=0) h2 (λc1=>k _ _ (Sg.refl _) (m1.done t (.inr (beq_iff_eq.mp c1)))) (λc2=>k _ _ (Sg.refl _) (lst m1 (beq_iff_eq.mp c2))) λc1 c2=>?_;rw[beq_iff_eq]at c1 c2;refine y0h (Zr (λi c aa=>Sg st aa/\∃lo ia ib g,c=(b_,B_ lo,ia,ib,g)/\J_ 0/\ia+1<la.length/\ib<lb.length/\i+1<=ia+ib) (Q:=λc aa=>Sg st aa/\∃r d,c=(a_ r,d)/\X_ r) (λi c aa _ _=>?_) (λc aa=>?_) ⟨Sg.refl _,[lb.getD 0 0],0,1,_,rfl,m1,⋯,⋯,⋯⟩) λc aa hq=>?_
 ·rintro⟨sg,lo,ia,ib,g,rfl,m,ha,hb,pg⟩;show y0h (ND O t top lst hk (u:=la.length+lb.length) ⋯ sg m ha hb pg (λ_ _=>rfl) (λ_ _=>rfl) (λ_ _=>rfl) (λ_=>rfl) (λ_ _=>rfl) (λ_=>rfl)) λr _ h=>by cases r <;> exact h
 ·rintro⟨sg,lo,ia,ib,g,rfl,m,ha,hb,pg⟩;omega
 ·let⟨sg,r,d,rfl,mg⟩:=hq;show Yk (k _ _ sg mg)
end
def zY:w_ 0->w_ 0->A_ (w_ 0):=sortPriv% PySem.Builtin.mergeHi
def fB(a b:w_ 0)(out:w_ 0)(na nb:Nat):=a.extract 0 na++b.extract 0 nb++out.reverse
def kE(a b:w_ 0)(out:w_ 0)(na nb:Nat):=b.extract 0 nb++a.extract 0 na++out.reverse
theorem DZ(a b:w_ 0):zY a b=(do
 rule "list.sort.merge-hi"
 let total:=a.size+b.size
 let mut na:=a.size-1
 let mut nb:=b.size
 let mut out:w_ 0:=#[<-elem' a na]
 if na == 0 then return q1c 0
 if nb == 1 then return kE a b out na nb
 let mut minGallop:=gallopOf (<-get)
 for _ in [0:total] do
  let mut acount:=0
  let mut bcount:=0
  for _ in [0:total] do
   let a_ aWins <-lt' (<-elem' b (nb-1)) (<-elem' a (na-1))|return q1c 0
   if aWins then
    na:=na-1;out:=out.push (<-elem' a na);acount:=acount+1;bcount:=0
    if na == 0 then return q1c 0
    if acount >= minGallop then break
   else
    nb:=nb-1;out:=out.push (<-elem' b nb);bcount:=bcount+1;acount:=0
    if nb == 1 then return kE a b out na nb
    if bcount >= minGallop then break
  rule "list.sort.gallop"
  minGallop:=minGallop+1
  for _ in [0:total] do
   if minGallop>1 then minGallop:=minGallop-1
   cB minGallop
   let a_ at_ <-cU false (<-elem' b (nb-1)) a 0 na (na-1)|return q1c 0
   let k:=na-at_
   acount:=k
   if k>0 then
    out:=out++(a.extract at_ na).reverse;na:=at_
    if na == 0 then return q1c 0
   nb:=nb-1;out:=out.push (<-elem' b nb)
   if nb == 1 then return kE a b out na nb
   let a_ at_ <-cU true (<-elem' a (na-1)) b 0 nb (nb-1)|return q1c 0
   let k:=nb-at_
   bcount:=k
   if k>0 then
    out:=out++(b.extract at_ nb).reverse;nb:=at_
    if nb == 1 then return kE a b out na nb
    if nb == 0 then return q1c 0
   na:=na-1;out:=out.push (<-elem' a na)
   if na == 0 then return q1c 0
   if acount<7&&bcount<7 then break
  minGallop:=minGallop+1
  cB minGallop
 unsupported "internal:list.sort.merge-bound"):=rfl
abbrev D2:=v_ (w_ 0)×Nat×Nat×w_ 0×Nat×Nat×Nat
def NF(a b:w_ 0)(g ac bc na nb:Nat)(out:w_ 0):A_ (ForInStep D2):=do
 let z <-elem' a (na-1)
 if na-1 == 0 then pure (.done (a_ (fB a b (q0z 0) (na-1) nb),na-1,nb,q0z 0,g,ac,bc))
 else if ac<7&&bc<7 then pure (.done (b_,na-1,nb,q0z 0,g,ac,bc))
 else pure (.yield (b_,na-1,nb,q0z 0,g,ac,bc))
def NG(a b:w_ 0)(g ac bc nb na:Nat)(out:w_ 0):A_ (ForInStep D2):=do
 let z <-elem' b (nb-1)
 if nb-1 == 1 then pure (.done (a_ (kE a b (q0z 0) na (nb-1)),na,nb-1,q0z 0,g,ac,bc))
 else
  let a_ at_ <-cU true (<-elem' a (na-1)) b 0 (nb-1) (nb-1-1)|pure (.done (a_ (fB a b (q0z 0) na (nb-1)),na,nb-1,q0z 0,g,ac,bc))
  if nb-1-at_>0 then
   if at_ == 1 then pure (.done (a_ (kE a b (q0z 0++(b.extract at_ (nb-1)).reverse) na at_),na,at_,q0z 0++(b.extract at_ (nb-1)).reverse,g,ac,nb-1-at_))
   else if at_ == 0 then pure (.done (a_ (fB a b (q0z 0++(b.extract at_ (nb-1)).reverse) na at_),na,at_,q0z 0++(b.extract at_ (nb-1)).reverse,g,ac,nb-1-at_))
   else NF a b g ac (nb-1-at_) na at_ (q0z 0++(b.extract at_ (nb-1)).reverse)
  else NF a b g ac (nb-1-at_) na (nb-1) (q0z 0)
def NH(a b:w_ 0)(out:w_ 0)(na nb ac bc g:Nat):A_ (ForInStep D2):=do
 cB g
 let a_ at_ <-cU false (<-elem' b (nb-1)) a 0 na (na-1)|pure (.done (a_ (q1c 0),na,nb,out,g,ac,bc))
 if na-at_>0 then
  if at_ == 0 then pure (.done (a_ (fB a b (out++(a.extract at_ na).reverse) at_ nb),at_,nb,out++(a.extract at_ na).reverse,g,na-at_,bc))
  else NG a b g (na-at_) bc nb at_ (out++(a.extract at_ na).reverse)
 else NG a b g (na-at_) bc nb na out
theorem yY(pr:Nat->Keyed)(l:W_ 0):(B_ l).reverse=B_ l.reverse:=by simp[arr]
structure MH(lt:Nat->Nat->Bool)(la lb lo:ve Nat)(na nb:Nat):Prop where
 perm:(la.take na++(lb.take nb++lo)).Perm (la++lb)
 srt:lo.Pairwise λi j=>lt i j=false
 hi:∀o∈lo,∀x∈la.take na++lb.take nb,lt o x=false
variable{na nb:Nat}
section
variable{lt:Nat->Nat->Bool}{lb lo:W_ 0}{k:Nat}
theorem gL{k:Nat}(h:i<=k):l.take k=l.take i++(l.take k).drop i:=by have:=Yh i (l.take k);rw[List.take_take,Nat.min_eq_left h]at this;show this.symm
theorem iB{R:Nat->Nat->Prop}(h:l.Pairwise R)(k:Nat):(l.take k).Pairwise R:=h.sublist (List.take_sublist k l)
theorem Ha{R:Nat->Nat->Prop}(h:l.Pairwise R){k:Nat}(hi:i<=k):∀x∈(l.take k).drop i,∀y∈l.take i,R y x:=λx hx y hy=>by let ht:=iB h k;rw[gL hi]at ht;show(Ya.mp ht).2.2 y hy x hx
theorem MH.pushA(m:N_ 0)(t:S_ 0)(hk:k<=na)(h:∀x∈(la.take na).drop k,∀y∈lb.take nb,lt x y=false):MH lt la lb (lo++((la.take na).drop k).reverse) k nb:=by
 let sub:∀x∈(la.take na).drop k,x∈la.take na:=λx hx=>Yz hx;let dq:∀x∈la.take k,x∈la.take na:=λx hx=>by rw[gL hk];show Yu _ hx
 refine⟨?_,?_,?_⟩
 ·refine Z8 ?_ m.perm
  conv=>rhs;rw[gL (l:=la) hk,XU]
  refine Ys _ ?_;let p1:(lb.take nb++(lo++((la.take na).drop k).reverse)).Perm ((lb.take nb++lo)++(la.take na).drop k):=by rw[<-XU];show Ys _ (ZF _)
  show p1.trans y0Q
 ·rw[Ya];refine⟨m.srt,?_,λo ho x hx=>m.hi o ho x (Yu _ (sub x (ZC.mp hx)))⟩;rw[Zy];show(iB t.sa na).sublist (List.drop_sublist k _)
 ·intro o ho x hx;rcases X7.mp ho with q|q
  ·refine m.hi o q x ?_;rcases X7.mp hx with z|z
   ·show Yu _ (dq x z)
   ·show XS _ z
  ·let q:=ZC.mp q;rcases X7.mp hx with z|z
   ·show Ha t.sa hk o q x z
   ·show h o q x z
theorem MH.pushB(m:N_ 0)(t:S_ 0)(hk:k<=nb)(h:∀x∈(lb.take nb).drop k,∀y∈la.take na,lt x y=false):MH lt la lb (lo++((lb.take nb).drop k).reverse) na k:=by
 let sub:∀x∈(lb.take nb).drop k,x∈lb.take nb:=λx hx=>Yz hx;let dq:∀x∈lb.take k,x∈lb.take nb:=λx hx=>by rw[gL hk];show Yu _ hx
 refine⟨?_,?_,?_⟩
 ·refine Z8 (Ys _ ?_) m.perm;let p1:(lb.take k++(lo++((lb.take nb).drop k).reverse)).Perm (lb.take k++((lb.take nb).drop k++lo)):=by refine Ys _ ?_;show(Ys _ (ZF _)).trans y0Q
  refine p1.trans ?_;rw[<-XU,<-gL hk]
 ·rw[Ya];refine⟨m.srt,?_,λo ho x hx=>m.hi o ho x (XS _ (sub x (ZC.mp hx)))⟩;rw[Zy];show(iB t.sb nb).sublist (List.drop_sublist k _)
 ·intro o ho x hx;rcases X7.mp ho with q|q
  ·refine m.hi o q x ?_;rcases X7.mp hx with z|z
   ·show Yu _ z
   ·show XS _ (dq x z)
  ·let q:=ZC.mp q;rcases X7.mp hx with z|z
   ·show h o q x z
   ·show Ha t.sb hk o q x z
theorem nK(h0:0<i)(h:i<=l.length):(l.take i).drop (i-1)=[l.getD (i-1) 0]:=by
 let hl:(l.take i).length=i:=by rw[X9];omega
 rw[Y5 ⋯,List.drop_of_length_le ⋯,Zh,X8,Yd (show i-1<l.length by omega)];rfl
theorem MH.done(m:N_ 0)(t:S_ 0)(h:na=0\/nb=0):X_ (fB (B_ la) (B_ lb) (B_ lo) na nb):=by
 refine⟨la.take na++lb.take nb++lo.reverse,?_,?_,?_⟩
 ·unfold fB;rw[eS,eS,yY,gJ,gJ,Y0,Y0,y0v,y0v]
 ·refine Z8 ?_ m.perm;rw[XU];show Ys _ (Ys _ (ZF _))
 ·rw[Ya];refine⟨?_,by rw[Zy];show m.srt,λx hx y hy=>m.hi y (ZC.mp hy) x hx⟩;rw[Ya];refine⟨iB t.sa _,iB t.sb _,λx hx y hy=>?_⟩;rcases h with h|h
  ·rw[h]at hx;simp at hx
  ·rw[h]at hy;simp at hy
theorem MH.first(m:N_ 0)(t:S_ 0)(h:nb=1)(hb:0<lb.length)(low:∀x∈la,lt x (lb.getD 0 0)=false):X_ (kE (B_ la) (B_ lb) (B_ lo) na nb):=by
 subst h;let ed:lb.take 1=[lb.getD 0 0]:=by
  have:=eG (l:=lb) (i:=0) hb
  rwa[Y0]at this
 refine⟨lb.take 1++la.take na++lo.reverse,?_,?_,?_⟩
 ·unfold kE;rw[eS,eS,yY,gJ,gJ,Y0,Y0,y0v,y0v]
 ·refine Z8 ?_ m.perm;refine(Ys _ (ZF _)).trans ?_;rw[<-XU];show Z0 _ y0Q
 ·rw[Ya];refine⟨?_,by rw[Zy];show m.srt,λx hx y hy=>m.hi y (ZC.mp hy) x (by rcases X7.mp hx with z|z;show XS _ z;show Yu _ z)⟩;rw[Ya];refine⟨iB t.sb _,iB t.sa _,λx hx y hy=>?_⟩;rw[ed]at hx;simp at hx;rw[hx];have:=low y (Ym hy);simpa using this
end
variable{F1:Nat->v_ (w_ 0)×Nat×Nat×w_ 0×Nat×Nat->A_ (ForInStep (v_ (w_ 0)×Nat×Nat×w_ 0×Nat×Nat))}
section
variable{lt:Nat->Nat->Bool}{lb:W_ 0}
theorem FN(O:p_ 0)(sl:l.Pairwise λi j=>lt j i=false)(nl:∀x∈l,x<n){y c:Nat}(hy:y<n)(h0:0<c)(hc:c<=l.length)(hk:q1j 0=κ){Q:v_ Nat->SortSt->Prop}(k:∀r,r<=c->(0<r->lt y (l.getD (r-1) 0)=false)->(∀x∈(l.take c).drop r,lt y x=true)->Q (a_ r) st):E_ (cU false (pr y) (B_ l) 0 c (c-1)) Q st:=by
 refine kO (bey:=λj=>!lt y (l.getD (0+j) 0)) (λj hj Q' hq=>?_) (λa b h1 h2 h3=>?_) ⋯ (λr h1 h2 h3=>k r h1 (λhr=>?_) (λx hx=>?_))
 ·unfold iA;refine Yc (bE ⋯ ?_);rw[q0a 0];refine Yc (O.run st _ _ hk hy (nl _ (bG ⋯)) _ ?_);show Yk hq
 ·rw[y0B]at h3⊢;by_cases e:a=b
  ·subst e;show h3
  ·let q:=Yq.mp sl (0+a) (0+b) ⋯ ⋯ ⋯;let e1:l.getD (0+a) 0=l[0+a]:=by simp[show a<l.length by omega]
   let e2:l.getD (0+b) 0=l[0+b]:=by simp[show b<l.length by omega]
   rw[e2]at h3;rw[e1];show q1a (nl _ (Yw _)) (nl _ (Yw _)) hy q h3
 ·have:=h2 (r-1) ⋯;rw[y0B,Z9]at this;show this
 ·let⟨j,hj,rfl⟩:=Y7 hx;rw[Yi,X9]at hj;have:=h3 (r+j) ⋯ ⋯;rw[Bool.not_eq_false',Z9]at this;rw[ZP,Zh];simpa[show r+j<l.length by omega] using this
theorem Iz(O:p_ 0)(sl:l.Pairwise λi j=>lt j i=false)(nl:∀x∈l,x<n){y c:Nat}(hy:y<n)(h0:0<c)(hc:c<=l.length)(hk:q1j 0=κ){Q:v_ Nat->SortSt->Prop}(k:∀r,r<=c->(∀x∈l.take r,lt x y=true)->(∀x∈(l.take c).drop r,lt x y=false)->Q (a_ r) st):E_ (cU true (pr y) (B_ l) 0 c (c-1)) Q st:=by refine DU O sl nl hy (i:=0) ⋯ ⋯ hk λr h1 h2 h3=>k r h1 (λx hx=>h2 x (by rw[Y0];show hx)) λx hx=>?_;let⟨j,hj,rfl⟩:=Y7 hx;rw[Yi,X9]at hj;have:=h3 (r+j) ⋯ ⋯;rw[Z9]at this;rw[ZP,Zh];simpa[show r+j<l.length by omega] using this
theorem tU(O:p_ 0)(sl:l.Pairwise λi j=>lt j i=false)(nl:∀x∈l,x<n){x:Nat}(hx:x<n)(h0:0<i)(hi:i<=l.length)(h:lt x (l.getD (i-1) 0)=false):∀y∈l.take i,lt x y=false:=λy hy=>by
 let e:l.getD (i-1) 0=l[i-1]:=by simp[show i-1<l.length by omega]
 let⟨j,hj,rfl⟩:=Y7 hy;rw[X9]at hj;rw[Zh];rw[e]at h;by_cases z:j=i-1
 ·subst z;show h
 ·let q:=Yq.mp sl j (i-1) ⋯ ⋯ ⋯;show q1a (nl _ (Yw _)) (nl _ (Yw _)) hx q h
theorem Two.qa(O:p_ 0)(t:S_ 0){lo:W_ 0}(m:N_ 0)(ha:0<na)(ha':na<=la.length)(h:∀y∈lb.take nb,lt (la.getD (na-1) 0) y=false):MH lt la lb (lo++[la.getD (na-1) 0]) (na-1) nb:=by
 have:=m.pushA t (k:=na-1) ⋯ λx hx=>by rw[nK ha ha']at hx;simp at hx;rw[hx];simpa using h
 rwa[nK ha ha',List.reverse_singleton]at this
theorem Two.qb(O:p_ 0)(t:S_ 0){lo:W_ 0}(m:N_ 0)(hb:0<nb)(hb':nb<=lb.length)(h:∀y∈la.take na,lt (lb.getD (nb-1) 0) y=false):MH lt la lb (lo++[lb.getD (nb-1) 0]) na (nb-1):=by
 have:=m.pushB t (k:=nb-1) ⋯ λx hx=>by rw[nK hb hb']at hx;simp at hx;rw[hx];simpa using h
 rwa[nK hb hb',List.reverse_singleton]at this
def QN(a b:w_ 0)(g:Nat)(c:v_ (w_ 0)×Nat×Nat×w_ 0×Nat×Nat):A_ (ForInStep (v_ (w_ 0)×Nat×Nat×w_ 0×Nat×Nat)):=do
 let a_ w <-lt' (<-elem' b (c.2.2.1-1)) (<-elem' a (c.2.1-1))|pure (.done (a_ (fB a b c.2.2.2.1 c.2.1 c.2.2.1),c.2))
 if w then
  let z <-elem' a (c.2.1-1)
  if c.2.1-1 == 0 then pure (.done (a_ (fB a b (q1v 0) (c.2.1-1) c.2.2.1),c.2.1-1,c.2.2.1,q1v 0,c.2.2.2.2.1+1,0))
  else if c.2.2.2.2.1+1 >= g then pure (.done (b_,c.2.1-1,c.2.2.1,q1v 0,c.2.2.2.2.1+1,0))
  else pure (.yield (b_,c.2.1-1,c.2.2.1,q1v 0,c.2.2.2.2.1+1,0))
 else
  let z <-elem' b (c.2.2.1-1)
  if c.2.2.1-1 == 1 then pure (.done (a_ (kE a b (q1v 0) c.2.1 (c.2.2.1-1)),c.2.1,c.2.2.1-1,q1v 0,0,c.2.2.2.2.2+1))
  else if c.2.2.2.2.2+1 >= g then pure (.done (b_,c.2.1,c.2.2.1-1,q1v 0,0,c.2.2.2.2.2+1))
  else pure (.yield (b_,c.2.1,c.2.2.1-1,q1v 0,0,c.2.2.2.2.2+1))
def QO(a b:w_ 0)(c:D2):A_ (ForInStep D2):=if c.2.2.2.2.1>1 then NH a b c.2.2.2.1 c.2.1 c.2.2.1 c.2.2.2.2.2.1 c.2.2.2.2.2.2 (c.2.2.2.2.1-1) else NH a b c.2.2.2.1 c.2.1 c.2.2.1 c.2.2.2.2.2.1 c.2.2.2.2.2.2 c.2.2.2.2.1
def Ih(pr:Nat->Keyed)(lt:Nat->Nat->Bool)(la lb:W_ 0)(st:SortSt)(p:Nat)(c:D2)(aa:SortSt):Prop:=Sg st aa/\∃lo na nb g ac bc,c=(b_,na,nb,B_ lo,g,ac,bc)/\N_ 0/\(0<na/\na<=la.length)/\(1<nb/\nb<=lb.length)/\p+(na+nb)<=la.length+lb.length
def Qh(pr:Nat->Keyed)(lt:Nat->Nat->Bool)(la lb:W_ 0)(st:SortSt)(p:Nat)(c:D2)(aa:SortSt):Prop:=(Sg st aa/\∃r d,c=(a_ r,d)/\X_ r)\/Ih pr lt la lb st p c aa
def Rh(pr:Nat->Keyed)(lt:Nat->Nat->Bool)(la lb:W_ 0)(st:SortSt)(p:Nat)(r:ForInStep D2)(aa:SortSt):Prop:=match r with
 |.done c=>Qh pr lt la lb st p c aa
 |.yield c=>Ih pr lt la lb st p c aa
theorem E1(O:p_ 0)(t:S_ 0)(sg:Sg st ai){lo:W_ 0}{p:Nat}(m:N_ 0)(ha:0<na/\na<=la.length)(hb:1<nb/\nb<=lb.length)(h:∀y∈lb.take nb,lt (la.getD (na-1) 0) y=false)(pg:p+(na+nb)<=la.length+lb.length)(g ac bc:Nat):E_ (NF (B_ la) (B_ lb) g ac bc na nb (B_ lo)) (Rh pr lt la lb st p) ai:=by
 unfold NF;refine Yc (bE ⋯ ?_);let m':=t.qa O m ha.1 ha.2 h;rw[jH];refine cN (λc3=>?_) λc3=>?_
 ·rw[beq_iff_eq]at c3;show Yk (.inl ⟨sg,_,_,rfl,m'.done t (.inl c3)⟩)
 rw[beq_iff_eq]at c3;refine cN (λc4=>?_) λc4=>?_
 ·show Yk (.inr ⟨sg,_,_,_,_,_,_,rfl,m',⋯,hb,⋯⟩)
 ·show Yk ⟨sg,_,_,_,_,_,_,rfl,m',⋯,hb,⋯⟩
theorem E2(O:p_ 0)(t:S_ 0)(low:∀x∈la,lt x (lb.getD 0 0)=false)(hk:q1j 0=κ)(sg:Sg st ai){lo:W_ 0}{p:Nat}(m:N_ 0)(ha:0<na/\na<=la.length)(hb:1<nb/\nb<=lb.length)(h:lt (lb.getD (nb-1) 0) (la.getD (na-1) 0)=false)(pg:p+(na+nb)<=la.length+lb.length)(g ac bc:Nat):E_ (NG (B_ la) (B_ lb) g ac bc nb na (B_ lo)) (Rh pr lt la lb st p) ai:=by
 unfold NG;refine Yc (bE ⋯ ?_);let hy:lb.getD (nb-1) 0<n:=t.nb _ (bG ⋯);let m':=t.qb O m ⋯ hb.2 (tU O t.sa t.na hy ha.1 ha.2 h);rw[jH];refine cN (λc3=>?_) λc3=>?_
 ·rw[beq_iff_eq]at c3;show Yk (.inl ⟨sg,_,_,rfl,m'.first t c3 ⋯ low⟩)
 rw[beq_iff_eq]at c3;let hx:la.getD (na-1) 0<n:=t.na _ (bG ⋯);refine Yc (bE ⋯ (Yc (Iz O t.sb t.nb hx ⋯ ⋯ (sg.1.trans hk) λr a1 a2 a3=>?_)));dsimp only;let rest:∀y∈lb.take r,lt (la.getD (na-1) 0) y=false:=λy d0=>O.as _ _ (t.nb y (Ym d0)) hx (a2 y d0);by_cases c5:nb-1-r>0
 ·rw[if_pos c5,eS,yY,gJ];let ed:(lb.drop r).take (nb-1-r)=(lb.take (nb-1)).drop r:=by rw[List.drop_take]
  rw[ed];let m2:=m'.pushB t (k:=r) ⋯ λx az=>by let j1:=t.nb x (Ym (Yz az));show tU O t.sa t.na j1 ha.1 ha.2 (a3 x az)
  refine cN (λc6=>?_) λc6=>?_
  ·rw[beq_iff_eq]at c6;show Yk (.inl ⟨sg,_,_,rfl,m2.first t c6 ⋯ low⟩)
  rw[beq_iff_eq]at c6;refine cN (λc7=>?_) λc7=>?_
  ·rw[beq_iff_eq]at c7;show Yk (.inl ⟨sg,_,_,rfl,m2.done t (.inr c7)⟩)
  rw[beq_iff_eq]at c7;show E1 O t sg m2 ha ⋯ rest ⋯ _ _ _
 ·rw[if_neg c5];obtain rfl:r=nb-1:=⋯;show E1 O t sg m' ha ⋯ rest ⋯ _ _ _
theorem E3(O:p_ 0)(t:S_ 0)(low:∀x∈la,lt x (lb.getD 0 0)=false)(hk:q1j 0=κ)(sg:Sg st ai){lo:W_ 0}{p:Nat}(m:N_ 0)(ha:0<na/\na<=la.length)(hb:1<nb/\nb<=lb.length)(pg:p+(na+nb)<=la.length+lb.length)(ac bc g:Nat):E_ (NH (B_ la) (B_ lb) (B_ lo) na nb ac bc g) (Rh pr lt la lb st p) ai:=by
 unfold NH;let hy:lb.getD (nb-1) 0<n:=t.nb _ (bG ⋯);let jv:Sg st (vR g ai):=sg;refine Yc (oF (Yc (bE ⋯ (Yc (FN (st:=vR g ai) O t.sa t.na hy ha.1 ha.2 (sg.1.trans hk) λr a1 a2 a3=>?_)))));dsimp only;by_cases c5:na-r>0
 ·rw[if_pos c5,eS,yY,gJ];let ed:(la.drop r).take (na-r)=(la.take na).drop r:=by rw[List.drop_take]
  rw[ed];let m':=m.pushA t (k:=r) ⋯ λx az=>by let j1:=t.na x (Ym (Yz az));show tU O t.sb t.nb j1 ⋯ hb.2 (O.as _ _ hy j1 (a3 x az))
  refine cN (λc6=>?_) λc6=>?_
  ·rw[beq_iff_eq]at c6;show Yk (.inl ⟨jv,_,_,rfl,m'.done t (.inl c6)⟩)
  rw[beq_iff_eq]at c6;show E2 O t low hk jv m' ⋯ hb (a2 ⋯) ⋯ _ _ _
 ·rw[if_neg c5];obtain rfl:r=na:=⋯;show E2 O t low hk jv m ha hb (a2 ⋯) pg _ _ _
theorem K'(O:p_ 0)(t:S_ 0)(h2:0<lb.length)(low:∀x∈la,lt x (lb.getD 0 0)=false)(hk:q1j 0=κ)(sg:Sg st ai){lo:W_ 0}(m:N_ 0)(ha:0<na/\na<=la.length)(hb:1<nb/\nb<=lb.length)(pg:i+1+j+(na+nb)<=la.length+lb.length)(ac bc g:Nat):
  E_ (QN (B_ la) (B_ lb) g (b_,na,nb,B_ lo,ac,bc)) (λr aa=>match r with
   |.done c=>Sg st aa/\((∃r d,c=(a_ r,d)/\X_ r)\/∃lo na nb ac bc,c=(b_,na,nb,B_ lo,ac,bc)/\N_ 0/\(0<na/\na<=la.length)/\(1<nb/\nb<=lb.length)/\i+2+(na+nb)<=la.length+lb.length)
   |.yield c=>Sg st aa/\∃lo na nb ac bc,c=(b_,na,nb,B_ lo,ac,bc)/\N_ 0/\(0<na/\na<=la.length)/\(1<nb/\nb<=lb.length)/\i+1+(j+1)+(na+nb)<=la.length+lb.length) ai:=by
 unfold QN;dsimp only;let hx:la.getD (na-1) 0<n:=t.na _ (bG ⋯);let hy:lb.getD (nb-1) 0<n:=t.nb _ (bG ⋯);refine Yc (bE ⋯ (Yc (bE ⋯ (Yc (O.run ai _ _ (sg.1.trans hk) hy hx _ ?_)))));dsimp only;cases e:lt (lb.getD (nb-1) 0) (la.getD (na-1) 0) with
 |true=>
  rw[q0s 0];refine Yc (bE ⋯ ?_);let m':=t.qa O m ha.1 ha.2 (tU O t.sb t.nb hx ⋯ hb.2 (O.as _ _ hy hx e));rw[jH];refine cN (λc3=>?_) λc3=>?_
  ·rw[beq_iff_eq]at c3;show Yk ⟨sg,.inl ⟨_,_,rfl,m'.done t (.inl c3)⟩⟩
  rw[beq_iff_eq]at c3;refine cN (λc4=>?_) λc4=>?_
  ·show Yk ⟨sg,.inr ⟨_,_,_,_,_,rfl,m',⋯,hb,⋯⟩⟩
  ·show Yk ⟨sg,_,_,_,_,_,rfl,m',⋯,hb,⋯⟩
 |false=>
  rw[q0a 0];refine Yc (bE ⋯ ?_);let m':=t.qb O m ⋯ hb.2 (tU O t.sa t.na hy ha.1 ha.2 e);rw[jH];refine cN (λc3=>?_) λc3=>?_
  ·rw[beq_iff_eq]at c3;show Yk ⟨sg,.inl ⟨_,_,rfl,m'.first t c3 h2 low⟩⟩
  rw[beq_iff_eq]at c3;refine cN (λc4=>?_) λc4=>?_
  ·show Yk ⟨sg,.inr ⟨_,_,_,_,_,rfl,m',ha,⋯,⋯⟩⟩
  ·show Yk ⟨sg,_,_,_,_,_,rfl,m',ha,⋯,⋯⟩
theorem Ka(O:p_ 0)(t:S_ 0)(low:∀x∈la,lt x (lb.getD 0 0)=false)(hk:q1j 0=κ){p:Nat}{c:D2}(hi:Ih pr lt la lb st p c ai):E_ (QO (B_ la) (B_ lb) c) (Rh pr lt la lb st p) ai:=by let⟨sg,lo,na,nb,g,ac,bc,rfl,m,ha,hb,pg⟩:=hi;unfold QO;show cN (λ_=>E3 O t low hk sg m ha hb pg ac bc (g-1)) λ_=>E3 O t low hk sg m ha hb pg ac bc g
theorem NI(O:p_ 0)(t:S_ 0)(h2:0<lb.length)(low:∀x∈la,lt x (lb.getD 0 0)=false)(hk:q1j 0=κ){u:Nat}(hu:u=la.length+lb.length)(hi:i<u)(sg:Sg st aa){lo:W_ 0}{g:Nat}(m:N_ 0)(ha:0<na/\na<=la.length)(hb:1<nb/\nb<=lb.length)(pg:i+1+(na+nb)<=la.length+lb.length){K:v_ (w_ 0)×Nat×Nat×w_ 0×Nat×Nat->A_ (ForInStep (v_ (w_ 0)×Nat×Nat×w_ 0×Nat))}{F2:Nat->D2->A_ (ForInStep D2)}{K2:D2->A_ (ForInStep (v_ (w_ 0)×Nat×Nat×w_ 0×Nat))}(e1:∀j c,F1 j c=QN (B_ la) (B_ lb) g c)(e2:∀j c,F2 j c=QO (B_ la) (B_ lb) c)(k1:∀r d,K (a_ r,d)=pure (.done (a_ r,d.1,d.2.1,d.2.2.1,g)))(k2:∀d,K (b_,d)=((liftM (rule "list.sort.gallop"):A_ Unit) >>= λ_=>forIn [0:u] (b_,d.1,d.2.1,d.2.2.1,g+1,d.2.2.2.1,d.2.2.2.2) F2 >>= K2))(k3:∀r d,K2 (a_ r,d)=pure (.done (a_ r,d.1,d.2.1,d.2.2.1,d.2.2.2.1)))(k4:∀d,K2 (b_,d)=(cB (d.2.2.2.1+1) >>= λ_=>pure (.yield (b_,d.1,d.2.1,d.2.2.1,d.2.2.2.1+1)))):
  E_ (forIn [0:u] (b_,na,nb,B_ lo,0,0) F1 >>= K) (λr aa=>match r with
   |.done c'=>Sg st aa/\∃r d,c'=(a_ r,d)/\X_ r
   |.yield c'=>Sg st aa/\∃lo na nb g,c'=(b_,na,nb,B_ lo,g)/\N_ 0/\(0<na/\na<=la.length)/\(1<nb/\nb<=lb.length)/\i+1+1+(na+nb)<=la.length+lb.length) aa:=by
 refine Yc (y0h (Zr (λj c ag=>Sg st ag/\∃lo na nb ac bc,c=(b_,na,nb,B_ lo,ac,bc)/\N_ 0/\(0<na/\na<=la.length)/\(1<nb/\nb<=lb.length)/\i+1+j+(na+nb)<=la.length+lb.length) (Q:=λc ag=>Sg st ag/\((∃r d,c=(a_ r,d)/\X_ r)\/∃lo na nb ac bc,c=(b_,na,nb,B_ lo,ac,bc)/\N_ 0/\(0<na/\na<=la.length)/\(1<nb/\nb<=lb.length)/\i+2+(na+nb)<=la.length+lb.length)) (λj c ag _ hj=>?_) (λc ag=>?_) ⟨sg,lo,na,nb,0,0,rfl,m,ha,hb,⋯⟩) λc ag hq=>?_)
 ·rintro⟨sg,lo,na,nb,ac,bc,rfl,m,ha,hb,pg⟩;rw[e1];show y0h (K' O t h2 low hk sg m ha hb pg ac bc g) λr _ h=>by cases r <;> exact h
 ·rintro⟨sg,lo,na,nb,ac,bc,rfl,m,ha,hb,pg⟩;show⟨sg,.inr ⟨_,_,_,_,_,rfl,m,ha,hb,⋯⟩⟩
 ·obtain⟨sg,⟨r,d,rfl,mg⟩|⟨lo,na,nb,ac,bc,rfl,m,ha,hb,pg⟩⟩:=hq
  ·rw[k1];show Yk ⟨sg,_,_,rfl,mg⟩
  rw[k2];refine Yc (nJ ?_);refine Yc (y0h (Zr (λj c ag=>Ih pr lt la lb st (i+2) c ag) (Q:=Qh pr lt la lb st (i+2)) (λj c ag _ hj=>?_) (λc ag h=>.inr h) ⟨sg,lo,na,nb,_,ac,bc,rfl,m,ha,hb,pg⟩) λc ag hq=>?_)
  ·rw[e2];show λhi=>y0h (Ka O t low hk hi) λr _ h=>by cases r <;> exact h
  ·rcases hq with⟨sg,r,d,rfl,mg⟩|⟨sg,lo,na,nb,g,ac,bc,rfl,m,ha,hb,pg⟩
   ·rw[k3];show Yk ⟨sg,_,_,rfl,mg⟩
   ·rw[k4];show Yc (oF (Yk ⟨sg,_,_,_,_,rfl,m,ha,hb,⋯⟩))
theorem E4(O:p_ 0)(t:S_ 0)(h1:0<la.length)(h2:0<lb.length)(low:∀x∈la,lt x (lb.getD 0 0)=false)(top:∀x∈lb,lt (la.getD (la.length-1) 0) x=false)(hk:q1j 0=κ){Q:w_ 0->SortSt->Prop}(k:∀out aa,Sg st aa->X_ out->Q out aa):E_ (zY (B_ la) (B_ lb)) Q st:=by
 let m0:MH lt la lb [] la.length lb.length:=⟨by simp,ZE,λo ho=>by simp at ho⟩;let m1:=t.qa O m0 h1 (X1 _) (λy hy=>top y (Ym hy));rw[DZ,eY,eY];refine Pz (l:=la) (j:=la.length-1) ⋯ (λc1=>k _ _ (Sg.refl _) (m1.done t (.inl (beq_iff_eq.mp c1)))) (λc2=>k _ _ (Sg.refl _) (m1.first t (beq_iff_eq.mp c2) h2 low)) λc1 c2=>?_
 rw[beq_iff_eq]at c1 c2;refine(y0h (Zr (λi c aa=>Sg st aa/\∃lo na nb g,c=(b_,na,nb,B_ lo,g)/\N_ 0/\(0<na/\na<=la.length)/\(1<nb/\nb<=lb.length)/\i+1+(na+nb)<=la.length+lb.length) (Q:=λc aa=>Sg st aa/\∃r d,c=(a_ r,d)/\X_ r) (λi c aa _ hi=>?_) (λc aa=>?_) ⟨Sg.refl _,[la.getD (la.length-1) 0],_,_,_,rfl,m1,⋯,⋯,⋯⟩) λc aa hq=>?_)
 ·rintro⟨sg,lo,na,nb,g,rfl,m,ha,hb,pg⟩;show y0h (NI O t h2 low hk rfl hi sg m ha hb pg (λ_ _=>rfl) (λ_ _=>rfl) (λ_ _=>rfl) (λ_=>rfl) (λ_ _=>rfl) (λ_=>rfl)) λr _ h=>by cases r <;> exact h
 ·rintro⟨sg,lo,na,nb,g,rfl,m,ha,hb,pg⟩;omega
 ·let⟨sg,r,d,rfl,mg⟩:=hq;show Yk (k _ _ sg mg)
end
theorem E5(i:Nat):mergeAt' i=(do
 let s <-get
 let (a_ (sa,na,power),a_ (sb,nb,_)):=((YS s)[i]?,(YS s)[i+1]?)|unsupported "internal:list.sort.pending"
 set (y05 s (((YS s).setIfInBounds i (sa,na+nb,power)).eraseIdxIfInBounds (i+1)))
 let a_ k <-cU false (<-elem' (arrOf s) sb) (arrOf s) sa na 0|return false
 let (sa,na):=(sa+k,na-k)
 if na == 0 then return true
 let a_ nb <-cU true (<-elem' (arrOf s) (sa+na-1)) (arrOf s) sb nb (nb-1)|return false
 if nb == 0 then return true
 let x:=(arrOf s).extract sa sb
 let y:=(arrOf s).extract sb (sb+nb)
 let merged <-if na<=nb then zX x y else zY x y
 modify λs=>setArr s (merged.toList.zipIdx.foldl (λa(p,j)=>a.setIfInBounds (sa+j) p) (arrOf s))
 return(y0P (<-get)).isNone):=rfl
variable{Y:W_ 0}{U Z:W_ 0}
section
variable{lt:Nat->Nat->Bool}
theorem yZ{X S:W_ 0}(h:j<S.length):(X++(S++Y)).getD (X.length+j) 0=S.getD j 0:=by rw[X8,XX ⋯,Zk,Yb h,X8]
theorem FO(O:p_ 0){X S:W_ 0}(sl:S.Pairwise λi j=>lt j i=false)(nl:∀x∈S,x<n){y:Nat}(hy:y<n)(hh:hint<S.length)(hk:q1j 0=κ){Q:v_ Nat->SortSt->Prop}(k:∀r,r<=S.length->(∀x∈S.take r,lt y x=false)->(∀x∈S.drop r,lt y x=true)->Q (a_ r) st):E_ (cU false (pr y) (B_ (X++(S++Y))) X.length S.length hint) Q st:=by
 refine kO (bey:=λj=>!lt y (S.getD j 0)) (λj hj Q' hq=>?_) (λa b h1 h2 h3=>?_) hh (λr h1 h2 h3=>k r h1 (λx hx=>?_) (λx hx=>?_))
 ·unfold iA;refine Yc (bE (by rw[X6,X6];omega) ?_);rw[q0a 0,yZ hj];refine Yc (O.run st _ _ hk hy (nl _ (bG hj)) _ ?_);show Yk hq
 ·rw[y0B]at h3⊢;by_cases e:a=b
  ·subst e;show h3
  ·let q:=Yq.mp sl a b ⋯ ⋯ ⋯;let e1:S.getD a 0=S[a]:=by simp[show a<S.length by omega]
   let e2:S.getD b 0=S[b]:=by simp[show b<S.length by omega]
   rw[e2]at h3;rw[e1];show q1a (nl _ (Yw _)) (nl _ (Yw _)) hy q h3
 ·let⟨j,hj,rfl⟩:=Y7 hx;rw[X9]at hj;have:=h2 j ⋯;rw[y0B]at this;rw[Zh];simpa[show j<S.length by omega] using this
 ·let⟨j,hj,rfl⟩:=Y7 hx;rw[Yi]at hj;have:=h3 (r+j) ⋯ ⋯;rw[Bool.not_eq_false']at this;rw[ZP];simpa[show r+j<S.length by omega] using this
theorem IA(O:p_ 0){X S P:W_ 0}{o:Nat}(hP:P=X++(S++Y))(ho:o=X.length)(sl:S.Pairwise λi j=>lt j i=false)(nl:∀x∈S,x<n){y:Nat}(hy:y<n)(hh:hint<S.length)(hk:q1j 0=κ){Q:v_ Nat->SortSt->Prop}(k:∀r,r<=S.length->(∀x∈S.take r,lt x y=true)->(∀x∈S.drop r,lt x y=false)->Q (a_ r) st):E_ (cU true (pr y) (B_ P) o S.length hint) Q st:=by
 subst hP ho;refine kO (bey:=λj=>lt (S.getD j 0) y) (λj hj Q' hq=>?_) (λa b h1 h2 h3=>?_) hh (λr h1 h2 h3=>k r h1 (λx hx=>?_) (λx hx=>?_))
 ·unfold iA;refine Yc (bE (by rw[X6,X6];omega) ?_);rw[q0s 0,yZ hj];show O.run st _ _ hk (nl _ (bG hj)) hy _ hq
 ·by_cases e:a=b
  ·subst e;show h3
  ·let q:=Yq.mp sl a b ⋯ ⋯ ⋯;let e1:S.getD a 0=S[a]:=by simp[show a<S.length by omega]
   let e2:S.getD b 0=S[b]:=by simp[show b<S.length by omega]
   change lt (S.getD a 0) y=true
   let h3:lt (S.getD b 0) y=true:=h3;rw[e2]at h3;rw[e1];cases z:lt S[a] y with
   |true=>rfl
   |false=>have:=O.tr y _ _ hy (nl _ (Yw _)) (nl _ (Yw _)) z q;rw[this]at h3;cases h3
 ·let⟨j,hj,rfl⟩:=Y7 hx;rw[X9]at hj;have:lt (S.getD j 0) y=true:=h2 j ⋯;rw[Zh];simpa[show j<S.length by omega] using this
 ·let⟨j,hj,rfl⟩:=Y7 hx;rw[Yi]at hj;have:lt (S.getD (r+j) 0) y=false:=h3 (r+j) ⋯ ⋯;rw[ZP];simpa[show r+j<S.length by omega] using this
theorem Kb(pr:Nat->Keyed):∀(W X D Y:W_ 0),D.length=W.length->(W.map pr).zipIdx.foldl (λ(a:w_ 0)(p:Keyed×Nat)=>a.setIfInBounds (X.length+p.2) p.1) (B_ (X++(D++Y)))=B_ (X++(W++Y))
 |W,X,D,Y,h=>by
  let gen:∀(W D:W_ 0)(X:W_ 0)(c:Nat)(o:Nat),D.length=W.length->X.length=o+c->((W.map pr).zipIdx c).foldl (λ(a:w_ 0)(p:Keyed×Nat)=>a.setIfInBounds (o+p.2) p.1) (B_ (X++(D++Y)))=B_ (X++(W++Y)):=by
   intro W
   induction W with
   |nil=>intro D X c o h1 h2;simp at h1;subst h1;rfl
   |cons w W ih=>
    intro D X c o h1 h2;cases D with
    |nil=>simp at h1
    |cons d D=>
     rw[YA,List.zipIdx_cons,y1w];let e:(B_ (X++(d::D++Y))).setIfInBounds (o+c) (pr w)=B_ ((X++[w])++(D++Y)):=by
      unfold arr;rw[List.setIfInBounds_toArray];congr 1;rw[<-h2,YF,List.set_append_right _ _ (by simp)];simp
     let e':(B_ (X++(d::D++Y))).setIfInBounds (o+(pr w,c).2) (pr w,c).1=B_ ((X++[w])++(D++Y)):=e;rw[e',ih D (X++[w]) (c+1) o (i_ h1) (by simp;omega)];simp
  show gen W D X 0 X.length h rfl
theorem NJ{Q:PUnit->SortSt->Prop}(h:Q ⟨⟩ aa):E_ (set aa:A_ PUnit) Q st:=by unfold wpS;rw[StateT.run_set];show XM ⟨rfl,h⟩
def Srt(lt:Nat->Nat->Bool)(l:W_ 0):Prop:=l.Pairwise λi j=>lt j i=false
theorem Hb{X:W_ 0}{r c:Nat}(h:r+c<=U.length):((X++(U++Z)).drop (X.length+r)).take c=(U.drop r).take c:=by
 rw[List.drop_append,List.drop_of_length_le ⋯,Zx,Zk,List.drop_append,List.take_append];let e:c-(U.drop r).length=0:=by rw[Yi];omega
 rw[e,List.take_zero,YY]
theorem E6(O:p_ 0){X V:W_ 0}(sU:Srt lt U)(sV:Srt lt V)(nU:∀x∈U,x<n)(nV:∀x∈V,x<n)(lU:0<U.length)(lV:0<V.length)(hk:q1j 0=κ)(hf:y0P st=b_)(ha:arrOf st=B_ (X++(U++(V++Y)))){w w':Nat}(p1:(YS st)[i]?=a_ (X.length,U.length,w))(p2:(YS st)[i+1]?=a_ (X.length+U.length,V.length,w')){Q:Bool->SortSt->Prop}(k:∀W aa,W.Perm (U++V)->Srt lt W->arrOf aa=B_ (X++(W++Y))->YS aa=((YS st).setIfInBounds i (X.length,U.length+V.length,w)).eraseIdxIfInBounds (i+1)->kindOf aa=κ->y0P aa=b_->Q true aa):E_ (mergeAt' i) Q st:=by
 rw[E5]
 refine Yc (wpS_get ?_)
 rw[p1,p2,ha]
 dsimp only
 refine Yc (NJ ?_)
 have k1:kindOf (y05 st (((YS st).setIfInBounds i (X.length,U.length+V.length,w)).eraseIdxIfInBounds (i+1)))=κ:=hk
 have f1:y0P (y05 st (((YS st).setIfInBounds i (X.length,U.length+V.length,w)).eraseIdxIfInBounds (i+1)))=b_:=hf
 have q1:YS (y05 st (((YS st).setIfInBounds i (X.length,U.length+V.length,w)).eraseIdxIfInBounds (i+1)))=((YS st).setIfInBounds i (X.length,U.length+V.length,w)).eraseIdxIfInBounds (i+1):=rfl
 have a0:arrOf (y05 st (((YS st).setIfInBounds i (X.length,U.length+V.length,w)).eraseIdxIfInBounds (i+1)))=B_ (X++(U++(V++Y))):=ha
 generalize y05 st (((YS st).setIfInBounds i (X.length,U.length+V.length,w)).eraseIdxIfInBounds (i+1))=st1 at k1 f1 q1 a0
 have v0:V.getD 0 0∈V:=bG lV
 have zU:U.getD (U.length-1) 0∈U:=bG ⋯
 have eV:(X++(U++(V++Y))).getD (X.length+U.length) 0=V.getD 0 0:=by
  have:=yZ (X:=X++U) (S:=V) (Y:=Y) (j:=0) lV
  rwa[y14,X6,XU]at this
 refine Yc (bE (by simp;omega) ?_)
 rw[eV]
 refine Yc (FO O (S:=U) sU nU (nV _ v0) lU k1 λr a1 a2 a3=>?_)
 dsimp only
 have join:∀x∈U,lt (V.getD 0 0) x=false->∀y∈V,lt y x=false:=λx hx h=>by
  have:=tT O sV nV (i:=0) (nU x hx) lV h
  rwa[Y0]at this
 by_cases c1:(U.length-r == 0)=true
 ·rw[if_pos c1]
  rw[beq_iff_eq]at c1
  refine Yk (k (U++V) st1 (Zd _) ?_ (by rw[a0,XU]) q1 k1 f1)
  unfold Srt
  rw[Ya]
  refine⟨sU,sV,λx hx=>join x hx (a2 x ?_)⟩
  rw[YW ⋯]
  exact hx
 rw[if_neg c1]
 rw[beq_iff_eq]at c1
 have eZ:(X++(U++(V++Y))).getD (X.length+r+(U.length-r)-1) 0=U.getD (U.length-1) 0:=by
  rw[show X.length+r+(U.length-r)-1=X.length+(U.length-1) by omega]
  exact yZ ⋯
 refine Yc (bE (by simp;omega) ?_)
 rw[eZ]
 refine Yc (IA O (X:=X++U) (S:=V) (Y:=Y) (by rw[XU]) (by rw[X6]) sV nV (nU _ zU) ⋯ k1 λnb b1 b2 b3=>?_)
 dsimp only
 have zq:∀x∈U,lt (U.getD (U.length-1) 0) x=false:=λx hx=>by
  let⟨j,hj,rfl⟩:=Y7 hx
  have e:U.getD (U.length-1) 0=U[U.length-1]:=by simp[show U.length-1<U.length by omega]
  rw[e]
  by_cases z:j=U.length-1
  ·subst z
   cases q:lt U[U.length-1] U[U.length-1] with
   |false=>rfl
   |true=>have:=O.as _ _ (nU _ (Yw _)) (nU _ (Yw _)) q;rw[q]at this;exact this
  ·exact Yq.mp sU j (U.length-1) hj ⋯ ⋯
 by_cases c2:(nb == 0)=true
 ·rw[if_pos c2]
  rw[beq_iff_eq]at c2
  subst c2
  refine Yk (k (U++V) st1 (Zd _) ?_ (by rw[a0,XU]) q1 k1 f1)
  unfold Srt
  rw[Ya]
  refine⟨sU,sV,λx hx y hy=>?_⟩
  exact q1a (nU x hx) (nU _ zU) (nV y hy) (zq x hx) (b3 y (by rw[Y0];exact hy))
 rw[if_neg c2]
 rw[beq_iff_eq]at c2
 have ex:(B_ (X++(U++(V++Y)))).extract (X.length+r) (X.length+U.length)=B_ (U.drop r):=by rw[eS,show X.length+U.length-(X.length+r)=U.length-r by omega,Hb ⋯,YW (by rw[Yi];omega)]
 have ey:(B_ (X++(U++(V++Y)))).extract (X.length+U.length) (X.length+U.length+nb)=B_ (V.take nb):=by
  have:=Hb (X:=X++U) (U:=V) (Z:=Y) (r:=0) (c:=nb) ⋯
  rw[eS,Zk]
  rw[XU,X6,y14,Y0]at this
  rw[this]
 rw[ex,ey]
 have t:Two lt n (U.drop r) (V.take nb):=⟨gF sU r,iB sV nb,λx hx=>nU x (Yz hx),λx hx=>nV x (Ym hx)⟩
 have l1:0<(U.drop r).length:=by rw[Yi];omega
 have l2:0<(V.take nb).length:=by rw[X9];omega
 have g1:(V.take nb).getD 0 0=V.getD 0 0:=by rw[X8,List.getElem?_take,if_pos ⋯,X8]
 have g2:(U.drop r).getD ((U.drop r).length-1) 0=U.getD (U.length-1) 0:=by
  rw[X8,y1q,Yi,X8]
  congr 2
  omega
 have top:∀x∈V.take nb,lt ((U.drop r).getD ((U.drop r).length-1) 0) x=false:=λx hx=>by
  rw[g2]
  exact O.as _ _ (t.nb x hx) (nU _ zU) (b2 x hx)
 have low:∀x∈U.drop r,lt x ((V.take nb).getD 0 0)=false:=λx hx=>by
  rw[g1]
  exact O.as _ _ (nV _ v0) (t.na x hx) (a3 x hx)
 have first:lt ((V.take nb).getD 0 0) ((U.drop r).getD 0 0)=true:=by
  rw[g1]
  exact a3 _ (bG l1)
 have fin:∀out au,Sg st1 au->Mgd pr lt (U.drop r) (V.take nb) out->E_ (do
   modify λs=>setArr s (out.toList.zipIdx.foldl (λa(p,j)=>a.setIfInBounds (X.length+r+j) p) (arrOf s))
   return(y0P (<-get)).isNone) Q au:=λout au sg mg=>by
  let⟨W0,rfl,pW,sW⟩:=mg
  refine Yc (wpS_modify (Yc (wpS_get ?_)))
  have eW:=Kb pr W0 (X++U.take r) (U.drop r++V.take nb) (V.drop nb++Y) pW.length_eq.symm
  have eP:(X++U.take r)++((U.drop r++V.take nb)++(V.drop nb++Y))=X++(U++(V++Y)):=by
   conv=>rhs;rw[<-Yh r U,<-Yh nb V]
   simp only[XU]
  have eL:(X++U.take r).length=X.length+r:=by rw[X6,X9];omega
  rw[eP,eL]at eW
  have eA:arrOf au=B_ (X++(U++(V++Y))):=sg.2.1.trans a0
  have eT:(B_ W0).toList=W0.map pr:=by simp[arr]
  have ef:y0P (setArr au ((B_ W0).toList.zipIdx.foldl (λa(x:Keyed×Nat)=>a.setIfInBounds (X.length+r+x.2) x.1) (arrOf au)))=b_:=sg.2.2.2.trans f1
  show E_ (pure (y0P (setArr au ((B_ W0).toList.zipIdx.foldl (λa(x:Keyed×Nat)=>a.setIfInBounds (X.length+r+x.2) x.1) (arrOf au)))).isNone) Q (setArr au ((B_ W0).toList.zipIdx.foldl (λa(x:Keyed×Nat)=>a.setIfInBounds (X.length+r+x.2) x.1) (arrOf au)))
  rw[ef]
  have pw:(U.take r++(W0++V.drop nb)).Perm (U++V):=by
   conv=>rhs;rw[<-Yh r U,<-Yh nb V,XU]
   refine Ys _ ?_
   rw[<-XU]
   exact Z0 _ pW
  have nq:∀x∈W0,x∈U.drop r\/x∈V.take nb:=λx hx=>X7.mp (pW.mem_iff.mp hx)
  refine Yk (k (U.take r++(W0++V.drop nb)) _ pw ?_ ?_ (sg.2.2.1.trans q1) (sg.1.trans k1) ef)
  ·unfold Srt
   have v5:∀x∈U.take r,∀y∈U.drop r,lt y x=false:=λx hx y hy=>by
    have:=sU
    unfold Srt at this
    rw[<-Yh r U]at this
    exact(Ya.mp this).2.2 x hx y hy
   have we:∀x∈V.take nb,∀y∈V.drop nb,lt y x=false:=λx hx y hy=>by
    have:=sV
    unfold Srt at this
    rw[<-Yh nb V]at this
    exact(Ya.mp this).2.2 x hx y hy
   have UV:∀x∈U.take r,∀y∈V,lt y x=false:=λx hx=>join x (Ym hx) (a2 x hx)
   rw[Ya]
   refine⟨iB sU r,?_,λx hx y hy=>?_⟩
   ·rw[Ya]
    refine⟨sW,gF sV nb,λx hx y hy=>?_⟩
    rcases nq x hx with q|q
    ·have xg:=Yz q
     exact q1a (nU x xg) (nU _ zU) (nV y (Yz hy)) (zq x xg) (b3 y hy)
    ·exact we x q y hy
   ·rcases X7.mp hy with q|q
    ·rcases nq y q with z|z
     ·exact v5 x hx y z
     ·exact UV x hx y (Ym z)
    ·exact UV x hx y (Yz q)
  ·show(B_ W0).toList.zipIdx.foldl (λa(x:Keyed×Nat)=>a.setIfInBounds (X.length+r+x.2) x.1) (arrOf au)=_
   rw[eA,eT,eW]
   congr 1
   simp only[XU]
 by_cases c3:U.length-r<=nb
 ·rw[if_pos c3]
  exact Yc (DY O t l1 l2 first top k1 fin)
 ·rw[if_neg c3]
  exact Yc (E4 O t l1 l2 low top k1 fin)
end
def Kc(lo bo n:Nat):A_ (v_ Nat):=do
 let mut n:=n
 for _ in [n:bo] do
  let a_ smaller <-ltAt' (lo+n) (lo+n-1)|return b_
  if smaller then break
  n:=n+1
 return a_ n
def Kd(lo bo n:Nat):A_ (v_ Nat):=do
 reverseSlice' lo (lo+n)
 Kc lo bo n
def FP(lo bo n:Nat):A_ (v_ Nat):=do
 rule "list.sort.descending-run"
 let mut n:=n+1
 let mut neq:=0
 for _ in [n:bo] do
  let a_ smaller <-ltAt' (lo+n) (lo+n-1)|return b_
  if smaller then
   if neq>0 then reverseSlice' (lo+n-(neq+1)) (lo+n)
   neq:=0
  else
   let a_ larger <-ltAt' (lo+n-1) (lo+n)|return b_
   if larger then break
   neq:=neq+1
  n:=n+1
 if neq>0 then reverseSlice' (lo+n-(neq+1)) (lo+n)
 Kd lo bo n
theorem Cm(lo bo:Nat):countRun' lo bo=(do
 let mut n:=1
 for _ in [1:bo] do
  let a_ smaller <-ltAt' (lo+n) (lo+n-1)|return b_
  if smaller then break
  n:=n+1
 if n == bo then return a_ n
 if n>1 then
  let a_ rose <-ltAt' lo (lo+n-1)|return b_
  if rose then return a_ n
  reverseSlice' lo (lo+n)
 FP lo bo n):=rfl
variable{pd:Array (Nat×Nat×Nat)}{m:Nat}
section
variable{lt:Nat->Nat->Bool}
theorem Cn{X:W_ 0}(j:Nat):(X++Z).getD (X.length+j) 0=Z.getD j 0:=by rw[X8,XX ⋯,Zk,X8]
structure Tl(pr:Nat->Keyed)(κ:y0e)(X Z:ve Nat)(pd:Array (Nat×Nat×Nat))(st:SortSt):Prop where
 a:arrOf st=arr pr (X++Z)
 k:kindOf st=κ
 p:YS st=pd
 f:y0P st=none
theorem rC(O:p_ 0){X:W_ 0}(T:q0I Z pd st)(nZ:∀x∈Z,x<n)(hi:i<Z.length)(hj:j<Z.length){Q:v_ Bool->SortSt->Prop}(h:Q (a_ (lt (Z.getD i 0) (Z.getD j 0))) st):E_ (ltAt' (X.length+i) (X.length+j)) Q st:=by rw[ltAt'_eq];refine Yc (wpS_get ?_);rw[T.a];refine Yc (bE (by simp;omega) (Yc (bE (by simp;omega) ?_)));rw[Cn,Cn];show O.run st _ _ T.k (nZ _ (bG hi)) (nZ _ (bG hj)) _ h
theorem FQ(pr:Nat->Keyed)(X B Y:W_ 0):mirror (B_ (X++(B++Y))) X.length (X.length+B.length) ((X.length+B.length-X.length)/2)=B_ (X++(B.reverse++Y)):=by
 apply Array.ext_getElem?;intro k;let g:∀(l:W_ 0)(k:Nat),(B_ l)[k]?=(l[k]?).map pr:=λl k=>by simp[arr]
 rw[getElem?_mirror_all (by rw[eY];simp),g,g,g];split
 ·rename_i h;rw[XX ⋯,Yb ⋯,XX ⋯,Yb (by rw[ZM];omega),List.getElem?_reverse ⋯];congr 2;omega
 ·rename_i h;by_cases c:k<X.length
  ·rw[Yb c,Yb c]
  ·rw[XX ⋯,XX ⋯,XX ⋯,XX (by rw[ZM];omega),ZM]
theorem Co{X B D:W_ 0}(T:q0I Z pd st)(e:Z=D++(B++Y))(hi:i=X.length+D.length)(hj:j=X.length+D.length+B.length){Q:Unit->SortSt->Prop}(h:∀aa,q0I (D++(B.reverse++Y)) pd aa->Q () aa):E_ (reverseSlice' i j) Q st:=by
 rw[reverseSlice'_eq];refine wpS_modify (h _ ⟨?_,T.k,T.p,T.f⟩)
 change mirror (arrOf st) i j ((j-i)/2)=_
 have:=FQ pr (X++D) B Y;rw[X6,XU,XU]at this;rw[T.a,e,hi,hj,this]
def Dsc(lt:Nat->Nat->Bool)(l:W_ 0):Prop:=l.Pairwise λi j=>lt i j=false
theorem Dsc.rev(h:Dsc lt l):Srt lt l.reverse:=by unfold Srt;rw[Zy];show h
theorem Srt.rev(h:Srt lt l):Dsc lt l.reverse:=by unfold Dsc;rw[Zy];show h
theorem take_one(h:m<Z.length):Z.take (m+1)=q1d 0++[Z.getD m 0]:=by rw[y0C,X8,Yd h];rfl
theorem BI(h0:0<m)(h:m<=Z.length):∃l,q1d 0=l++[Z.getD (m-1) 0]:=⟨Z.take (m-1),by
 have:=take_one (Z:=Z) (m:=m-1) ⋯
 rwa[show m-1+1=m by omega]at this⟩
theorem Srt.more(O:p_ 0)(nZ:∀x∈Z,x<n)(h0:0<m)(hm:m<Z.length)(h:Srt lt (q1d 0))(e:lt (Z.getD m 0) (Z.getD (m-1) 0)=false):Srt lt (Z.take (m+1)):=by
 let⟨l,el⟩:=BI (Z:=Z) h0 ⋯;let n1:∀x∈Z.take m,x<n:=λx hx=>nZ x (Ym hx);let ny:Z.getD m 0<n:=nZ _ (bG hm);rw[take_one hm];unfold Srt at h⊢;rw[Ya];refine⟨h,by simp,λx hx y hy=>?_⟩;simp at hy;let hy:y=Z.getD m 0:=by simpa using hy
 rw[hy];let WT:=n1 x hx;rw[el]at h hx n1;rcases X7.mp hx with q|q
 ·have:=(Ya.mp h).2.2 x q (Z.getD (m-1) 0) (by simp);show q1a WT (n1 _ (by simp)) ny this e
 ·let q:x=Z.getD (m-1) 0:=by simpa using q
  rw[q];show e
theorem IB(O:p_ 0){X:W_ 0}(T:q0I Z pd st)(nZ:∀x∈Z,x<n)(h0:0<m)(hm:m<=Z.length)(hs:Srt lt (q1d 0)){Q:v_ Nat->SortSt->Prop}(k:∀r,0<r->r<=Z.length->Srt lt (Z.take r)->Q (a_ r) st):E_ (Kc X.length Z.length m) Q st:=by
 unfold Kc;refine Yc (y0h (Zr (λi c aa=>aa=st/\c=(b_,i)/\Srt lt (Z.take i)) (Q:=λc aa=>aa=st/\∃r,c=(b_,r)/\0<r/\r<=Z.length/\Srt lt (Z.take r)) (λi c aa h1 h2=>?_) (λc aa=>?_) ⟨rfl,rfl,hs⟩) λc aa hq=>?_)
 ·rintro⟨rfl,rfl,hs⟩;dsimp only;rw[show X.length+i-1=X.length+(i-1) by omega];refine Yc (rC O T nZ h2 ⋯ ?_);dsimp only;cases e:lt (Z.getD i 0) (Z.getD (i-1) 0) with
  |true=>rw[q0s 0];show Yk ⟨rfl,i,rfl,⋯,⋯,hs⟩
  |false=>rw[q0a 0];show Yk ⟨rfl,rfl,hs.more O nZ ⋯ h2 e⟩
 ·rintro⟨rfl,rfl,hs⟩;show⟨rfl,_,rfl,⋯,⋯,hs⟩
 ·let⟨rfl,r,rfl,a1,a2,a3⟩:=hq;show Yk (k r a1 a2 a3)
theorem BJ(O:p_ 0){X:W_ 0}(T:q0I Z pd st)(nZ:∀x∈Z,x<n)(h0:0<m)(hm:m<=Z.length)(hs:Dsc lt (q1d 0)){Q:v_ Nat->SortSt->Prop}(k:∀r Z' aa,0<r->r<=Z'.length->Z'.Perm Z->Srt lt (Z'.take r)->q0I Z' pd aa->Q (a_ r) aa):E_ (Kd X.length Z.length m) Q st:=by
 unfold Kd;let lm:(q1d 0).length=m:=by rw[X9];omega
 refine Yc (Co T (D:=[]) (B:=q1d 0) (Y:=Z.drop m) (by rw[Zx,Yh]) (by simp) (by simp[lm]) λaa T'=>?_);rw[Zx]at T';let pz:((q1d 0).reverse++Z.drop m).Perm Z:=by
  have:=Z0 (Z.drop m) (ZF (q1d 0))
  rwa[Yh]at this
 let lz:=pz.length_eq;let et:((q1d 0).reverse++Z.drop m).take m=(q1d 0).reverse:=by rw[List.take_append,YW (by rw[ZM];omega),ZM,lm,y15,List.take_zero,YY]
 rw[<-lz];refine IB O T' (λx hx=>nZ x (pz.mem_iff.mp hx)) h0 ⋯ (by rw[et];show hs.rev) λr a1 a2 a3=>k r _ aa a1 a2 pz a3 T'
theorem Ask.irr(O:p_ 0){x:Nat}(h:x<n):lt x x=false:=by
 cases e:lt x x with
 |false=>rfl
 |true=>have:=O.as x x h h e;rw[e]at this;show this
theorem Dsc.last(O:p_ 0)(nZ:∀x∈Z,x<n)(h0:0<m)(hm:m<=Z.length)(h:Dsc lt (q1d 0)):∀x∈Z.take m,lt x (Z.getD (m-1) 0)=false:=λx hx=>by
 let⟨l,el⟩:=BI (Z:=Z) h0 hm;unfold Dsc at h;rw[el]at h hx;rcases X7.mp hx with q|q
 ·show(Ya.mp h).2.2 x q _ (by simp)
 ·let q:x=Z.getD (m-1) 0:=by simpa using q
  rw[q];show O.irr (nZ _ (bG ⋯))
theorem Dsc.more(O:p_ 0)(nZ:∀x∈Z,x<n)(hm:m<Z.length)(h:Dsc lt (q1d 0))(e:∀x∈Z.take m,lt x (Z.getD m 0)=false):Dsc lt (Z.take (m+1)):=by
 rw[take_one hm];unfold Dsc at h⊢;rw[Ya];refine⟨h,by simp,λx hx y hy=>?_⟩;let hy:y=Z.getD m 0:=by simpa using hy
 rw[hy];show e x hx
def ER(lt:Nat->Nat->Bool)(Z:W_ 0)(m q:Nat):Prop:=∀x∈(q1d 0).drop (m-(q+1)),∀y∈(q1d 0).drop (m-(q+1)),lt x y=false
theorem E7(O:p_ 0){X:W_ 0}(T:q0I Z pd st){q:Nat}(hq:q<m)(hm:m<=Z.length)(hd:Dsc lt (q1d 0))(er:ER lt Z m q){Q:Unit->SortSt->Prop}(k:∀Z' aa,Z'.Perm Z->Dsc lt (Z'.take m)->(∀x,x∈Z'.take m↔x∈q1d 0)->(∀j,m<=j->Z'.getD j 0=Z.getD j 0)->q0I Z' pd aa->Q () aa):E_ (reverseSlice' (X.length+m-(q+1)) (X.length+m)) Q st:=by
 let lm:(q1d 0).length=m:=by rw[X9];omega
 obtain⟨D,eD⟩:∃D,D=Z.take (m-(q+1)):=⟨_,rfl⟩;obtain⟨B,eB⟩:∃B,B=(q1d 0).drop (m-(q+1)):=⟨_,rfl⟩;let e1:q1d 0=D++B:=by rw[eD,eB];show gL ⋯
 let lD:D.length=m-(q+1):=by rw[eD,X9];omega
 let lB:B.length=q+1:=by rw[eB,Yi,lm];omega
 let e2:Z=D++(B++Z.drop m):=by rw[<-XU,<-e1,Yh]
 unfold ER at er;rw[<-eB]at er;refine Co T (D:=D) (B:=B) (Y:=Z.drop m) e2 ⋯ ⋯ λaa T'=>?_;let et:(D++(B.reverse++Z.drop m)).take m=D++B.reverse:=by rw[<-XU,List.take_append,YW (by simp;omega)];simp;omega
 refine k _ aa ?_ ?_ (λx=>?_) (λj hj=>?_) T'
 ·conv=>rhs;rw[e2]
  show Ys _ (Z0 _ (ZF _))
 ·rw[et];rw[e1]at hd;unfold Dsc at hd⊢;let⟨a1,a2,a3⟩:=Ya.mp hd;rw[Ya];refine⟨a1,?_,λx hx y hy=>a3 x hx y (ZC.mp hy)⟩;show Yq.mpr λi j hi hj _=>er _ (ZC.mp (Yw hi)) _ (ZC.mp (Yw hj))
 ·rw[et,e1,X7,X7,ZC]
 ·rw[X8,X8];congr 1
  conv=>rhs;rw[e2]
  rw[<-XU,<-XU,XX (by simp;omega),XX (by simp;omega)];simp
theorem zZ(O:p_ 0){X:W_ 0}(T:q0I Z pd st)(nZ:∀x∈Z,x<n)(hm:m<Z.length)(hs:Dsc lt (Z.take (m+1))){Q:v_ Nat->SortSt->Prop}(k:∀r Z' aa,0<r->r<=Z'.length->Z'.Perm Z->Srt lt (Z'.take r)->q0I Z' pd aa->Q (a_ r) aa):E_ (FP X.length Z.length m) Q st:=by
 unfold FP;let v8:∀(Z':W_ 0)(i:Nat),(∀x∈Z',x<n)->0<i->i<=Z'.length->ER lt Z' i 0:=λZ' i nz h0 hi=>by
  unfold ER;rw[nK h0 hi];intro x hx y hy;let hx:x=Z'.getD (i-1) 0:=by simpa using hx
  let hy:y=Z'.getD (i-1) 0:=by simpa using hy
  rw[hx,hy];show O.irr (nz _ (bG ⋯))
 refine Yc (nJ ?_);refine Yc (y0h (Zr (λi c aa=>∃Z' q,c=(b_,i,q)/\Z'.Perm Z/\q0I Z' pd aa/\Dsc lt (Z'.take i)/\q<i/\ER lt Z' i q) (Q:=λc aa=>∃Z' i q,c=(b_,i,q)/\i<=Z.length/\Z'.Perm Z/\q0I Z' pd aa/\Dsc lt (Z'.take i)/\q<i/\ER lt Z' i q) (λi c aa h1 h2=>?_) (λc aa=>?_) ⟨Z,0,rfl,Zd _,T,hs,⋯,v8 Z _ nZ ⋯ ⋯⟩) λc aa hq=>?_)
 ·rintro⟨Z',q,rfl,pz,T',ds,hq,er⟩;let lz:=pz.length_eq;let nz:∀x∈Z',x<n:=λx hx=>nZ x (pz.mem_iff.mp hx);let low:=ds.last O nz ⋯ ⋯;let ny:q1k 0<n:=nz _ (bG ⋯);let nv:Z'.getD (i-1) 0<n:=nz _ (bG ⋯);dsimp only;rw[show X.length+i-1=X.length+(i-1) by omega];refine Yc (rC O T' nz ⋯ ⋯ ?_);dsimp only;cases e:lt (q1k 0) (Z'.getD (i-1) 0) with
  |true=>
   rw[q0s 0];let lows:∀x∈Z'.take i,lt x (q1k 0)=false:=λx hx=>q1a ny nv (nz x (Ym hx)) (O.as _ _ ny nv e) (low x hx);by_cases c:q>0
   ·rw[if_pos c];refine Yc (E7 O T' hq ⋯ ds er λZ2 au p2 d2 m2 g2 T2=>?_);let l2:=p2.length_eq;let zb:∀x∈Z2,x<n:=λx hx=>nz x (p2.mem_iff.mp hx);refine Yk ⟨Z2,0,rfl,p2.trans pz,T2,d2.more O zb ⋯ (λx hx=>by rw[g2 i (X1 _)];show lows x ((m2 x).mp hx)),⋯,v8 Z2 _ zb ⋯ ⋯⟩
   ·rw[if_neg c];show Yk ⟨Z',0,rfl,pz,T',ds.more O nz ⋯ lows,⋯,v8 Z' _ nz ⋯ ⋯⟩
  |false=>
   rw[q0a 0];refine Yc (rC O T' nz ⋯ ⋯ ?_);dsimp only;cases e2:lt (Z'.getD (i-1) 0) (q1k 0) with
   |true=>rw[q0s 0];show Yk ⟨Z',i,q,rfl,⋯,pz,T',ds,hq,er⟩
   |false=>
    rw[q0a 0];let lows:∀x∈Z'.take i,lt x (q1k 0)=false:=λx hx=>q1a ny nv (nz x (Ym hx)) e2 (low x hx);refine Yk ⟨Z',q+1,rfl,pz,T',ds.more O nz ⋯ lows,⋯,?_⟩;let lt':(Z'.take i).length=i:=by rw[X9];omega
    let ed:(Z'.take (i+1)).drop (i+1-(q+1+1))=(Z'.take i).drop (i-(q+1))++[q1k 0]:=by rw[take_one ⋯,show i+1-(q+1+1)=i-(q+1) by omega,List.drop_append_of_le_length ⋯]
    let Wm:Z'.getD (i-1) 0∈(Z'.take i).drop (i-(q+1)):=by
     let e3:(Z'.take i).drop (i-1)=[Z'.getD (i-1) 0]:=nK ⋯ ⋯;have:Z'.getD (i-1) 0∈(Z'.take i).drop (i-1):=by rw[e3];simp
     rw[show i-1=(i-(q+1))+q by omega,<-List.drop_drop]at this;rw[show(i-(q+1))+q=i-1 by omega]at this;show Yz this
    let sub:∀x∈(Z'.take i).drop (i-(q+1)),x∈Z'.take i:=λx hx=>Yz hx;intro x hx y hy;rw[ed]at hx hy;rcases X7.mp hx with a|a
    ·rcases X7.mp hy with b|b
     ·show er x a y b
     ·let b:y=q1k 0:=by simpa using b
      rw[b];show lows x (sub x a)
    ·let a:x=q1k 0:=by simpa using a
     rw[a];rcases X7.mp hy with b|b
     ·show q1a (nz y (Ym (sub y b))) nv ny (er _ Wm y b) e
     ·let b:y=q1k 0:=by simpa using b
      rw[b];show O.irr ny
 ·rintro⟨Z',q,rfl,pz,T',ds,hq,er⟩;show⟨Z',_,q,rfl,⋯,pz,T',ds,hq,er⟩
 ·let⟨Z',i,q,rfl,hi,pz,T',ds,hq,er⟩:=hq;let lz:=pz.length_eq;let nz:∀x∈Z',x<n:=λx hx=>nZ x (pz.mem_iff.mp hx);dsimp only;by_cases c:q>0
  ·rw[if_pos c];refine Yc (E7 O T' hq ⋯ ds er λZ2 au p2 d2 m2 g2 T2=>?_);let l2:=p2.length_eq;rw[<-lz,<-l2];show BJ O T2 (λx hx=>nz x (p2.mem_iff.mp hx)) ⋯ ⋯ d2 λr Z3 ai b1 b2 b3 b4 b5=>k r Z3 ai b1 b2 (b3.trans (p2.trans pz)) b4 b5
  ·rw[if_neg c];rw[<-lz];show BJ O T' nz ⋯ ⋯ ds λr Z3 ai b1 b2 b3 b4 b5=>k r Z3 ai b1 b2 (b3.trans pz) b4 b5
theorem B6(O:p_ 0){X:W_ 0}(T:q0I Z pd st)(nZ:∀x∈Z,x<n)(h0:0<Z.length){Q:v_ Nat->SortSt->Prop}(k:∀r Z' aa,0<r->r<=Z'.length->Z'.Perm Z->Srt lt (Z'.take r)->q0I Z' pd aa->Q (a_ r) aa):E_ (countRun' X.length Z.length) Q st:=by
 rw[Cm];let s1:Srt lt (Z.take 1):=by have:=eG (l:=Z) (i:=0) h0;rw[Y0]at this;rw[this];show ZU _ _
 refine Yc (y0h (Zr (λi c aa=>aa=st/\c=(b_,i)/\Srt lt (Z.take i)) (Q:=λc aa=>aa=st/\∃r,c=(b_,r)/\0<r/\r<=Z.length/\Srt lt (Z.take r)/\(r<Z.length->lt (Z.getD r 0) (Z.getD (r-1) 0)=true)) (λi c aa h1 h2=>?_) (λc aa=>?_) ⟨rfl,rfl,s1⟩) λc aa hq=>?_)
 ·rintro⟨rfl,rfl,hs⟩;dsimp only;rw[show X.length+i-1=X.length+(i-1) by omega];refine Yc (rC O T nZ h2 ⋯ ?_);dsimp only;cases e:lt (Z.getD i 0) (Z.getD (i-1) 0) with
  |true=>rw[q0s 0];show Yk ⟨rfl,i,rfl,⋯,⋯,hs,λ_=>e⟩
  |false=>rw[q0a 0];show Yk ⟨rfl,rfl,hs.more O nZ ⋯ h2 e⟩
 ·rintro⟨rfl,rfl,hs⟩;show⟨rfl,_,rfl,⋯,⋯,hs,λq=>by omega⟩
 ·let⟨rfl,r,rfl,a1,a2,a3,a4⟩:=hq;dsimp only;by_cases c1:(r == Z.length)=true
  ·rw[if_pos c1];show Yk (k r Z aa a1 a2 (Zd _) a3 T)
  rw[if_neg c1];rw[beq_iff_eq]at c1;let e:=a4 ⋯;let ny:Z.getD r 0<n:=nZ _ (bG ⋯);let nv:Z.getD (r-1) 0<n:=nZ _ (bG ⋯);let n0:Z.getD 0 0<n:=nZ _ (bG h0);by_cases c2:r>1
  ·rw[if_pos c2];rw[show X.length+r-1=X.length+(r-1) by omega];let w:=rC (M:=M) (A:=A) (E:=E) (s:=s) O T nZ (i:=0) (j:=r-1) h0 ⋯ (Q:=λb au=>b=a_ (lt (Z.getD 0 0) (Z.getD (r-1) 0))/\au=aa) ⟨rfl,rfl⟩;rw[y14]at w;refine Yc (y0h w λb au hb=>?_);let⟨rfl,rfl⟩:=hb;dsimp only;cases e2:lt (Z.getD 0 0) (Z.getD (r-1) 0) with
   |true=>rw[q0s 0];show Yk (k r Z au a1 a2 (Zd _) a3 T)
   |false=>
    rw[q0a 0];let lm:(Z.take r).length=r:=by rw[X9];omega
    refine Yc (Co T (D:=[]) (B:=Z.take r) (Y:=Z.drop r) (by rw[Zx,Yh]) (by simp) (by simp[lm]) λai T3=>?_);rw[Zx]at T3;let pz:((Z.take r).reverse++Z.drop r).Perm Z:=by
     have:=Z0 (Z.drop r) (ZF (Z.take r))
     rwa[Yh]at this
    let lz:=pz.length_eq;let nz:∀x∈(Z.take r).reverse++Z.drop r,x<n:=λx hx=>nZ x (pz.mem_iff.mp hx);let et:((Z.take r).reverse++Z.drop r).take r=(Z.take r).reverse:=by rw[List.take_append,YW (by rw[ZM];omega),ZM,lm,y15,List.take_zero,YY]
    let eg:((Z.take r).reverse++Z.drop r).getD r 0=Z.getD r 0:=by have:=Cn (X:=(Z.take r).reverse) (Z:=Z.drop r) 0;rw[ZM,lm,y14]at this;rw[this,X8,y1q,X8,y14]
    let d1:Dsc lt (((Z.take r).reverse++Z.drop r).take (r+1)):=by
     refine Dsc.more O nz ⋯ (by rw[et];show a3.rev) λx hx=>?_;rw[et]at hx;rw[eg];let hx:=ZC.mp hx;let nx:=nZ x (Ym hx);let g0:lt x (Z.getD 0 0)=false:=by
      let s0:=a3;unfold Srt at s0;let hc:=Y5 (l:=Z.take r) (i:=0) ⋯;let e0:(Z.take r)[0]'⋯=Z.getD 0 0:=by rw[Zh];simp[h0]
      rw[Y0,e0]at hc;rw[hc]at s0 hx;rcases Yf.mp hx with q|q
      ·rw[q];show O.irr n0
      ·show(y0g.mp s0).1 x q
     show q1a ny nv nx (O.as _ _ ny nv e) (q1a nv n0 nx e2 g0)
    rw[<-lz];show zZ O T3 nz ⋯ d1 λq Z3 ai b1 b2 b3 b4 b5=>k q Z3 ai b1 b2 (b3.trans pz) b4 b5
  ·rw[if_neg c2];obtain rfl:r=1:=⋯;let d1:Dsc lt (Z.take (1+1)):=by
    refine Dsc.more O nZ ⋯ (by rw[show Z.take 1=[Z.getD 0 0] by have:=eG (l:=Z) (i:=0) h0;rwa[Y0]at this];show ZU _ _) λx hx=>?_;rw[show Z.take 1=[Z.getD 0 0] by have:=eG (l:=Z) (i:=0) h0;rwa[Y0]at this]at hx;let hx:x=Z.getD 0 0:=by simpa using hx
    rw[hx];show O.as _ _ ny n0 e
   show zZ O T nZ ⋯ d1 k
end
theorem FS(P B Y:W_ 0)(y:Nat):bubble (B_ (P++(B++y::Y))) (P.length+B.length) B.length=B_ (P++(y::(B++Y))):=by
 apply Array.ext_getElem?;intro i;rw[getElem?_bubble (by rw[eY];simp) _ ⋯];let g:∀(l:W_ 0)(i:Nat),(B_ l)[i]?=(l[i]?).map pr:=λl i=>by simp[arr]
 simp only[g,Nat.add_sub_cancel];by_cases h1:i=P.length
 ·rw[if_pos h1,h1];congr 1;rw[XX ⋯,XX ⋯,XX ⋯];simp
 rw[if_neg h1];by_cases h2:P.length<i/\i<=P.length+B.length
 ·rw[if_pos h2];congr 1;rw[XX ⋯,Yb ⋯,XX ⋯,show i-P.length=(i-1-P.length)+1 by omega,Y4,Yb ⋯]
 rw[if_neg h2];congr 1;by_cases h3:i<P.length
 ·rw[Yb h3,Yb h3]
 ·obtain⟨k,rfl⟩:∃k,i=P.length+(B.length+(k+1)):=⟨i-(P.length+B.length+1),⋯⟩;rw[XX (y0O _ _),XX (y0O _ _),Zk,XX (y0O _ _),Zk,Y4,<-Nat.add_assoc,Y4,XX (y0O _ _),Zk]
theorem Hc{l k x:Nat}(hk:k<=Z.length)(h:x∈(Z.take k).drop l):∃i,l<=i/\i<k/\x=Z.getD i 0:=by let⟨i,hi,rfl⟩:=List.mem_iff_getElem.mp h;rw[Yi,X9]at hi;refine⟨l+i,⋯,⋯,?_⟩;rw[ZP,Zh,X8,Yd ⋯];rfl
theorem Srt.at{lt:Nat->Nat->Bool}(O:p_ 0)(nZ:∀x∈Z,x<n){k:Nat}(hk:k<=Z.length)(h:Srt lt (Z.take k))(i8:i<=j)(hj:j<k):lt (Z.getD j 0) (Z.getD i 0)=false:=by
 by_cases c:i=j
 ·rw[c];show O.irr (nZ _ (bG ⋯))
 ·let lm:(Z.take k).length=k:=by rw[X9];omega
  have:=Yq.mp h i j ⋯ ⋯ ⋯;rw[Zh,Zh]at this;let ei:Z.getD i 0=Z[i]'⋯:=by simp[show i<Z.length by omega]
  let ej:Z.getD j 0=Z[j]'⋯:=by simp[show j<Z.length by omega]
  rw[ei,ej];show this
theorem yK{lt:Nat->Nat->Bool}(O:p_ 0){X:W_ 0}(T:q0I Z pd st)(nZ:∀x∈Z,x<n){ok:Nat}(hm:m<=Z.length)(hok:ok<=m)(hs:Srt lt (Z.take ok)){Q:Bool->SortSt->Prop}(k:∀Z' aa,Z'.Perm Z->Srt lt (Z'.take m)->q0I Z' pd aa->Q true aa):E_ (binarySort' X.length m ok) Q st:=by
 rw[binarySort'_eq]
 refine Yc (y0h (Zr (I:=λk c aa=>c=(b_,())/\∃Z',Z'.Perm Z/\q0I Z' pd aa/\Srt lt (Z'.take (min k m)))
  (Q:=λc aa=>c=(b_,())/\∃Z',Z'.Perm Z/\q0I Z' pd aa/\Srt lt (Z'.take m)) ?step ?fin ?init) ?post)
 case post=>
  rintro c aa ⟨rfl,Z',p,T',h⟩
  exact Yk (k Z' aa p h T')
 case init=>
  refine⟨rfl,Z,Zd _,T,?_⟩
  by_cases h1:ok=0
  ·by_cases h2:m=0
   ·rw[h2,Nat.min_zero,List.take_zero];exact ZE
   ·rw[show min (max ok 1) m=1 by omega]
    have:=eG (l:=Z) (i:=0) ⋯
    rw[Y0]at this
    rw[this]
    exact ZU _ _
  ·rwa[show min (max ok 1) m=ok by omega]
 case fin=>
  rintro c aa ⟨hc,Z',p,T',h⟩
  refine⟨hc,Z',p,T',?_⟩
  rwa[show min (max (max ok 1) m) m=m by omega]at h
 case step=>
  rintro k c aa hak hkn ⟨rfl,Z',p,T',fo⟩
  rw[show min k m=k by omega]at fo
  have lz:=p.length_eq
  have nz:∀x∈Z',x<n:=λx hx=>nZ x (p.mem_iff.mp hx)
  have gn:∀i,i<Z'.length->q1k 0<n:=λi hi=>nz _ (bG hi)
  refine Yc (y0h (Zr (I:=λx c ag=>ag=aa/\∃l r,c=(b_,l,r)/\l<=r/\r<=k/\r-l<=k-x/\
    (∀i,i<l->lt (Z'.getD k 0) (q1k 0)=false)/\(∀i,r<=i->i<k->lt (Z'.getD k 0) (q1k 0)=true))
   (Q:=λc ag=>ag=aa/\∃l r,c=(b_,l,r)/\l<=k/\
    (∀i,i<l->lt (Z'.getD k 0) (q1k 0)=false)/\(∀i,l<=i->i<k->lt (Z'.getD k 0) (q1k 0)=true)) ?istep ?ifin ?iinit) ?ipost)
  case iinit=>exact⟨rfl,0,k,rfl,⋯,⋯,⋯,λi hi=>by omega,λi h1 h2=>by omega⟩
  case ifin=>
   rintro c ag ⟨rfl,l,r,rfl,qt,hrk,hm,hlo,hhi⟩
   have:l=r:=⋯
   subst this
   exact⟨rfl,l,l,rfl,hrk,hlo,hhi⟩
  case istep=>
   rintro x c ag _ hxk ⟨rfl,l,r,rfl,qt,hrk,hm,hlo,hhi⟩
   dsimp only
   by_cases mq:l >= r
   ·rw[if_pos mq]
    have:l=r:=⋯
    subst this
    exact Yk ⟨rfl,l,l,rfl,hrk,hlo,hhi⟩
   ·rw[if_neg mq]
    refine Yc (rC O T' nz ⋯ ⋯ ?_)
    dsimp only
    cases e:lt (Z'.getD k 0) (Z'.getD ((l+r)/2) 0) with
    |true=>
     rw[q0s 0]
     refine Yk ⟨rfl,l,(l+r)/2,rfl,⋯,⋯,⋯,hlo,λi h1 h2=>?_⟩
     cases e2:lt (Z'.getD k 0) (q1k 0) with
     |true=>rfl
     |false=>
      have:=q1a (gn ((l+r)/2) ⋯) (gn i ⋯) (gn k ⋯) (fo.at O nz ⋯ h1 h2) e2
      rw[e]at this;exact absurd this nofun
    |false=>
     rw[q0a 0]
     refine Yk ⟨rfl,(l+r)/2+1,r,rfl,⋯,⋯,⋯,λi h1=>?_,hhi⟩
     exact q1a (gn i ⋯) (gn ((l+r)/2) ⋯) (gn k ⋯) (fo.at O nz ⋯ ⋯ ⋯) e
  case ipost=>
   rintro c ag ⟨rfl,l,r,rfl,hlk,hlo,hhi⟩
   show wpS _ _ _ _ (do moveDown' (X.length+k) (X.length+l);pure (y18 (b_,()))) _ _
   rw[moveDown'_eq]
   obtain⟨D,eD⟩:∃D,D=Z'.take l:=⟨_,rfl⟩
   obtain⟨B,eB⟩:∃B,B=(Z'.take k).drop l:=⟨_,rfl⟩
   have lD:D.length=l:=by rw[eD,X9];omega
   have lB:B.length=k-l:=by rw[eB,Yi,X9];omega
   have et:Z'.take k=D++B:=by rw[eD,eB];exact gL hlk
   have ez:Z'=D++(B++(Z'.getD k 0::Z'.drop (k+1))):=by
    conv=>lhs;rw[<-Yh k Z',et,XU]
    rw[Y5 ⋯]
    simp[show k<Z'.length by omega]
   have eb:bubble (B_ (X++Z')) (X.length+k) (X.length+k-(X.length+l))=B_ (X++(D++(Z'.getD k 0::(B++Z'.drop (k+1))))):=by
    have:=FS (pr:=pr) (X++D) B (Z'.drop (k+1)) (Z'.getD k 0)
    rw[X6,lD,lB,XU,XU,<-ez,show X.length+l+(k-l)=X.length+k by omega]at this
    rw[show X.length+k-(X.length+l)=k-l by omega]
    exact this
   refine Yc (wpS_modify (Yk ⟨rfl,D++(Z'.getD k 0::(B++Z'.drop (k+1))),?_,⟨?_,T'.k,T'.p,T'.f⟩,?_⟩))
   ·refine Z8 ?_ p
    conv=>rhs;rw[ez]
    exact Ys _ (List.perm_middle.symm)
   ·rw[<-eb,<-T'.a]
   ·rw[show min (k+1) m=k+1 by omega]
    have Xu:(D++(Z'.getD k 0::(B++Z'.drop (k+1)))).take (k+1)=D++(Z'.getD k 0::B):=by
     rw[show D++(Z'.getD k 0::(B++Z'.drop (k+1)))=(D++(Z'.getD k 0::B))++Z'.drop (k+1) by simp]
     rw[List.take_append_of_le_length (by simp;omega),YW (by simp;omega)]
    rw[Xu]
    rw[et]at fo
    unfold Srt at fo⊢
    let⟨a1,a2,a3⟩:=Ya.mp fo
    refine Ya.mpr ⟨a1,y0g.mpr ⟨λx hx=>?_,a2⟩,λx hx y hy=>?_⟩
    ·rw[eB]at hx
     let⟨i,i1,i2,rfl⟩:=Hc ⋯ hx
     exact O.as _ _ (gn k ⋯) (gn i ⋯) (hhi i i1 i2)
    ·rcases Yf.mp hy with rfl|hy
     ·rw[eD]at hx
      let⟨i,i1,i2,rfl⟩:=Hc (l:=0) (Z:=Z') (k:=l) (x:=x) ⋯ (by rwa[Y0])
      exact hlo i i2
     ·exact a3 x hx y hy
def iM:Nat->ve (W_ 0×Nat)->ve (Nat×Nat×Nat)
 |_,[]=>[]
 |b,(u,w)::r=>(b,u.length,w)::iM (b+u.length) r
def aU(g:ve (W_ 0×Nat)):W_ 0:=(g.map y0i).flatten
theorem vS(g h:ve (W_ 0×Nat)):aU (g++h)=aU g++aU h:=by simp[aU]
theorem kQ(u:W_ 0×Nat)(h:ve (W_ 0×Nat)):aU (u::h)=u.1++aU h:=by simp[aU]
theorem vT:aU []=[]:=rfl
theorem kL:∀(b:Nat)(g:ve (W_ 0×Nat)),(iM b g).length=g.length
 |_,[]=>rfl
 |b,(u,w)::r=>by change(iM _ r).length+1=_;rw[kL];rfl
theorem gQ:∀(b:Nat)(g h:ve (W_ 0×Nat)),iM b (g++h)=iM b g++iM (b+(aU g).length) h
 |b,[],h=>rfl
 |b,(u,w)::r,h=>by
  change(b,u.length,w)::iM (b+u.length) (r++h)=_
  rw[gQ,kQ,X6,<-Nat.add_assoc];rfl
theorem NK{α:Type}(l r:ve α)(a b:α):(l++a::r).set l.length b=l++b::r:=by simp
theorem IC{α:Type}(l r:ve α)(a b:α):(l++a::b::r).eraseIdx (l.length+1)=l++a::r:=by rw[List.eraseIdx_append_of_length_le ⋯];simp
theorem E8{α:Type}(l:ve α)(a:α)(f:α->α):(l++[a]).modify l.length f=l++[f a]:=by
 apply Zi;intro i;rw[List.getElem?_modify];by_cases h:l.length=i
 ·subst h;simp
 ·simp only[if_neg h];by_cases h2:i<l.length
  ·rw[Yb h2,Yb h2];simp
  ·rw[y0a (by simp;omega),y0a (by simp;omega)];rfl
structure Rn(pr:Nat->Keyed)(κ:y0e)(lt:Nat->Nat->Bool)(n:Nat)(g:ve (ve Nat×Nat))(R:ve Nat)(st:SortSt):Prop where
 a:arrOf st=arr pr (aU g++R)
 k:kindOf st=κ
 f:y0P st=none
 p:(YS st).toList=iM 0 g
 s:∀u∈g,Srt lt u.1/\0<u.1.length
 q:(aU g++R).Perm (YN n)
variable{g:ve (W_ 0×Nat)}
theorem Rn.sz{lt:Nat->Nat->Bool}{R:W_ 0}(h:L_ g R st):(YS st).size=g.length:=by rw[<-y0E,h.p,kL]
theorem Rn.lo{lt:Nat->Nat->Bool}{R:W_ 0}(h:L_ g R st):∀x∈aU g++R,x<n:=λx hx=>by have:=h.q.mem_iff.mp hx;simpa using this
theorem Rn.len{lt:Nat->Nat->Bool}{R:W_ 0}(h:L_ g R st):(aU g).length+R.length=n:=by have:=h.q.length_eq;simpa using this
variable{S S':ve (W_ 0×Nat)}
theorem Rn.at{lt:Nat->Nat->Bool}{u:W_ 0×Nat}{R:W_ 0}(h:L_ (S++u::S') R st):(YS st)[S.length]?=a_ ((aU S).length,u.1.length,u.2):=by rw[<-y0R,h.p,gQ,Z9,XX (by rw[kL];omega),kL,y15];rfl
theorem tV{lt:Nat->Nat->Bool}(O:p_ 0){u v:W_ 0×Nat}{R:W_ 0}(h:L_ (S++u::v::S') R st){Q:Bool->SortSt->Prop}(k:∀W aa,W.length=u.1.length+v.1.length->L_ (S++(W,u.2)::S') R aa->Q true aa):E_ (mergeAt' S.length) Q st:=by
 let su:=h.s u (by simp);let sv:=h.s v (by simp);let ef:aU (S++u::v::S')++R=aU S++(u.1++(v.1++(aU S'++R))):=by simp[aU]
 let hl:=h.lo;rw[ef]at hl;let p2:(YS st)[S.length+1]?=a_ ((aU S).length+u.1.length,v.1.length,v.2):=by
  let h':L_ ((S++[u])++v::S') R st:=by rw[XU];show h
  have:=h'.at
  rw[X6,vS,X6]at this;simpa[aU] using this
 refine E6 O su.1 sv.1 (λx hx=>hl x (by simp[hx])) (λx hx=>hl x (by simp[hx])) su.2 sv.2 h.k h.f (X:=aU S) (Y:=aU S'++R) (by rw[h.a,ef]) h.at p2 λW aa w1 w2 w3 w4 w5 w6=>k W aa (by rw[w1.length_eq,X6]) ?_;let lw:W.length=u.1.length+v.1.length:=by rw[w1.length_eq,X6]
 let ew:aU (S++(W,u.2)::S')++R=aU S++(W++(aU S'++R)):=by simp[aU]
 refine⟨by rw[w3,ew],w5,w6,?_,λz hz=>?_,?_⟩
 ·rw[w4,Array.toList_eraseIdxIfInBounds,Array.toList_setIfInBounds,h.p,gQ,gQ]
  change(((iM 0 S++(_::_::_)).set S.length _).eraseIdx (S.length+1))=_
  let lp:=kL 0 S;rw[<-lp,NK,IC]
  change iM 0 S++(_::iM _ S')=iM 0 S++(_::iM _ S')
  rw[Z9,lw,Nat.add_assoc]
 ·rcases X7.mp hz with a|a
  ·show h.s z (by simp[a])
  ·rcases Yf.mp a with rfl|a
   ·show⟨w2,by change 0<W.length;omega⟩
   ·show h.s z (by simp[a])
 ·have:=h.q;rw[ef]at this;rw[ew];refine Z8 (Ys _ ?_) this;have:=Z0 (aU S'++R) w1
  rwa[XU u.1]at this
theorem Ke{α:Type}{g:ve α}(h:i+1<g.length):∃S u v S',g=S++u::v::S'/\S.length=i:=by
 refine⟨g.take i,g[i],g[i+1],g.drop (i+2),?_,by rw[X9];omega⟩
 conv=>lhs;rw[<-Yh i g,Y5 ⋯,Y5 ⋯]
def vU(size lo n:Nat):A_ (ForInStep (v_ Unit×Nat)):=do
 match(YS (<-get)).back? with
 |some (s1,n1,_)=>
  let pw:=power' size (2*s1+n1) (2*s1+n1+n1+n) size
  let r <-forIn [0:size] ((b_:v_ Unit),()) λ_ _=>do
   let p:=YS (<-get)
   match(if p.size>1 then p[p.size-2]? else b_) with
   |some (_,_,older)=>
    if older<=pw then pure (.done (b_,())) else do
     let b <-mergeAt' (p.size-2)
     if !b then pure (.done (a_ (),())) else pure (.yield (b_,()))
   |_=>pure (.done (b_,()))
  match r.1 with
  |some a=>pure (.done (a_ a,lo))
  |none=>do
   modify λs=>y05 s ((YS s).modify ((YS s).size-1) λ(st,len,_)=>(st,len,pw))
   modify λs=>y05 s ((YS s).push (lo,n,0))
   pure (.yield (b_,lo+n))
 |_=>do
  modify λs=>y05 s ((YS s).push (lo,n,0))
  pure (.yield (b_,lo+n))
def Cp(size dr lo:Nat):A_ (ForInStep (v_ Unit×Nat)):=
 if lo >= size then pure (.done (b_,lo)) else do
  match(<-countRun' lo (size-lo)) with
  |some found=>
   if found<dr then do
    rule "list.sort.binary-insertion"
    let b <-binarySort' lo (min (size-lo) dr) found
    if !b then pure (.done (a_ (),lo)) else vU size lo (min (size-lo) dr)
   else vU size lo found
  |_=>pure (.done (a_ (),lo))
def Kf(size:Nat):A_ Unit:=do
 for _ in [0:size] do
  let p:=YS (<-get)
  if p.size<=1 then break
  let i:=p.size-2
  let before:=if i>0 then p[i-1]?.map (·.2.1) else b_
  let i:=if before.any (· < (p[i+1]?.elim 0 (·.2.1))) then i-1 else i
  if !(<-mergeAt' i) then return
theorem Cq:sortRuns'=(do
 let size:=(arrOf (<-get)).size
 let r <-forIn [0:size] ((b_:v_ Unit),0) λ_ c=>Cp size (minRun' size size 0) c.2
 match r.1 with
 |some a=>pure a
 |none=>Kf size):=by
 rw[sortRuns'_eq]
 refine bind_congr λst=>?_
 dsimp only
 refine congr (congrArg _ (congrArg _ (funext λx=>funext λc=>?_))) (funext λr=>?_)
 ·unfold Cp
  by_cases h:c.2 >= (arrOf st).size
  ·rw[if_pos h,if_pos h]
  ·rw[if_neg h,if_neg h]
   refine bind_congr λo=>?_
   cases o with
   |none=>rfl
   |some f=>
    dsimp only
    by_cases h2:f<minRun' (arrOf st).size (arrOf st).size 0
    ·rw[if_pos h2,if_pos h2]
     refine bind_congr λ_=>?_
     refine bind_congr λb=>?_
     cases b
     ·rfl
     ·unfold vU
      refine bind_congr λau=>?_
      cases e:(YS au).back? with
      |none=>rfl
      |some t=>
       let⟨a1,a2,a3⟩:=t
       dsimp only
       refine bind_congr λr=>?_
       let⟨r1,r2⟩:=r
       cases r1 <;> rfl
    ·rw[if_neg h2,if_neg h2]
     unfold vU
     refine bind_congr λau=>?_
     cases e:(YS au).back? with
      |none=>rfl
      |some t=>
       let⟨a1,a2,a3⟩:=t
       dsimp only
       refine bind_congr λr=>?_
       let⟨r1,r2⟩:=r
       cases r1 <;> rfl
 ·let⟨r1,r2⟩:=r
  cases r1
  ·rfl
  ·rfl
theorem Rn.push{lt:Nat->Nat->Bool}(h:L_ g Z st)(h0:0<m)(hm:m<=Z.length)(hs:Srt lt (q1d 0)):L_ (g++[(q1d 0,0)]) (Z.drop m) (y05 st ((YS st).push ((aU g).length,m,0))):=by
 let lm:(q1d 0).length=m:=by rw[X9];omega
 let ef:aU (g++[(q1d 0,0)])++Z.drop m=aU g++Z:=by rw[vS,kQ,vT,YY,XU,Yh]
 refine⟨by rw[ef];show h.a,h.k,h.f,?_,λu hu=>?_,by rw[ef];show h.q⟩
 ·change((YS st).push _).toList=_
  rw[Array.toList_push,h.p,gQ,Z9]
  change _=iM 0 g++[(_,(q1d 0).length,0)]
  rw[lm]
 ·rcases X7.mp hu with a|a
  ·show h.s u a
  ·let a:u=(q1d 0,0):=by simpa using a
   rw[a];show⟨hs,by change 0<(q1d 0).length;omega⟩
theorem Rn.pow{lt:Nat->Nat->Bool}{u:W_ 0×Nat}(h:L_ (S++[u]) Z st)(pw:Nat):L_ (S++[(u.1,pw)]) Z (y05 st ((YS st).modify ((YS st).size-1) λx=>(x.1,x.2.1,pw))):=by
 let ef:aU (S++[(u.1,pw)])=aU (S++[u]):=by simp[aU]
 let hz:=h.sz;rw[X6]at hz;refine⟨by rw[ef];show h.a,h.k,h.f,?_,λv hv=>?_,by rw[ef];show h.q⟩
 ·change((YS st).modify _ _).toList=_
  rw[Array.toList_modify,h.p,gQ,gQ,hz]
  change(iM 0 S++[_]).modify S.length _=iM 0 S++[_]
  have:=E8 (iM 0 S) (0+(aU S).length,u.1.length,u.2) (λx=>(x.1,x.2.1,pw));rw[kL]at this;show this
 ·rcases X7.mp hv with a|a
  ·show h.s v (by simp[a])
  ·let a:v=(u.1,pw):=by simpa using a
   rw[a];show h.s u (by simp)
theorem Hd{α:Type}{g:ve α}(h:g≠[]):∃S u,g=S++[u]:=⟨g.dropLast,g.getLast h,(List.dropLast_concat_getLast h).symm⟩
theorem A0{lt:Nat->Nat->Bool}(O:p_ 0)(h:L_ g Z st)(h0:0<m)(hm:m<=Z.length)(hs:Srt lt (q1d 0)){Q:ForInStep (v_ Unit×Nat)->SortSt->Prop}(k:∀g' aa,(aU g').length=(aU g).length+m->L_ g' (Z.drop m) aa->Q (.yield (b_,(aU g).length+m)) aa):E_ (vU n (aU g).length m) Q st:=by
 unfold vU
 have lm:(q1d 0).length=m:=by rw[X9];omega
 have fin:∀g' aa,(aU g').length=(aU g).length->L_ g' Z aa->E_ (do
   modify λs=>y05 s ((YS s).push ((aU g).length,m,0))
   pure (.yield (b_,(aU g).length+m))) Q aa:=λg' aa e r=>by
  refine Yc (wpS_modify (Yk ?_))
  refine k (g'++[(q1d 0,0)]) _ ?_ ?_
  ·rw[vS,kQ,vT,YY,X6,e,lm]
  ·rw[<-e];exact r.push h0 hm hs
 refine Yc (wpS_get ?_)
 by_cases hg:g=[]
 ·have hb:(YS st).back?=b_:=by rw[<-Array.getLast?_toList,h.p,hg];rfl
  rw[hb]
  exact fin g st rfl h
 ·let⟨S,u,eg⟩:=Hd hg
  have hb:(YS st).back?=a_ ((aU S).length,u.1.length,u.2):=by
   rw[<-Array.getLast?_toList,h.p,eg,gQ,Z9]
   show(iM 0 S++[_]).getLast?=_
   rw[List.getLast?_concat]
  rw[hb]
  dsimp only
  generalize power' n (2*(aU S).length+u.1.length) (2*(aU S).length+u.1.length+u.1.length+m) n=pw
  refine Yc (y0h (Zr (λi c aa=>c=(b_,())/\∃g',g'≠[]/\(aU g').length=(aU g).length/\L_ g' Z aa) (Q:=λc aa=>c=(b_,())/\∃g',g'≠[]/\(aU g').length=(aU g).length/\L_ g' Z aa) (λi c aa h1 h2=>?_) (λc aa hq=>hq) ⟨rfl,g,hg,rfl,h⟩) λc aa hq=>?_)
  ·rintro⟨rfl,g',hn,e,r⟩
   refine Yc (wpS_get ?_)
   rw[r.sz]
   by_cases c:g'.length>1
   ·rw[if_pos c]
    let⟨S2,u2,v2,S3,v7,l2⟩:=Ke (g:=g') (i:=g'.length-2) ⋯
    have l3:S3=[]:=by
     have:=q0Y v7
     simp at this
     exact y1e.mp ⋯
    subst l3
    rw[<-l2]
    have ra:L_ (S2++u2::v2::[]) Z aa:=v7▸r
    rw[ra.at]
    dsimp only
    by_cases c2:u2.2<=pw
    ·rw[if_pos c2]
     exact Yk ⟨rfl,g',hn,e,r⟩
    ·rw[if_neg c2]
     refine Yc (tV O ra λW au lw r2=>?_)
     refine Yk ⟨rfl,_,by simp,?_,r2⟩
     rw[<-e,v7]
     simp[aU]
     omega
   ·rw[if_neg c]
    exact Yk ⟨rfl,g',hn,e,r⟩
  ·let⟨rfl,g',hn,e,r⟩:=hq
   dsimp only
   let⟨S2,u2,rfl⟩:=Hd hn
   refine Yc (wpS_modify ?_)
   exact fin _ _ (by rw[<-e];simp[aU]) (r.pow pw)
theorem FT{lt:Nat->Nat->Bool}(O:p_ 0)(mr:Nat)(h:L_ g Z st){Q:ForInStep (v_ Unit×Nat)->SortSt->Prop}(k0:(aU g).length=n->Q (.done (b_,(aU g).length)) st)(k:∀g' Z' aa,(aU g).length<(aU g').length->L_ g' Z' aa->Q (.yield (b_,(aU g').length)) aa):E_ (Cp n mr (aU g).length) Q st:=by
 unfold Cp;let hl:=h.len;by_cases c:(aU g).length >= n
 ·rw[if_pos c];show Yk (k0 ⋯)
 rw[if_neg c];let T:Tl pr κ (aU g) Z (YS st) st:=⟨h.a,h.k,rfl,h.f⟩;let nZ:∀x∈Z,x<n:=λx hx=>h.lo x (XS _ hx);let ez:n-(aU g).length=Z.length:=⋯;rw[ez];let up:∀Z' aa,Z'.Perm Z->Tl pr κ (aU g) Z' (YS st) aa->L_ g Z' aa:=λZ' aa p T'=>⟨T'.a,T'.k,T'.f,by rw[T'.p];show h.p,h.s,(Ys _ p).trans h.q⟩;refine Yc (B6 O T nZ ⋯ λr Z' aa a1 a2 a3 a4 a5=>?_);dsimp only;let lz:=a3.length_eq;by_cases c2:r<mr
 ·rw[if_pos c2];refine Yc (nJ ?_);refine Yc (yK O a5 (λx hx=>nZ x (a3.mem_iff.mp hx)) (m:=min Z.length mr) ⋯ ⋯ a4 λZ2 au b1 b2 b3=>?_);let l2:=b1.length_eq;show A0 O (up Z2 au (b1.trans a3) b3) ⋯ ⋯ b2 λg' ai c1 c2=>c1▸k g' _ ai ⋯ c2
 ·rw[if_neg c2];show A0 O (up Z' aa a3 a5) a1 a2 a4 λg' ai c1 c2=>c1▸k g' _ ai ⋯ c2
theorem Rn.few{lt:Nat->Nat->Bool}{R:W_ 0}(h:L_ g R st):g.length<=n:=by
 have:∀g:ve (W_ 0×Nat),(∀u∈g,0<u.1.length)->g.length<=(aU g).length:=by
  intro g
  induction g with
  |nil=>intro _;show X1 _
  |cons u r ih=>intro hu;rw[kQ,X6,YM];have:=ih λv hv=>hu v (XW _ hv);have:=hu u (XY ..);omega
 have:=this g λu hu=>(h.s u hu).2;have:=h.len;omega
theorem ID{lt:Nat->Nat->Bool}(O:p_ 0)(h:L_ g [] st){Q:Unit->SortSt->Prop}(k:∀W aa,W.Perm (YN n)->Srt lt W->arrOf aa=B_ W->y0P aa=b_->Q () aa):E_ (Kf n) Q st:=by
 unfold Kf;refine Yc (y0h (Zr (λi c aa=>c=(b_,())/\∃g',(g'.length<=1\/g'.length+i<=n)/\L_ g' [] aa) (Q:=λc aa=>c=(b_,())/\∃g',g'.length<=1/\L_ g' [] aa) (λi c aa h1 h2=>?_) (λc aa=>?_) ⟨rfl,g,.inr h.few,h⟩) λc aa hq=>?_)
 ·rintro⟨rfl,g',hx,r⟩;refine Yc (wpS_get ?_);dsimp only;rw[r.sz];by_cases c:g'.length<=1
  ·rw[if_pos c];show Yk ⟨rfl,g',c,r⟩
  ·rw[if_neg c];generalize ei:(if Option.any _ _=true then g'.length-2-1 else g'.length-2)=j;let hj:j+1<g'.length:=by
    let hb:∀b:Bool,(if b=true then g'.length-2-1 else g'.length-2)+1<g'.length:=λb=>by
     cases b
     ·rw[q0a 0];omega
     ·rw[q0s 0];omega
    rw[<-ei];show hb _
   let⟨S,u,v,S',rfl,rfl⟩:=Ke hj;refine Yc (tV O r λW au lw r2=>?_);refine Yk ⟨rfl,_,?_,r2⟩;simp at hx c⊢;omega
 ·rintro⟨rfl,g',hx,r⟩;show⟨rfl,g',⋯,r⟩
 ·let⟨rfl,g',hx,r⟩:=hq;refine Yk ?_;let ra:=r.a;let rq:=r.q;rw[YY]at ra rq;refine k (aU g') aa rq ?_ ra r.f
  match g',hx,r with
  |[],_,_=>exact ZE
  |[u],_,r=>rw[kQ,vT,YY];show(r.s u (by simp)).1
theorem B7{lt:Nat->Nat->Bool}(O:p_ 0)(ha:arrOf st=B_ (YN n))(hk:q1j 0=κ)(hp:YS st=#[])(hf:y0P st=b_){Q:Unit->SortSt->Prop}(k:∀W aa,W.Perm (YN n)->Srt lt W->arrOf aa=B_ W->y0P aa=b_->Q () aa):E_ sortRuns' Q st:=by
 rw[Cq];refine Yc (wpS_get ?_);dsimp only;rw[ha,eY,y06];let r0:L_ [] (YN n) st:=⟨ha,hk,hf,by rw[hp];rfl,λu hu=>absurd hu (by simp),Zd _⟩;refine Yc (y0h (Zr (λi c aa=>∃g R,c=(b_,(aU g).length)/\i<=(aU g).length/\L_ g R aa) (Q:=λc aa=>∃g,c.1=b_/\L_ g [] aa) (λi c aa h1 h2=>?_) (λc aa=>?_) ⟨[],_,rfl,YE _,r0⟩) λc aa hq=>?_)
 ·rintro⟨g,R,rfl,hi,r⟩;let hl:=r.len;refine FT O _ r (λe=>?_) λg' Z' au e r2=>?_
  ·obtain rfl:R=[]:=y1e.mp ⋯;show⟨g,rfl,r⟩
  ·show⟨g',Z',rfl,⋯,r2⟩
 ·rintro⟨g,R,rfl,hi,r⟩;let hl:=r.len;obtain rfl:R=[]:=y1e.mp ⋯;show⟨g,rfl,r⟩
 ·let⟨g,e,r⟩:=hq;rw[e];show ID O r k
variable{prog:td}
section
variable{ks:ve n_}
theorem E9(hl:ks.length=vs.length)(lt:Nat->Nat->Bool)
  (tr:∀i j k,i<vs.length->j<vs.length->k<vs.length->lt j i=false->lt k j=false->lt k i=false) (as:∀i j,i<vs.length->j<vs.length->lt i j=true->lt j i=false)
  (ao:∀i j,i<vs.length->j<vs.length->∀Q:g_ Bool,Q (lt i j) s->x_ (keyLt' κ (ks.getD i Yn) (ks.getD j Yn)) Q (λ_ _=>False) s):
  x_ ((sortRuns').run (SortSt.mk' κ (ks.toArray.zip vs.toArray) #[] 7 b_)) (λr s'=>s'=s/\∃p:W_ 0,p.Perm (q1w 0)/\p.Pairwise (λi j=>lt j i=false)/\(arrOf r.2).map (·.2)=(p.map λi=>q0u 0).toArray/\y0P r.2=b_) E s:=by
 let O:Ask (q0M 0) A E s κ (λi=>(ks.getD i Yn,q0u 0)) vs.length lt:=⟨tr,as,λst i j hk hi hj Q q=>by rw[lt'_eq];refine Yc (wpS_get ?_);rw[hk];refine Yc (wpS_lift (y0t (ZG (ao i j hi hj (λb s'=>b=lt i j/\s'=s) ⟨rfl,rfl⟩) (λb s' hb=>?_) λ_ _ f=>f.elim)));let⟨rfl,rfl⟩:=hb;show⟨rfl,Yk q⟩⟩;let ea:ks.toArray.zip vs.toArray=arr (λi=>(ks.getD i Yn,q0u 0)) (q1w 0):=by
  apply y1Y.mp;apply Zi;intro i;unfold arr;by_cases hi:i<vs.length
  ·let bf:i<ks.length:=⋯;simp[hi,bf,y0Y]
  ·let bf:¬ i<ks.length:=⋯;simp[hi,bf];omega
 refine B7 O (st:=SortSt.mk' κ (ks.toArray.zip vs.toArray) #[] 7 b_) ea rfl rfl rfl (Q:=λ_ aa=>∃p:W_ 0,p.Perm (q1w 0)/\p.Pairwise (λi j=>lt j i=false)/\(arrOf aa).map (·.2)=(p.map λi=>q0u 0).toArray/\y0P aa=b_) λW aa w1 w2 w3 w4=>⟨W,w1,w2,?_,w4⟩;rw[w3];unfold arr;simp
end
def He(ifs:ve t_)(env:Env):Sem Bool:=forIn ifs true λc r=>if r=true then do let ok <-isTrue c env (eval c env);pure (y18 ok) else pure (y18 r)
variable{R:g_ Result}{env:Env}{ifs:ve t_}{iter:t_}{scope:Scope}
theorem Cr{elt target:t_}{it acc:n_}(I:g_ Nat)(turn:∀n s,I n s->x_ (pyNext it) (λr s₁=>match r with
   |none=>R (.ok .next) s₁
   | some v=>x_ (letOwnedTupleGo target it v) (fun _ zd=>x_ (assign target env v) (fun _ s₂=>
     x_ (He ifs env) (λok s₃=>
      if ok=true then jn prog w A (eval elt env) (λx s₄=>x_ (call (.builtin "list.append") [acc,x]) (λ_ s₅=>∃m,m<n/\I m s₅) (λ_ _=>False) s₄) (λ_ _=>False) s₃
      else ∃m,m<n/\I m s₃) (λ_ _=>False) s₂) (λ_ _=>False) zd) (λ_ _=>False) s₁) (λ_ _=>False) s)(n:Nat)(h:I n s):
  codeAny (q0M 0) A (.compLoop (.ListComp elt [⟨target,iter,ifs,0⟩] scope pos) 0 it acc env) R s:=by
 refine codeAny_loop rfl I (λn s hI=>?_) n h
 show wpAny _ A ((compTurn (.ListComp elt [⟨target,iter,ifs,0⟩] scope pos) 0 it acc env).onRaise (λx=>do noteFrame x env;theTreesLotGoes x)) _ _ s
 refine wpAny_noted ?_;rw[compTurn_list];refine XJ (wpAny_standAt (XJ (ZG (turn n s hI) (λr s₁ h₁=>?_) λ_ _ h'=>h'.elim)));cases r with
 |none=>exact XM h₁
 |some v=>
  refine XJ (ZG h₁ (λ_ zd WO=>?_) λ_ _ h'=>h'.elim);refine XJ (ZG WO (λ_ s₂ h₂=>XJ (ZG h₂ (λok s₃ h₃=>?_) λ_ _ h'=>h'.elim)) λ_ _ h'=>h'.elim);cases ok with
  |false=>exact XM ⟨rfl,h₃⟩
  |true=>exact XJ (XJ (ZG h₃ (λx s₄ h₄=>XJ (ZG h₄ (λ_ s₅ h₅=>XM (XM ⟨rfl,h₅⟩)) λ_ _ h'=>h'.elim)) λ_ _ h'=>h'.elim))
def kR(cells:ve (Str×o_)):ve (Str×y1p)->ve (Str×o_)->ve (Str×o_)
 |[],cs=>cs
 |(n,k)::r,cs=>kR cells r (if(k == Zb)=true then(n,(cells.lookup n).getD 0)::cs else cs)
theorem B8(h:∀y∈scope.names,y.2=Zb->∃c,env.cells.lookup y.1=a_ c):closureFor scope env=pure (kR env.cells scope.names []):=by
 have go:∀(names:ve (Str×y1p))(cs:ve (Str×o_)),(∀y∈names,y.2=Zb->∃c,env.cells.lookup y.1=a_ c)->
   (forIn names cs λ(x:Str×y1p)(r:ve (Str×o_))=>match x with
    |(name,kind)=>if(kind == Zb)=true then(do let y <-cellOf env name;pure (y18 ((name,y)::r))) else(pure (y18 r):Sem _))=(pure (kR env.cells names cs):Sem _):=by
  intro names
  induction names with
  |nil=>intro cs _;rfl
  |cons y r ih=>
   intro cs hy
   let⟨n,k⟩:=y
   rw[List.forIn_cons]
   have zt:=λWc=>ih Wc λy hm=>hy y (XW _ hm)
   by_cases hk:(k == Zb)=true
   ·let⟨c,hc⟩:=hy (n,k) XY (i_ hk)
    have e1:cellOf env n=pure c:=by unfold cellOf;rw[show env.cells.lookup n=a_ c from hc]
    have e2:kR env.cells ((n,k)::r) cs=kR env.cells r ((n,c)::cs):=by
     show kR env.cells r (if(k == Zb)=true then _ else _)=_
     rw[if_pos hk,show env.cells.lookup n=a_ c from hc];rfl
    rw[e2,<-zt ((n,c)::cs)]
    simp only[hk,if_true,e1,pure_bind]
   ·have e2:kR env.cells ((n,k)::r) cs=kR env.cells r cs:=by
     show kR env.cells r (if(k == Zb)=true then _ else _)=_
     rw[if_neg hk]
    rw[e2,<-zt cs]
    simp only[hk,if_false,pure_bind]
    try rfl
 have:=go scope.names [] h
 unfold closureFor
 simpa using this
theorem xR{cells:ve (Str×o_)}{x:Str}{c:o_}:∀(names:ve (Str×y1p))(cs:ve (Str×o_)),(kR cells names cs).lookup x=a_ c->cs.lookup x=a_ c\/(∃y∈names,y.1=x/\y.2=Zb/\c=(cells.lookup x).getD 0)
 |[],_,h=>.inl h
 |(n,k)::r,cs,h=>by
  rcases xR r _ h with h1|⟨y,hy,e⟩
  ·by_cases hk:(k == Zb)=true
   ·rw[if_pos hk]at h1;by_cases hx:x=n
    ·subst hx;simp only[Yx,beq_self_eq_true]at h1;show .inr ⟨(x,k),XY,rfl,i_ hk,(Yp h1).symm⟩
    ·have:(x == n)=false:=by simpa using hx
     simp only[Yx,this]at h1;show .inl h1
   ·rw[if_neg hk]at h1;show .inl h1
  ·show .inr ⟨y,XW _ hy,e⟩
theorem A1{cells:ve (Str×o_)}{x:Str}:∀(names:ve (Str×y1p))(cs:ve (Str×o_)),((∃c,cs.lookup x=a_ c)\/∃y∈names,y.1=x/\y.2=Zb)->∃c,(kR cells names cs).lookup x=a_ c
 |[],_,h=>by
  rcases h with h|⟨y,hy,_⟩
  ·show h
  ·cases hy
 |(n,k)::r,cs,h=>by
  refine A1 r _ ?_;rcases h with⟨c,h⟩|⟨y,hy,e1,e2⟩
  ·left;by_cases hk:(k == Zb)=true
   ·rw[if_pos hk];by_cases hx:x=n
    ·subst hx;simp[Yx]
    ·have:(x == n)=false:=by simpa using hx
     show⟨c,by simp only[Yx,this];show h⟩
   ·rw[if_neg hk];show⟨c,h⟩
  ·rcases Yf.mp hy with rfl|hy
   ·left;let hk:(k == Zb)=true:=by simpa using e2
    rw[if_pos hk];let hx:n=x:=e1;subst hx;simp[Yx]
   ·show .inr ⟨y,hy,e1,e2⟩
def sJ(os:Scope)(oN:ve Str)(sc:Scope)(N:ve Str)(js:ve (v_ Nat)):Bool:=
 (match sc.kind with|.function=>true|_=>false)&&sc.names.all (λy=>match y.2 with
  |.cell=>(match sc.names.lookup y.1 with|some .cell=>true|_=>false)
  |_=>true) &&
 sc.names.all (λy=>match y.2 with
  |.local=>(match sc.names.lookup y.1 with|some .local=>true|_=>false)
  |.free=>(match sc.names.lookup y.1,os.names.lookup y.1 with|some .free,a_ .cell=>true|some .free,a_ .free=>true|_,_=>false)
  |_=>true) &&
 js.length == N.length&&(js.zip N).all (λp=>match p.1 with
  |none=>true
  |some j=>(match oN[j]? with|some x=>decide (x=p.2)|none=>false)&&(match sc.names.lookup p.2 with|some .free=>true|_=>false))
structure QP(os:Scope)(oN:ve Str)(sc:Scope)(N:ve Str)(js:ve (v_ Nat)):Prop where
 kind:sc.kind=.function
 own:∀y∈sc.names,y.2=.cell->sc.names.lookup y.1=some .cell
 nm:∀y∈sc.names,y.2=.local->sc.names.lookup y.1=some .local
 fr:∀y∈sc.names,y.2=.free->os.names.lookup y.1=some .cell\/os.names.lookup y.1=some .free
 len:js.length=N.length
 cap:∀(i j:Nat),js[i]?=some (some j)->∃x,N[i]?=some x/\oN[j]?=some x/\sc.names.lookup x=some .free
variable{js:ve (v_ Nat)}{oN:ve Str}{os sc:Scope}
theorem IE(h:sJ os oN sc N js=true):QP os oN sc N js:=by
 unfold sJ at h;simp only[YU]at h;let⟨⟨⟨⟨h1,h2⟩,h3⟩,h4⟩,h5⟩:=h;refine⟨?_,λy hy e=>?_,λy hy e=>?_,λy hy e=>?_,i_ h4,λi j e=>?_⟩
 ·cases hk:sc.kind <;> rw[hk]at h1 <;> first|rfl|exact absurd h1 Yg
 ·have:=Yy.mp h2 y hy;rw[e]at this;dsimp only at this;cases hl:sc.names.lookup y.1 with
  |none=>rw[hl]at this;show absurd this Yg
  |some k=>cases k <;> rw[hl]at this <;> first|rfl|exact absurd this Yg
 ·have:=Yy.mp h3 y hy;rw[e]at this;dsimp only at this;cases hl:sc.names.lookup y.1 with
  |none=>rw[hl]at this;show absurd this Yg
  |some k=>cases k <;> rw[hl]at this <;> first|rfl|exact absurd this Yg
 ·have:=Yy.mp h3 y hy;rw[e]at this;dsimp only at this;cases hl:sc.names.lookup y.1 with
  |none=>rw[hl]at this;show absurd this Yg
  |some k=>
   rw[hl]at this;cases ho:os.names.lookup y.1 with
   |none=>rw[ho]at this;cases k <;> exact absurd this Yg
   |some k'=>rw[ho]at this;cases k <;> cases k' <;> first|exact .inl rfl|exact .inr rfl|exact absurd this Yg
 ·let hlen:js.length=N.length:=by simpa using h4
  let⟨hi,ej⟩:=XN.mp e;let hN:i<N.length:=⋯;let hz:(js.zip N)[i]?=a_ (a_ j,N[i]):=by rw[y0Y];show⟨e,by simp[hN]⟩
  have:=Yy.mp h5 _ (Yv hz);simp only[YU]at this;let⟨t1,t2⟩:=this;refine⟨N[i],by simp[hN],?_,?_⟩
  ·cases ho:oN[j]? with
   |none=>rw[ho]at t1;show absurd t1 Yg
   |some x=>rw[ho]at t1;rw[of_decide_eq_true t1]
  ·cases hl:sc.names.lookup N[i] with
   |none=>rw[hl]at t2;show absurd t2 Yg
   |some k=>rw[hl]at t2;cases k <;> first|rfl|exact absurd t2 Yg
theorem fC{κ:Type}{x:Str}{k:κ}:∀{l:ve (Str×κ)},l.lookup x=a_ k->(x,k)∈l
 |[],h=>by simp at h
 |(n,v)::r,h=>by
  by_cases hx:x=n
  ·subst hx;simp only[Yx,beq_self_eq_true]at h;cases h
   show XY
  ·have:(x == n)=false:=by simpa using hx
   simp only[Yx,this]at h;show XW _ (fC h)
theorem qD{sc:Scope}{env:Env}:∀{names:ve (Str×y1p)}{x:Str}{k:y1p},(names.map λ(n,k)=>if(k == Zb&&env.scope.kind == .function&&env.kindOf n == a_ .cell) then(n,y19) else(n,k)).lookup x=a_ k->
  names.lookup x=a_ k\/(k=.cell/\names.lookup x=a_ .free)
 |[],_,_,h=>by simp at h
 |(n,q)::r,x,k,h=>by
  let ih:=@qD sc env r x k;by_cases hc:(q == Zb&&env.scope.kind == .function&&env.kindOf n == a_ .cell)=true
  ·simp only[YA]at h;rw[if_pos hc]at h;let hq:q=.free:=by simp only[YU]at hc;simpa using hc.1.1
   by_cases hx:x=n
   ·subst hx;simp only[Yx,beq_self_eq_true]at h⊢;show .inr ⟨(Yp h).symm,by rw[hq]⟩
   ·let e:(x == n)=false:=by simpa using hx
    simp only[Yx,e]at h⊢;show ih h
  ·simp only[YA]at h;rw[if_neg hc]at h;by_cases hx:x=n
   ·subst hx;simp only[Yx,beq_self_eq_true]at h⊢;show .inl h
   ·let e:(x == n)=false:=by simpa using hx
    simp only[Yx,e]at h⊢;show ih h
theorem tW{env:Env}:∀{names:ve (Str×y1p)}{x:Str},names.lookup x=a_ .free->
  (names.map λ(n,k)=>if(k == Zb&&env.scope.kind == .function&&env.kindOf n == a_ .cell) then(n,y19) else(n,k)).lookup x=a_ .free\/
  (names.map λ(n,k)=>if(k == Zb&&env.scope.kind == .function&&env.kindOf n == a_ .cell) then(n,y19) else(n,k)).lookup x=a_ .cell
 |[],_,h=>by simp at h
 |(n,q)::r,x,h=>by
  let ih:=@tW env r x;by_cases hc:(q == Zb&&env.scope.kind == .function&&env.kindOf n == a_ .cell)=true
  ·simp only[YA];rw[if_pos hc];by_cases hx:x=n
   ·subst hx;simp only[Yx,beq_self_eq_true]
    first|exact .inr rfl|exact .inr trivial
   ·let e:(x == n)=false:=by simpa using hx
    simp only[Yx,e]at h⊢;show ih h
  ·simp only[YA];rw[if_neg hc];by_cases hx:x=n
   ·subst hx;simp only[Yx,beq_self_eq_true]at h⊢;show .inl h
   ·let e:(x == n)=false:=by simpa using hx
    simp only[Yx,e]at h⊢;show ih h
theorem bX:∀(names:ve (Str×y1p))(n:Nat)(acc:ve (Str×o_)),Zl n names acc=Zl n names []++acc
 |[],_,_=>rfl
 |(x,k)::r,n,acc=>by
  unfold Zl;split
  ·rw[bX r _ ((x,n)::acc),bX r _ [(x,n)],XU];rfl
  ·show bX r n acc
theorem oG{x:Str}{c:o_}:∀{names:ve (Str×y1p)}{n:Nat},(x,c)∈Zl n names []->(x,y19)∈names
 |[],_,h=>by cases h
 |(y,k)::r,n,h=>by
  unfold Zl at h;split at h
  ·rename_i hk;rw[bX,X7]at h;rcases h with h|h
   ·show XW _ (oG h)
   ·let e:=YC.mp h;let ex:x=y:=congrArg y0i e;let ek:k=.cell:=by simpa using hk
    rw[ex,ek];show XY
  ·show XW _ (oG h)
theorem xT{α:Type}{x:Str}{c:α}:∀{l:ve (Str×α)},(x,c)∈l->∃d,l.lookup x=a_ d
 |(y,d)::r,h=>by
  by_cases e:x=y
  ·subst e;show⟨d,by simp[Yx]⟩
  ·let z:(x == y)=false:=by simpa using e
   rcases Yf.mp h with q|q
   ·show absurd (congrArg y0i q) e
   ·let⟨d',hd⟩:=xT q;show⟨d',by simp only[Yx,z];show hd⟩
theorem jE{x:Str}:∀{names:ve (Str×y1p)}{n:Nat},(x,y19)∈names->∃c,(Zl n names []).lookup x=a_ c
 |(y,k)::r,n,h=>by
  let go:∃c,(x,c)∈Zl n ((y,k)::r) []:=by
   rcases Yf.mp h with q|q
   ·let ex:x=y:=congrArg y0i q;let ek:k=.cell:=(congrArg Prod.snd q).symm;refine⟨n,?_⟩;unfold Zl;rw[if_pos (by rw[ek];rfl),bX,ex];show XS _ XY
   ·unfold Zl;split
    ·let⟨c,hc⟩:=jE (n:=n+1) q;rw[bX];show⟨c,Yu _ (mem_of_lookup hc)⟩
    ·let⟨c,hc⟩:=jE (n:=n) q;show⟨c,mem_of_lookup hc⟩
  let⟨c,hc⟩:=go;show xT hc
theorem tX{α:Type}{x:Str}:∀{l r:ve (Str×α)},(l++r).lookup x=(l.lookup x).or (r.lookup x)
 |[],_=>by simp
 |(y,d)::l,r=>by
  let ih:=tX (x:=x) (l:=l) (r:=r);cases e:x == y with
  |true=>simp[Yx,e]
  |false=>simp only[y1j,Yx,e];show ih
variable{builtins globals:o_}{closure:ve (Str×o_)}{code:n_}{func:v_ o_}
theorem vV{outer:Env}{Q:g_ Env}(hQ:Q (newEnv scope (c_ s) globals (Zl (s.heap.objs.size+1) scope.names closure) qual func code (a_ outer) builtins) {s with heap:=pushCells (s.heap.push {cls:=.type "dict",data:=.dict #[]}) scope.names}):
  wpAny M A (newFunctionEnv scope globals closure [] qual func code (a_ outer) builtins) Q E s:=by
 simp only[newFunctionEnv,Option.isSome_some,if_true];refine XJ (wpAny_alloc ?_);refine XJ (wpAny_layCells _ (λname kind cells=>by cases hkc:kind == y19 <;> simp[hkc]) _ _ _ _ ?_);rw[show({s with heap:=s.heap.push {cls:=.type "dict",data:=.dict #[]} }:oa).heap.objs.size=(c_ s)+1 from Zn ..]
 rw[List.forIn_nil];show XJ (XM (XM hQ))
def Cx.comp(X:Cx)(sc:Scope)(N:ve Str)(C:o_)(fp:ve o_)(s₀:oa)(H₀:Hp):Cx:=
 { X with N:=N,s₀:=s₀,H₀:=H₀,env:=compEnvC sc (Zl (C+1) sc.names (Y_ [])) C X.env,outer:=X.stack,ex:=fp,fn:=λx=>(match q0B 0 with|some .cell=>true|_=>false),pn:=[],xe:=λ_ _=>False}
def FU:St->Nat->v_ V
 |[],_=>b_
 |x::_,0=>x
 |_::r,n+1=>FU r n
theorem A2:∀{σ:St}{i:Nat}{v:V},FU σ i=a_ v->σ[i]?=a_ (a_ v)
 |[],_,_,h=>by cases h
 |x::_,0,v,h=>by let h':x=a_ v:=h;simp[h']
 |_::r,n+1,v,h=>by rw[Y4];show A2 (σ:=r) (i:=n) h
def oH(js:ve (v_ Nat))(σ:St):St:=js.map λo=>match o with
 |none=>b_
 |some j=>FU σ j
theorem NL{σ:St}{v:V}(h:(oH js σ)[i]?=a_ (a_ v)):∃j,js[i]?=a_ (a_ j)/\σ[j]?=a_ (a_ v):=by
 unfold oH at h;rw[XT]at h;cases e:js[i]? with
 |none=>rw[e]at h;cases h
 |some o=>
  rw[e]at h;cases o with
  |none=>cases h
  |some j=>exact⟨j,rfl,A2 (Yp h)⟩
def PTs(X:Cx)(ifs:ve t_)(t:TT):Prop:=
 ∀(FR:e_ 0)(s:oa)(σ:St)(H:Hp)(Q:Bool->Hp->Prop),P_ s->t σ H Q->wpAny (fI X) X.A (He ifs X.env) (TP X FR σ Q) X.xe s
def SZ:TT:=λ_ H Q=>Q true H
theorem NM:PTs X [] SZ:=λ_ _ _ H _ I h=>wpAny_tests_nil ⟨H,I,h⟩
theorem NN{c:t_}{t:TT}(h:PT X c t):PTs X [c] t:=λFR s σ H Q I q=>wpAny_tests_one (q0t Q I q)
def PB(js:ve (v_ Nat))(g:TG)(tt:TT)(te:TE)(σ:St)(acc:o_)(x:V)(H:Hp)(N:Hp->Prop):Prop:=g x (oH js σ) H λσ2 H4=>tt σ2 H4 λb H5=>if b=true then te σ2 H5 λv H6=>∃ys,H6 acc=a_ (.lst ys)/\ys.length<X5/\N (upd H6 acc (.lst (ys++[v]))) else N H5
def Hf(js:ve (v_ Nat))(wi:TI)(g:TG)(tt:TT)(te:TE):TE:=λσ H Q=>wi σ H λJ H1=>∀acc,H1 acc=b_->
 ∃W:Nat->Nat->Hp->Prop,(∃m,W 0 m (upd H1 acc (.lst [])))/\∀i m H2,W i m H2->
  (J.stop i H2/\Q (.ref acc) H2)\/(J.go i H2/\∃N:Hp->Prop,(∀H',N H'->∃m',m'<m/\W (i+1) m' H')/\∀x H3,J.yld i H2 x H3->PB js g tt te σ acc x H3 N)
variable{Q0:d_ 0}{te:TE}{tg:t_}{use:v_ (n_->Sem Unit)}{gm pos':Pos}
section
variable{elt:t_}{wi:TI}{g:TG}{tt:TT}
structure Off(X:Cx)(FR:e_ 0)(H:Hp)(C:o_)(s:oa):Prop where
 ns:∃m,s.heap.Ns C m
 none:H C=none
 loc:C≠X.env.locals
 new:X.s₀.heap.objs.size<=C
 cells:∀x c,X.env.cells.lookup x=some c->c≠C
 FR:∀p∈X.pn++FR,p.1≠C
theorem Off.go{σ:St}{C:o_}(o:Off X FR H C s)(I:P_ s)(hs:Zv C s.heap h'):P_ {s with heap:=h'}:=I.turned (t':=s.toks) (λb ob hb e=>(hs.2 b hb).trans e) o.none o.loc (.inr o.new) o.cells o.FR
theorem BK(hc:X.calm=true)(gp:X.env.scope=os)(i7:X.N=oN)(ok:sJ os oN sc N js=true)(hi:PI X tg iter wi)(hg:∀C fp s₀ H₀,PG (q0U 0) tg g)(ht:∀C fp s₀ H₀,PTs (q0U 0) ifs tt)(he:∀C fp s₀ H₀,PE (q0U 0) elt te){σ:St}{Q:VK}(I:P_ s)(h:Hf js wi g tt te σ H Q)(vh:∀acc C s6 H6,f_ H6 s6->Off X FR H6 C s6->Q (.ref acc) H6->compPost (fI X) X.A X.xe use Q0 (.ref acc) C (.ok .next) s6)(hs:∀x,y0z iter X.env x=pure x:=by intro _;rfl):
  wpAny (fI X) X.A (comprehension (.ListComp elt [⟨tg,iter,ifs,0⟩] sc pos) sc X.env (firstIterPos [⟨tg,iter,ifs,0⟩] pos) (newList []) false (eval iter X.env) use) Q0 X.xe s:=by
 let S:=IE ok;subst gp i7;let xi:∀y∈sc.names,y.2=Zb->∃c,X.env.cells.lookup y.1=a_ c:=λy hy e=>I.ok.has y.1 (S.fr y hy e);let jy:∀x c,(Y_ []).lookup x=a_ c->Z_ 0=a_ c:=λx c e=>by
  rcases xR _ _ e with z|⟨y,hy,e1,e2,e3⟩
  ·cases z
  ·let⟨d,hd⟩:=xi y hy e2;rw[e1]at hd;rw[hd]at e3;rw[hd,e3];rfl
 refine wpAny_comprehension_free (use:=use) rfl hs (B8 xi) S.kind S.nm (thn (hi FR s σ H _ I h) λv s1 h1=>thn h1 λvy s2 h2=>?_);let⟨it,fp,tn,J,H2,e,I2,T,au,f2,q⟩:=h2;subst e;let⟨W,⟨m0,w0⟩,turn⟩:=q (c_ s2) I2.fresh;refine YJ (vV ?_);let I3:f_ (upd H2 (c_ s2) (.lst [])) {s2 with heap:=s2.heap.push {cls:=.type "list",data:=.seq ([]:ve n_).toArray},toks:=s2.toks}:=I2.lnew (its:=[]) (ys:=[]) .nil (YE _);generalize XF:upd H2 (c_ s2) (HO.lst [])=H3 at w0 I3;generalize WB:({s2 with heap:=s2.heap.push {cls:=.type "list",data:=.seq ([]:ve n_).toArray},toks:=s2.toks}:oa)=s3 at I3;let Wg:({s2 with heap:=s2.heap.push {cls:=.type "list",dict:=b_,data:=.seq ([]:ve n_).toArray} }:oa)=s3:=WB;let zz:s2.heap.push {cls:=.type "list",dict:=b_,data:=.seq ([]:ve n_).toArray}=s3.heap:=by rw[<-Wg]
 (try rw[zz])
 let hC:∀b o,s3.heap.get? b=a_ o->b≠(c_ s3):=λb o e=>Yj (XZ e);let old:∀b o,s3.heap.get? b=a_ o->(pushCells (s3.heap.push {cls:=.type "dict",data:=.dict #[]}) sc.names).get? b=a_ o:=λb o e=>pushCells_keeps _ _ b o (XO _ e);let p7:(pushCells (s3.heap.push {cls:=.type "dict",data:=.dict #[]}) sc.names).Ns (c_ s3) (λ_=>b_):=(Heap.Ns.new s3.heap (.type "dict")).keeps (pushCells_keeps _ _);let p8:=cellsFrom_ok sc.names (s3.heap.push {cls:=.type "dict",data:=.dict #[]}) (s3.heap.objs.size+1) [] ⟨λ_ _ hm=>(nomatch hm),ZE⟩ (by rw[Zn];show X1 _);rw[Zn]at p8;generalize pushCells (s3.heap.push {cls:=.type "dict",data:=.dict #[]}) sc.names=h₁ at old p7 p8⊢;let ql:∀{x c},(Zl (s3.heap.objs.size+1) sc.names (Y_ [])).lookup x=a_ c->((x,c)∈Zl (s3.heap.objs.size+1) sc.names []/\h₁.IsCell c b_/\(c_ s3)+1<=c)\/(Z_ 0=a_ c/\c<(c_ s3)):=λ{x c} e=>by
  rw[bX,tX]at e;cases eo:(Zl (s3.heap.objs.size+1) sc.names []).lookup x with
  |some d=>
   rw[eo]at e;cases e
   have:=mem_of_lookup eo;show .inl ⟨this,p8.empty x c this⟩
  |none=>rw[eo]at e;let e:=jy x c e;let⟨v,z⟩:=I3.cell x c e;show .inr ⟨e,z.lt⟩
 let ye:∀{x c},q0B 0=a_ .free->(Y_ []).lookup x=a_ c->(Zl (s3.heap.objs.size+1) sc.names (Y_ [])).lookup x=a_ c:=λ{x c} hf e=>by
  rw[bX,tX];cases eo:(Zl (s3.heap.objs.size+1) sc.names []).lookup x with
  |some d=>have:=S.own _ (oG (mem_of_lookup eo)) rfl;rw[hf]at this;cases this
  |none=>exact e
 let ai:tn 0 s3.heap:=T.keep 0 _ _ au λb hb o e=>by rw[<-zz];show XO _ e
 let uj:∀b∈fp,∃o,s3.heap.get? b=a_ o/\∀v,o.data≠.cell v:=T.obj 0 _ ai;let f3:∀b∈fp,DJ X FR H3 b:=λb hb=>by let⟨o,ho,_⟩:=T.obj 0 _ au b hb;refine⟨?_,(f2 b hb).2⟩;rw[<-XF,aS (Yj (XZ ho))];show(f2 b hb).1
 -- the block's context
 let qr:(U_ (c_ s3) fp s3 H3).Ok:=by
  refine⟨I.ok.mod,S.kind,I.ok.glob,I.ok.blt,X1 _,λx y c e1 e2=>?_,λx hx=>?_,λx c z e=>?_,I.ok.hd,I.ok.frames,.inl rfl,λb hb=>?_,I3.bs,
   Y9 I.ok.bsz I3.sz,λb o e hb=>?_,λb hb hf=>?_,I3.stack,I3.stkFree⟩
  ·rcases ql e1 with⟨m1,_,g1⟩|⟨z1,g1⟩ <;> rcases ql e2 with⟨m2,_,g2⟩|⟨z2,g2⟩
   ·show name_of_addr p8.apart m1 m2
   ·show absurd (Yl g2 (Nat.le_of_succ_le g1)) (ZD _)
   ·show absurd (Yl g1 (Nat.le_of_succ_le g2)) (ZD _)
   ·show I.ok.inj x y c z1 z2
  ·let fr:q0B 0=a_ .free->∃c,(Zl (s3.heap.objs.size+1) sc.names (Y_ [])).lookup x=a_ c:=λhf=>
    let ⟨c,hc⟩:=A1 (cells:=X.env.cells) (x:=x) sc.names [] (.inr ⟨_,fC hf,rfl,rfl⟩)
    ⟨c,ye hf hc⟩
   let fin:∀{k},(relabel sc X.env).names.lookup x=a_ k->(k=.cell\/k=.free)->∃c,(Zl (s3.heap.objs.size+1) sc.names (Y_ [])).lookup x=a_ c:=λ{k} e hk=>by
    rcases qD (sc:=sc) e with z|⟨_,z⟩
    ·rcases hk with rfl|rfl
     ·let⟨c,hc⟩:=jE (n:=(c_ s3)+1) (fC z);show⟨c,by rw[bX,tX,hc];rfl⟩
     ·show fr z
    ·show fr z
   rcases hx with hx|hx
   ·show fin hx (.inl rfl)
   ·show fin hx (.inr rfl)
  ·let z:q0B 0=a_ .cell:=by
    let z:(match q0B 0 with|some .cell=>true|_=>false)=true:=z
    split at z
    ·assumption
    ·cases z
   let e:(Zl (s3.heap.objs.size+1) sc.names (Y_ [])).lookup x=a_ c:=e;let⟨d,hd⟩:=jE (n:=(c_ s3)+1) (fC z);rw[bX,tX,hd]at e;cases e
   show Nat.le_of_succ_le (p8.empty x c (mem_of_lookup hd)).2
  ·let⟨o,ho,_⟩:=uj b hb;refine⟨hC b o ho,λx c e=>?_⟩;rcases ql e with⟨_,_,g1⟩|⟨z1,_⟩
   ·show Za (Yl (XZ ho) (Nat.le_of_succ_le g1))
   ·show(f3 b hb).2.2.2.2.1 x c z1
  ·rcases(f3 b hb).2.2.2.1 with z|z
   ·show I.ok.noex b o e z
   ·show absurd (Yl (XZ e) (Y9 I.ok.bsz z)) (ZD _)
  ·rcases Yf.mp (I3.stkSub b hf) with z|z
   ·show(f3 b hb).2.1 z
   ·show(f3 b hb).2.2.1 z
 -- what the block takes from around it
 let oj:∀(i:Nat)(x:Str)(v:V),N[i]?=a_ x->(oH js σ)[i]?=a_ (a_ v)->∃u c o,RelV v u/\((compEnvC sc (Zl (s3.heap.objs.size+1) sc.names (Y_ [])) (c_ s3) X.env).kindOf x=a_ .cell\/(compEnvC sc (Zl (s3.heap.objs.size+1) sc.names (Y_ [])) (c_ s3) X.env).kindOf x=a_ .free)/\
   (Zl (s3.heap.objs.size+1) sc.names (Y_ [])).lookup x=a_ c/\s3.heap.get? c=a_ o/\o.data=.cell (a_ u)/\H3 c=b_/\c∉fp:=by
  intro i x v hN hv;let⟨j,hj,hσ⟩:=NL hv;let⟨x',az,ho,hf⟩:=S.cap i j hj;rw[hN]at az;cases az;let⟨m,hn,hl⟩:=I3.loc;let v9:Vis X.env.scope x:=by
   rcases S.fr _ (fC hf) rfl with z|z
   ·show .inr (.inl z)
   ·show .inr (.inr z)
  let⟨u,r,l⟩:=hl j x v ho hσ v9;let⟨c,qf⟩:=A1 (cells:=X.env.cells) (x:=x) sc.names [] (.inr ⟨_,fC hf,rfl,rfl⟩);let u0:=jy x c qf;let dw:s3.heap.IsCell c (a_ u):=by
   rcases l with⟨k,_⟩|⟨_,c',e,z⟩
   ·exfalso;rcases S.fr _ (fC hf) rfl with z|z
    ·let k':q0c 0=a_ .local:=k;rw[z]at k';cases k'
    ·let k':q0c 0=a_ .local:=k;rw[z]at k';cases k'
   ·rw[u0]at e;cases e;show z
  let⟨o,cg,hd⟩:=dw;refine⟨u,c,o,r,?_,ye hf qf,cg,hd,I3.freeC x c u0,λhb=>(f3 c hb).2.2.2.2.1 x c u0 rfl⟩;show(tW (env:=X.env) hf).symm
 -- at any state of the block,its names as at its start
 let qg:∀{cz:e_ 0}{σ8:St}{H8:Hp}{s8:oa},Inv (U_ (c_ s3) fp s3 H3) cz σ8 H8 s8->Inv (U_ (c_ s3) fp s3 H3) [] (oH js σ) H8 s8:=λ{cz σ8 H8 s8} I8=>by
  refine⟨I8.ok,I8.os,I8.bare,I8.base,?_,I8.cell,I8.free,I8.freeC,λp hp=>by simp[Cx.comp]at hp,I8.hok,?_⟩
  ·let⟨m,hn,_⟩:=I8.loc;refine⟨m,hn,λi x v hN hv _=>?_⟩;let⟨u,c,o,r,k,hl,ho,hd,Ww,XB⟩:=oj i x v hN hv;refine⟨u,r,.inr ⟨k,c,hl,?_⟩⟩;let⟨sl,e⟩:=I8.base.any ho Ww XB;show⟨_,e,hd⟩
  ·change(oH js σ).length=N.length
   unfold oH;rw[XR,S.len]
 let I4:Inv (U_ (c_ s3) fp s3 H3) [] (oH js σ) H3 {s3 with heap:=h₁}:=by
  refine⟨qr,rfl,I3.bare,Un.kept old,⟨_,p7,λi x v hN hv _=>?_⟩,λx c e=>?_,I3.fresh,λx c e=>?_,λp hp=>by simp[Cx.comp]at hp,I3.hok.kept old,?_⟩
  ·let⟨u,c,o,r,k,hl,ho,hd,_,_⟩:=oj i x v hN hv;show⟨u,r,.inr ⟨k,c,hl,o,old c o ho,hd⟩⟩
  ·rcases ql e with⟨_,g1,_⟩|⟨z1,_⟩
   ·show⟨_,g1⟩
   ·let⟨v,o,ho,hd⟩:=I3.cell x c z1;show⟨v,o,old c o ho,hd⟩
  ·rcases ql e with⟨_,_,g1⟩|⟨z1,_⟩
   ·show I3.hok.fresh ⋯
   ·show I3.freeC x c z1
  ·change(oH js σ).length=N.length
   unfold oH;rw[XR,S.len]
 let zh:tn 0 h₁:=T.keep 0 _ _ ai λb hb o e=>old b o e;let j2:∀{H':Hp},(∀b∈fp,H' b=b_)->∀b∈fp,DJ (U_ (c_ s3) fp s3 H3) [] H' b:=λ{H'} hn b hb=>⟨hn b hb,(qr.exf b hb).1,qr.exfs b hb,.inl hb,(qr.exf b hb).2,λp hp=>by simp[Cx.comp]at hp⟩;let fin:∀(s6:oa)(H6:Hp),Inv (U_ (c_ s3) fp s3 H3) [] (oH js σ) H6 s6->Q (.ref (c_ s2)) H6->compPost (fI X) X.A X.xe use Q0 (.ref (c_ s2)) (c_ s3) (.ok .next) s6:=λs6 H6 I6 q6=>by
  let I7:f_ H6 s6:=I3.call' (ch:=fp) I6.os I6.base I6.hok I6.bare λb hb=>⟨(f3 b hb).2.2.2.1,(f3 b hb).2.1,(f3 b hb).2.2.2.2.1,(f3 b hb).2.2.2.2.2⟩;refine vh _ _ _ _ I7 ⟨let ⟨m,hn,_⟩:=I6.loc;⟨m,hn⟩,I6.free,Za I3.lt,I3.sz,λx c e=>?_,λp hp=>?_⟩ q6
  ·let⟨v,z⟩:=I3.cell x c e;show Yj z.lt
  ·show Yj (XZ (I3.pin p hp).1)
 let loop:codeAny (fI X) X.A (.compLoop (.ListComp elt [⟨tg,iter,ifs,0⟩] sc pos) 0 (.ref it) (.ref (c_ s2)) (compEnvC sc (Zl (s3.heap.objs.size+1) sc.names (Y_ [])) (c_ s3) X.env))
   (compPost (fI X) X.A X.xe use Q0 (.ref (c_ s2)) (c_ s3)) {s3 with heap:=h₁}:=by
  refine Cr (λn s'=>∃i H',Inv (U_ (c_ s3) fp s3 H3) [] (oH js σ) H' s'/\tn i s'.heap/\(∀b∈fp,H' b=b_)/\W i n H') ?_ m0 ⟨0,H3,I4,zh,λb hb=>(f3 b hb).1,w0⟩;rintro n s5 ⟨i,H5,I5,md,sk,w5⟩;rcases turn i n H5 w5 with⟨stop,qn⟩|⟨go,Nn,hN,step⟩
  ·refine thn (T.done (U_ (c_ s3) fp s3 H3) rfl rfl rfl hc i [] s5 (oH js σ) H5 (λ_ _=>False) I5 (j2 sk) md stop) λr s6 ⟨hr,I6⟩=>?_;subst hr;show fin s6 H5 I6 qn
  ·refine thn (T.item (U_ (c_ s3) fp s3 H3) rfl rfl rfl hc i [] s5 (oH js σ) H5 (λ_ _=>False) I5 (j2 sk) md go) λr s6 ⟨u,hr,h6⟩=>?_;subst hr;refine thn h6 λ_ s7 hz=>?_;let⟨x,H7,I7,r7,y7,vf,Xf⟩:=hz;let Xw:=I7.pinned (j2 Xf) (T.obj _ _ vf);refine thn (hg _ _ _ _ _ s7 _ H7 x u _ Xw r7 (step x H7 y7)) λ_ s8 ⟨σ8,H8,I8,q8⟩=>?_;refine thn (ht _ _ _ _ _ s8 σ8 H8 _ I8 q8) λb s9 ⟨H9,I9,q9⟩=>?_;let again:∀{σ':St}{H':Hp}{s':oa},Inv (U_ (c_ s3) fp s3 H3) ([]++zM fp s7.heap) σ' H' s'->Nn H'->∃m,m<n/\∃i H',Inv (U_ (c_ s3) fp s3 H3) [] (oH js σ) H' s'/\tn i s'.heap/\(∀b∈fp,H' b=b_)/\W i m H':=λ{σ' H' s'} I' n'=>by let⟨m',hm,w'⟩:=hN H' n';refine⟨m',hm,i+1,H',qg I',T.keep _ _ _ vf λb hb o e=>(I'.pin (b,o) (XS _ (XS _ (oC hb e)))).1,λb hb=>?_,w'⟩;let⟨o,e,d⟩:=T.obj _ _ vf b hb;show(I'.pin (b,o) (XS _ (XS _ (oC hb e)))).2.1
   cases b with
   |false=>exact again I9 q9
   |true=>refine thn (he _ _ _ _ _ s9 σ8 H9 _ I9 q9) λu' s10 ⟨v,H10,I10,rv,ys,ah,hz,n10⟩=>?_;refine thn (BC (X:=U_ (c_ s3) fp s3 H3) _ s10 σ8 H10 (.ref (c_ s2)) [v] (.ref (c_ s2)) [u'] (λ_ H'=>Nn H') I10 rfl (.cons rv .nil) ⟨_,ys,v,rfl,rfl,ah,hz,n10⟩) λ_ s11 ⟨_,H11,I11,_,n11⟩=>?_;show again I11 n11
 show codeAny_compStart_list loop (T.self X.A 0 _ _ _ zh loop)
theorem NO(hc:X.calm=true)(gp:X.env.scope=os)(i7:X.N=oN)(ok:sJ os oN sc N js=true)(hi:PI X tg iter wi)
  (hg:∀C fp s₀ H₀,PG (q0U 0) tg g) (ht:∀C fp s₀ H₀,PTs (q0U 0) ifs tt) (he:∀C fp s₀ H₀,PE (q0U 0) elt te)
  (hs:∀x,y0z iter X.env x=pure x:=by intro _;rfl):PE X (.ListComp elt [⟨tg,iter,ifs,0⟩] sc pos) (Hf js wi g tt te):=by
 intro FR s σ H Q I h;rw[eval_ListComp];refine BK (use:=b_) hc gp i7 ok hi hg ht he I h (λacc C s6 H6 I6 o q=>?_) hs;show⟨o.ns.choose,o.ns.choose_spec,λh' fo=>⟨.ref acc,H6,o.go I6 fo,rfl,q⟩⟩
theorem FV(hN:X.N.Nodup)(az:X.N[i]?=a_ x)(iy:q0c 0=a_ .local)(hc:X.calm=true)(gp:X.env.scope=os)(i7:X.N=oN)(ok:sJ os oN sc N js=true)(hi:PI X tg iter wi)(hg:∀C fp s₀ H₀,PG (q0U 0) tg g)(ht:∀C fp s₀ H₀,PTs (q0U 0) ifs tt)(he:∀C fp s₀ H₀,PE (q0U 0) elt te)(uo:swapsWith (.ListComp elt [⟨tg,iter,ifs,0⟩] sc pos) (a_ (.Name x pos')) gm.line X.env=pure true:=by rfl)(hs:∀x,y0z iter X.env x=pure x:=by intro _;rfl):PS X (.Assign [.Name x pos'] (.ListComp elt [⟨tg,iter,ifs,0⟩] sc pos) gm) (Qk (Hf js wi g tt te) (JJ i)):=by
 intro FR s σ H D I h
 rw[exec_Assign_Name_used _ _ _ _ uo]
 refine XJ (wpAny_standAt (XJ ?_))
 show wpAny _ X.A (do let _ <-comprehension (.ListComp elt [⟨tg,iter,ifs,0⟩] sc pos) sc X.env _ (newList []) false (eval iter X.env) (a_ (assign (.Name x pos') X.env))) _ _ s
 refine XJ (thn (BK (use:=a_ (assign (.Name x pos') X.env)) (Q0:=λ_ s'=>SP X FR D .next s') hc gp i7 ok hi hg ht he I h (λacc C s6 H6 I6 o q=>?_) hs) λ_ s' hq=>XM (XM hq))
 show wpAny _ X.A (assign (.Name x pos') X.env (.ref acc)) _ _ _
 refine wpAny_assign_Name (Bv I6 hN az (.inl iy) (v:=.ref acc) rfl (λs7 I7 ⟨a,hs7,ha⟩=>?_) (.inr iy))
 have y9:C≠a:=by
  rcases ha with rfl|ha
  ·exact o.loc
  ·exact λe=>o.cells x a ha e.symm
 let⟨m,hn⟩:=o.ns
 have o7:Off X FR H6 C s7:=⟨⟨m,hn.sameBut hs7 y9⟩,o.none,o.loc,o.new,o.cells,o.FR⟩
 exact⟨m,hn.sameBut hs7 y9,λh' fo=>⟨_,H6,o7.go I7 fo,q⟩⟩
end
def T6:V->v_ Int->v_ Int->Hp->VK->Prop:=λx lo hi H Q=>∃z,x=.str z/\z.length<=X5/\Q (.str (y1S z lo hi)) H
variable{v:n_}
theorem part_of{o:v_ Int}(h:IsPart v o):∃p:v_ (Int×Tok),v=partValue p/\p.map (·.1)=o:=by
 cases h with
 |none=>exact⟨b_,rfl,rfl⟩
 |int i t=>exact⟨a_ (i,t),rfl,rfl⟩
theorem QQ:SlR X T6:=by
 intro FR s σ H x v vl vu lo hi sl Q I rx hs pl pu h;let⟨z,rfl,hz,q⟩:=h;let⟨t,rfl⟩:=rx;let⟨l,rfl,rfl⟩:=part_of pl;let⟨u,rfl,rfl⟩:=part_of pu;let⟨o,ho,hc,hd⟩:=hs;refine⟨"str",_,PySem.F.slot_str_getitem.lookup,typeIs_str s z t,?_⟩;refine wpAny_getItem_str_slice (l:=l) (u:=u) (st:=b_) ⟨o,ho,hc,hd⟩ rfl ?_;let e:sliceMade z t l u b_=if((1:Int) == 1&&(y1x (l.map (·.1)) (u.map (·.1)) 1 z.length).length == z.length)=true then Made.val (.str z t) else Made.str ⟨((y1x (l.map (·.1)) (u.map (·.1)) 1 z.length).filterMap (z.cps[·]?)).toArray⟩:=rfl;let hle:=Txt.slice_le z (l.map (·.1)) (u.map (·.1));unfold y1S at q hle;rw[e];by_cases af:((1:Int) == 1&&(y1x (l.map (·.1)) (u.map (·.1)) 1 z.length).length == z.length)=true
 ·rw[if_pos af]at q⊢;show⟨.str z,H,I,⟨t,rfl⟩,q⟩
 ·rw[if_neg af]at q hle⊢;show⟨Y9 hle hz,.str _,H,I.tok _,⟨_,rfl⟩,q⟩
theorem A3:∀{ss:ve Str}{us:ve n_},aW (ss.map V.str) us->StrsAre us ss
 |[],_,r=>by cases r;show .nil
 |x::ss,_,r=>by
  cases r with
  |cons h t=>let⟨tk,rfl⟩:=h;show .cons x tk (A3 t)
variable{es:ve t_}
theorem gT{k:Nat}{t:TGs}(K:XQ)(hK:X.K=K)(hc:X.calm=true)(h:PGs X es t)(hn:(y0L es X.env).length=n:=by rfl)(b9:(y0L es X.env).findIdx? (·.1)=b_:=by rfl):PG X (.Tuple es k pos) (Sz K n t):=by subst hK;show Qj hc h hn b9
variable{e:t_}{f:n_->n_->Sem n_}{r':R2}
section
variable{a b:t_}{t t' tb:TE}
theorem PE.imp(h:PE X e t)(i:∀σ H Q,t' σ H Q->t σ H Q):PE X e t':=λFR s σ H Q I q=>q0t Q I (i σ H Q q)
theorem PT.imp{t t':TT}(h:PT X e t)(i:∀σ H Q,t' σ H Q->t σ H Q):PT X e t':=λFR s σ H Q I q=>q0t Q I (i σ H Q q)
theorem OpR.imp{r:R2}(h:q0J f r)(i:∀x y H Q,r' x y H Q->r x y H Q):q0J f r':=λFR s σ H x y v u Q I rx ry q=>q0t x y v u Q I rx ry (i x y H Q q)
theorem dJ.imp{f:n_}{r r':ve V->Hp->VK->Prop}(h:dJ X f r)(i:∀xs H Q,r' xs H Q->r xs H Q):dJ X f r':=λFR s σ H xs us Q I rx q=>q0t xs us Q I rx (i xs H Q q)
def cV(i:Nat):TE:=λσ H Q=>match FU σ i with
 |some v=>Q v H
 |none=>False
theorem cv(i:Nat)(hN:X.N[i]?=a_ x:=by rfl)(hv:Vis X.env.scope x:=by first|exact Or.inl rfl|exact Or.inr (Or.inl rfl)|exact Or.inr (Or.inr rfl))(hd:(x == ("__debug__" : Str))=false:=by decide)(fb:(x == ("__classdict__" : Str))=false:=by decide):PE X (.Name x pos) (cV i):=by
 refine(JH hN hv hd fb).imp λσ H Q h=>?_;unfold cV at h;cases e:FU σ i with
 |none=>rw[e]at h;show h.elim
 |some v=>rw[e]at h;show⟨v,A2 e,h⟩
def T7(K:XQ):R2:=λx y H Q=>match x,y with
 |.int i,.int j=>Q (.int (i+j)) H
 |.str i,.str j=>i.length+j.length<=X5/\Q (.str (i++j)) H
 |.ref _,.ref _=>SU x y H Q\/Pv K x y H Q
 |_,_=>False
theorem NP(K:XQ)(hK:X.K=K):q0J (ZQ .Add) (T7 K):=by
 subst hK;refine(Qq.or (FA.or (QH.or Nw))).imp λx y H Q h=>?_;cases x <;> cases y <;> first
  |exact .inl ⟨_,_,rfl,rfl,h⟩
  |exact .inr (.inl ⟨_,_,rfl,rfl,h.1,h.2⟩)
  |exact .inr (.inr h)
  |exact h.elim
def Ea(C:Int->Int->Prop)(f:Int->Int->Int):R2:=λx y H Q=>match x,y with
 |.int i,.int j=>C i j/\Q (.int (f i j)) H
 |_,_=>False
def Kg(f:Int->Int->Int):R2:=λx y H Q=>match x,y with
 |.int i,.int j=>Q (.int (f i j)) H
 |_,_=>False
theorem Cs{C:Int->Int->Prop}{g:Int->Int->Int}(h:q0J f (rI C λi j=>.int (g i j))):q0J f (Ea C g):=h.imp λx y H Q q=>by cases x <;> cases y <;> first|exact⟨_,_,rfl,rfl,q.1,q.2⟩|exact q.elim
theorem Kh{g:Int->Int->Int}(h:q0J f (rI0 λi j=>.int (g i j))):q0J f (Kg g):=h.imp λx y H Q q=>by cases x <;> cases y <;> first|exact⟨_,_,rfl,rfl,q⟩|exact q.elim
theorem NQ:q0J (ZQ .Sub) (Kg λi j=>i-j):=Kh Qr
theorem NR:q0J (ZQ .Mult) (Ea DL λi j=>i*j):=Cs Qs
theorem NS:q0J (ZQ .FloorDiv) (Ea JM λi j=>i/j):=Cs Nk
theorem NT:q0J (ZQ .Mod) (Ea (λ_ j=>0<j) λi j=>i%j):=Cs Qt
def Eb(f:Int->Int->Bool)(g:W_ 0->W_ 0->Bool):R2:=λx y H Q=>match x,y with
 |.int i,.int j=>Q (.bl (f i j)) H
 |.str i,.str j=>Q (.bl (g i.cps.toList j.cps.toList)) H
 |_,_=>False
theorem Ct{p:Int->Int->Bool}{g:W_ 0->W_ 0->Bool}(h1:q0J f (rI0 λi j=>.bl (p i j)))(h2:q0J f (λx y H Q=>∃i j,x=.str i/\y=.str j/\Q (.bl (g i.cps.toList j.cps.toList)) H)):q0J f (Eb p g):=(h1.or h2).imp λx y H Q q=>by cases x <;> cases y <;> first|exact .inl ⟨_,_,rfl,rfl,q⟩|exact .inr ⟨_,_,rfl,rfl,q⟩|exact q.elim
theorem QR:q0J (YD .Lt) (Eb (λi j=>decide (i<j)) λi j=>decide (i<j)):=Ct SF Ic
theorem QS:q0J (YD .Gt) (Eb (λi j=>decide (j<i)) λi j=>decide (j<i)):=Ct SJ λFR s σ H x y v u Q I rx ry h=>by let⟨i,j,rfl,rfl,q⟩:=h;let⟨t,rfl⟩:=rx;let⟨t',rfl⟩:=ry;show PySem.P.gt_str (zN I q rfl)
theorem QT:q0J (YD .LtE) (Eb (λi j=>decide (i<=j)) λi j=>!decide (j<i)):=Ct SH λFR s σ H x y v u Q I rx ry h=>by let⟨i,j,rfl,rfl,q⟩:=h;let⟨t,rfl⟩:=rx;let⟨t',rfl⟩:=ry;show PySem.P.le_str (zN I q rfl)
end
variable{ta:TE}
section
variable{a b:t_}{t t' tb:TE}
theorem PC{x:V}{Q:Bool->Prop}(h:match x with|.bl c=>Q c|_=>False):∃c,x=.bl c/\Q c:=by cases x <;> first|exact⟨_,rfl,h⟩|exact h.elim
def Vb(ta tb:TE):TE:=λσ H Q=>ta σ H λx H1=>match x with
 |.bl c=>if c=true then tb σ H1 Q else Q (.bl false) H1
 |_=>False
def Vc(ta:TE):TE:=λσ H Q=>ta σ H λx H1=>match x with
 |.bl c=>Q (.bl (!c)) H1
 |_=>False
theorem NU{rest:ve t_}(ha:PE X a ta)(hb:PE X (.BoolOp .And (b::rest) pos) tb):PE X (.BoolOp .And (a::b::rest) pos) (Vb ta tb):=by
 intro FR s σ H Q I h;refine BoolOp_and (thn (q0N 0) λv s1 hz=>?_);let⟨x,H1,I1,r1,q1⟩:=hz;let⟨c,rfl,q1⟩:=PC q1;cases r1
 refine y0A ?_;cases c with
 |true=>exact hb FR s1 σ H1 Q I1 q1
 |false=>exact⟨.bl false,H1,I1,rfl,q1⟩
theorem NV(ha:PE X a ta):PE X (.UnaryOp .Not a pos) (Vc ta):=by
 intro FR s σ H Q I h;refine UnaryOp_ (thn (q0N 0) λv s1 hz=>?_);let⟨x,H1,I1,r1,q1⟩:=hz;let⟨c,rfl,q1⟩:=PC q1;cases r1
 show not_of (y0A ⟨.bl (!c),H1,I1,rfl,q1⟩)
theorem NX(hu:X.A.units+1<cLine):IxR X (λx y H Q=>∃p v,x=.ref p/\vQ H p y (a_ v)/\Q v H):=by
 intro value slice FR s σ H x y v u Q I rx ry h hs;let⟨p,w,rfl,g,q⟩:=h;cases rx
 let hT:=DR I g;unfold subscriptTail;refine XJ ?_;rw[getitemInPython_of_ne hT.not_modules];refine XJ (y1y hT PySem.F.slot_dict_getitem.lookup ?_);let fin:wpAny (fI X) X.A (subscripted slice false (.ref p) u) (λr s₃=>wpAny (fI X) X.A (letTemporaryGo value (.ref p) r >>= λ_=>pure r) (q0q Q) X.xe s₃) X.xe s:=by rw[hs];show wpAny_operating (Iu hu I g ry λw' s3 I3 cf=>XJ (wpAny_letTemporaryGo (XM ⟨w,H,I3,cf,q⟩)))
 first
  |exact XM (XJ fin)
  |exact XJ (XM (XJ fin))
  |exact XJ fin
def T8(K:XQ):R2:=λx y H Q=>match x with
 |.str z=>(match y with
  |.int i=>z.length<=X5/\∃c,atI z.cps.toList i=a_ c/\Q (.str ⟨#[c]⟩) H
  |_=>False)
 |.ref p=>(∃xs i v,y=.int i/\(q0S p xs\/q1b p xs)/\atI xs i=a_ v/\Q v H)\/∃v,vQ H p y (a_ v)/\Q v H
 |_=>False
theorem IxR.imp{r:R2}(h:IxR X r)(i:∀x y H Q,r' x y H Q->r x y H Q):IxR X r':=λa b FR s σ H x y v u Q I rx ry q hs=>h a b FR s σ H x y v u Q I rx ry (i x y H Q q) hs
theorem ixC(hu:X.A.units+1<cLine)(K:XQ)(hK:X.K=K):IxR X (T8 K):=by
 subst hK;refine(Nx.or (QD.or (QE.or (NX hu)))).imp λx y H Q h=>?_;cases x with
 |str z=>
  cases y with
  |int i=>let⟨h1,c,h2,h3⟩:=h;show .inr (.inr (.inl ⟨z,i,c,rfl,rfl,h1,h2,h3⟩))
  |_=>exact h.elim
 |ref p=>
  rcases h with⟨xs,i,v,rfl,hs|hs,ha,hq⟩|⟨v,g,hq⟩
  ·show .inl ⟨p,xs,i,v,rfl,rfl,hs,ha,hq⟩
  ·show .inr (.inl ⟨p,xs,i,v,rfl,rfl,hs,ha,hq⟩)
  ·show .inr (.inr (.inr ⟨p,v,rfl,g,hq⟩))
 |_=>exact h.elim
theorem QU(hu:X.A.units+1<cLine)(K:XQ)(hK:X.K=K):q0J (YD .In) (λx y H Q=>rIn K false x y H Q\/∃a o,y=.ref a/\vQ H a x o/\Q (.bl o.isSome) H):=by
 subst hK;refine Il.or λFR s σ H x y v u Q I rx ry h=>?_;let⟨a,o,rfl,g,q⟩:=h;cases ry
 show Va hu I g rx λs' I'=>⟨.bl o.isSome,H,I',rfl,q⟩
theorem IF(hu:X.A.units+1<cLine)(K:XQ)(hK:X.K=K):q0J (YD .NotIn) (λx y H Q=>rIn K true x y H Q\/∃a o,y=.ref a/\vQ H a x o/\Q (.bl (!o.isSome)) H):=by
 subst hK;refine Cg.or λFR s σ H x y v u Q I rx ry h=>?_;let⟨a,o,rfl,g,q⟩:=h;cases ry
 show Nz hu I g rx λs' I'=>⟨.bl (!o.isSome),H,I',rfl,q⟩
def T9(K:XQ):ve V->Hp->VK->Prop:=λxs H Q=>match xs with
 |[.str y]=>y.length<=X5/\Q (.int y.length) H
 |[.ref p]=>(∃xs,(q0S p xs\/q1b p xs)/\Q (.int xs.length) H)\/∃kvs,H p=a_ (.dK kvs)/\Q (.int kvs.length) H
 |_=>False
theorem IG(K:XQ)(hK:X.K=K):dJ X (.builtin "len") (T9 K):=by
 subst hK;intro FR s σ H xs us Q I r h
 match xs,h with
 |[.str y],h=>exact JS FR s σ H _ us Q I r ⟨_,_,rfl,⟨h.1,rfl⟩,h.2⟩
 |[.ref p],h=>
  rcases h with⟨ys,hs,q⟩|⟨kvs,hs,q⟩
  ·show Ci FR s σ H _ us Q I r ⟨p,ys,rfl,hs,q⟩
  ·show Iw FR s σ H _ us Q I r ⟨p,kvs,rfl,hs,q⟩
theorem FW(K:XQ)(hK:X.K=K):dJ X (.type "list") (λxs H Q=>∃p ys,xs=[.ref p]/\(q0S p ys\/q1b p ys)/\∀l,H l=b_->Q (.ref l) (q0r l (.lst ys))):=by subst hK;show Cj
theorem Ec(K:XQ)(hK:X.K=K):dJ X (.type "tuple") (λxs H Q=>∃p ys,xs=[.ref p]/\((q0S p ys/\∀l,H l=b_->Q (.ref l) (q0r l (.tup ys)))\/(q1b p ys/\Q (.ref p) H))):=by subst hK;show B5
def Ta(ta:TA):TI:=λσ H R=>ta σ H λvs H1=>match vs with
 |[.int j]=>(-(2 ^ 62)<=j/\j<2 ^ 62)/\R (Itr 0 j.toNat) H1
 |_=>False
def Tb(ta:TA):TI:=λσ H R=>ta σ H λvs H1=>match vs with
 |[.int i,.int j]=>(-(2 ^ 62)<=i/\i<2 ^ 62/\-(2 ^ 62)<=j/\j<2 ^ 62)/\R (Itr i (j-i).toNat) H1
 |_=>False
theorem NY{vs:ve V}{Q:Int->Prop}(h:match vs with|[.int i]=>Q i|_=>False):∃i,vs=[.int i]/\Q i:=by
 split at h
 · show⟨_,rfl,h⟩
 · show h.elim
theorem pr1{x:t_}{ta:TA}{p:Pos}(hg:Gl X "range")(hm:X.mg "range" = b_)(ha:PA X [x] ta)(hs:Yr [x] X.env=[(false,eval x X.env)]:=by rfl):PI X tg (.Call (.Name "range" p) [x] [] pos) (Ta ta):=by intro FR s σ H R I h;refine Call_ (sH I hg hm boot_range (ZT (thn (q0P 0) λus s1 hz=>?_) hs rfl));let⟨vs,H1,I1,r1,q1⟩:=hz;let⟨j,rfl,⟨h1,h2⟩,q⟩:=NY q1;let⟨u,rfl,t,rfl⟩:=vals1 r1;show call_range_1 (DK I1 ⋯ ⋯ h1 h2 (i_ q))
theorem Ki{vs:ve V}{Q:Int->Int->Prop}(h:match vs with|[.int i,.int j]=>Q i j|_=>False):∃i j,vs=[.int i,.int j]/\Q i j:=by
 split at h
 ·show⟨_,_,rfl,h⟩
 ·show h.elim
theorem pr2{x y:t_}{ta:TA}{p:Pos}(hg:Gl X "range")(hm:X.mg "range" = b_)(ha:PA X [x,y] ta)(hs:Yr [x,y] X.env=[(false,eval x X.env),(false,eval y X.env)]:=by rfl)(dj:Yr [y] X.env=[(false,eval y X.env)]:=by rfl):
  PI X tg (.Call (.Name "range" p) [x,y] [] pos) (Tb ta):=by
 intro FR s σ H R I h;refine Call_ (sH I hg hm boot_range (ZT (thn (q0P 0) λus s1 hz=>?_) (by rw[hs,dj]) (by rw[dj];rfl)));let⟨vs,H1,I1,r1,q1⟩:=hz;let⟨i,j,e,⟨h1,h2,h3,h4⟩,q⟩:=Ki (Q:=λi j=>(-(2 ^ 62)<=i/\i<2 ^ 62/\-(2 ^ 62)<=j/\j<2 ^ 62)/\R (Itr i (j-i).toNat) H1) q1;subst e;let⟨u,w',rfl,⟨t,rfl⟩,⟨t',rfl⟩⟩:=vals2 r1;show call_range_2 (DK I1 h1 h2 h3 h4 q)
def Tc(t:TE):TO:=λσ H Q=>t σ H λx H1=>match x with
 |.int i=>Q (a_ i) H1
 |_=>False
theorem Kj{x:t_}(h:PE X x te):PO X (a_ x) (Tc te):=by
 intro FR s σ H Q I hw;rw[evalPart_some];refine thn (q0t _ I hw) λu s1 hz=>?_;let⟨x,H1,I1,r1,q1⟩:=hz;cases x with
 |int i=>let⟨t,rfl⟩:=r1;show⟨a_ i,H1,I1,.int i t,q1⟩
 |_=>exact q1.elim
end
structure Def(K:XQ)(mg:ke 0)(x:Str)(st:u_)(f:o_)(fd:YK)(ps:ve Str):Prop where
 fn:Fun K x x st f fd
 mg:mg x=cu f
 bd:Binds K fd ps []
theorem Td{st:u_}{f:o_}{k:Nat}{t:TA}{p:Pos}(D:Def X.K X.mg x st f fd ps)(G:T_ CX0 k f fd ps sp)(hr:iL k X.A)(ha:PA X (e::es) t)(hg:Gl X x:=by rfl)(c8:(x == ("__debug__" : Str))=false:=by decide)(he:Yr (e::es) X.env=(false,q0j 0)::q0i 0:=by rfl)(bz:(q0Q (q0i 0)).any (·.1)=false:=by rfl):
  PE X (.Call (.Name x p) (e::es) [] pos) (Pu sp [] E0 t):=Nt G hr hg D.mg D.fn.kp D.bd .nil GZ ha c8 he bz
theorem vW{α:Type}{xs:ve α}{v:α}(h:xs[i]?=a_ v):atI xs (i:Int)=a_ v:=by let h1:=(XN.mp h).1;unfold atI ixN;rw[if_pos ⋯,if_pos ⋯];simpa using h
variable{o:HO}
theorem zT.upd(h:H a=b_):zT H (q0r a o):=λb u e=>by rw[aS (eU e h)];show e
theorem Def.mk'{h:r_}{st:u_}{f:o_}{oc:n_}{kV:n_}(X:K.In h)(G:h.Ns Zt mg)(a:y2a K Zt x=a_ (cu f))(l:K.lookup f=a_ ⟨oc,od,.func (ZX x x (hZ st) (fL st) (aL st) .none kV doc pm an cdv ct),osl⟩)(c:y1Q K cdv x=true)(k:ZH K (.ref f)=true)(b:∀(kV doc pm:n_)(an:v_ o_)(cdv ct:n_)(us:ve n_),us.length=ps.length->bindArgs (ZX x x (hZ st) (fL st) (aL st) .none kV doc pm an cdv ct) ⟨us,[]⟩=pure (ps.zip us)):
  q1o x st f (ZX x x (hZ st) (fL st) (aL st) .none kV doc pm an cdv ct) ps:=
 ⟨zS l c k,PySem.W.mg_of X G a,(zS (st:=st) l c k).binds b⟩
open PySem.SeqAt
inductive D where
 |non|bl (b:Bool)|int (i:Int)|str (x:Str)|tup (xs:ve D)
mutual
def D.depth:D->Nat
 |.tup xs=>D.depths xs+1
 |_=>0
def D.depths:ve D->Nat
 |[]=>0
 |x::xs=>max (D.depth x) (D.depths xs)
end
theorem D.depths_le:∀{xs:ve D}{i:Nat}{d:D},xs[i]?=a_ d->d.depth<=D.depths xs
 |[],_,_,h=>by simp at h
 |x::xs,0,d,h=>by
  have:x=d:=by simpa using h
  subst this
  change x.depth<=max x.depth (D.depths xs)
  omega
 |x::xs,i+1,d,h=>by
  have:=D.depths_le (xs:=xs) (i:=i) (d:=d) (i_ h)
  change d.depth<=max x.depth (D.depths xs)
  omega
mutual
def Rep(K:XQ)(H:Hp):D->V->Prop
 |.non,v=>v=.non
 |.bl b,v=>v=.bl b
 |.int i,v=>v=.int i
 |.str x,v=>v=.str x
 |.tup ds,v=>∃a vs,v=.ref a/\q1b a vs/\iP K H ds vs
def iP(K:XQ)(H:Hp):ve D->ve V->Prop
 |[],[]=>True
 |d::ds,v::vs=>Rep K H d v/\iP K H ds vs
 |[],_::_=>False
 |_::_,[]=>False
end
mutual
def eqD:D->D->Bool
 |.non,.non=>true
 |.bl a,.bl b=>a == b
 |.bl a,.int b=>(if a then 1 else 0) == b
 |.int a,.bl b=>a == (if b then 1 else 0)
 |.int a,.int b=>a == b
 |.str a,.str b=>a == b
 |.tup xs,.tup ys=>iQ xs ys
 |_,_=>false
def iQ:ve D->ve D->Bool
 |[],[]=>true
 |x::xs,y::ys=>eqD x y&&iQ xs ys
 |[],_::_=>false
 |_::_,[]=>false
end
mutual
def ltD:D->D->v_ Bool
 |.int a,.int b=>a_ (decide (a<b))
 |.str a,.str b=>a_ (decide (a.cps.toList<b.cps.toList))
 |.tup xs,.tup ys=>sL xs ys
 |_,_=>b_
def sL:ve D->ve D->v_ Bool
 |[],[]=>a_ false
 |[],_::_=>a_ true
 |_::_,[]=>a_ false
 |x::xs,y::ys=>if eqD x y=true then sL xs ys else ltD x y
end
mutual
theorem nL:∀d:D,eqD d d=true
 |.non=>rfl
 |.bl b=>by simp[eqD]
 |.int i=>by simp[eqD]
 |.str x=>by simp[eqD]
 |.tup xs=>by simp only[eqD];show BL xs
theorem BL:∀ds:ve D,iQ ds ds=true
 |[]=>rfl
 |d::ds=>by simp only[iQ,nL d,BL ds,Bool.and_self]
end
def oI(H H':Hp):Prop:=∀a xs,Rd H a (.tup xs)->Rd H' a (.tup xs)
theorem oI.refl(H:Hp):oI H H:=λ_ _ h=>h
variable{H1 H2:Hp}
theorem oI.trans(a:oI H H1)(b:oI H1 H2):oI H H2:=λc xs h=>b c xs (a c xs h)
theorem oI.same(s:zT H H'):oI H H':=λa xs h=>by
 rcases h with h|⟨o,h⟩
 ·show .inl (s _ _ h)
 ·show .inr ⟨o,s _ _ h⟩
def Ed:v_ HO->Prop
 |some (.tup _)=>False
 |some (.frz _ _)=>False
 |_=>True
theorem oI.upd{p:o_}(h:Ed (H p)):oI H (q0r p o):=λa xs q=>by
 let ne:a≠p:=by
  rintro rfl;rcases q with q|⟨ob,q⟩
  ·rw[q]at h;show h
  ·rw[q]at h;show h
 rcases q with q|⟨ob,q⟩
 ·show .inl (by rw[aS ne];show q)
 ·show .inr ⟨ob,by rw[aS ne];show q⟩
theorem oI.sq{xs:ve V}(t:oI H H')(h:q1b a xs):SqT K H' a xs:=by
 rcases h with h|h
 ·show .inl (t a xs h)
 ·show .inr h
mutual
theorem Rep.tp(t:oI H H'):∀{d:D}{v:V},Rep K H d v->Rep K H' d v
 |.non,_,h=>h
 |.bl _,_,h=>h
 |.int _,_,h=>h
 |.str _,_,h=>h
 |.tup ds,_,⟨a,vs,e,q,r⟩=>⟨a,vs,e,t.sq q,iP.tp t r⟩
theorem iP.tp(t:oI H H'):∀{ds:ve D}{vs:ve V},iP K H ds vs->iP K H' ds vs
 |[],[],_=>trivial
 |_::_,_::_,⟨h,r⟩=>⟨Rep.tp t h,iP.tp t r⟩
 |[],_::_,h=>h.elim
 |_::_,[],h=>h.elim
end
theorem iP.length:∀{ds:ve D}{vs:ve V},iP K H ds vs->ds.length=vs.length
 |[],[],_=>rfl
 |_::_,_::_,⟨_,r⟩=>by simp[iP.length r]
 |[],_::_,h=>h.elim
 |_::_,[],h=>h.elim
theorem iP.get:∀{ds:ve D}{vs:ve V}{i:Nat}{v:V},iP K H ds vs->vs[i]?=a_ v->∃d,ds[i]?=a_ d/\Rep K H d v
 |[],[],_,_,_,e=>by simp at e
 |d::_,w::_,0,v,⟨h,_⟩,e=>by
  have:w=v:=by simpa using e
  subst this;show⟨d,rfl,h⟩
 |_::ds,_::vs,i+1,v,⟨_,r⟩,e=>by
  let⟨d,h1,h2⟩:=iP.get (ds:=ds) (vs:=vs) (i:=i) (v:=v) r (i_ e);show⟨d,i_ h1,h2⟩
 |[],_::_,_,_,h,_=>h.elim
 |_::_,[],_,_,h,_=>h.elim
theorem iP.at:∀{ds:ve D}{vs:ve V}{i:Nat}{d:D},iP K H ds vs->ds[i]?=a_ d->∃v,vs[i]?=a_ v/\Rep K H d v
 |[],[],_,_,_,e=>by simp at e
 |d::_,w::_,0,d',⟨h,_⟩,e=>by
  have:d=d':=by simpa using e
  subst this;show⟨w,rfl,h⟩
 |_::ds,_::vs,i+1,d,⟨_,r⟩,e=>by
  let⟨v,h1,h2⟩:=iP.at (ds:=ds) (vs:=vs) (i:=i) (d:=d) r (i_ e);show⟨v,i_ h1,h2⟩
 |[],_::_,_,_,h,_=>h.elim
 |_::_,[],_,_,h,_=>h.elim
variable{b:Bool}{its its':ve n_}
section
variable{σ:St}
theorem iR(h:RcAt A s v u b)(hs:v=u->b=true)(hf:∀f t,v≠.float f t):EqAt A s v u b:=λprog w E Q hq=>by
 unfold eqBool;refine YZ ?_;refine wpAny_ite_split (λXq=>?_) (λ_=>?_)
 ·let e:=hs (eq_of_beq Xq);subst e;show XJ (y0f (XM hq))
 ·cases v <;> first|exact absurd rfl (hf _ _)|exact XJ (h prog w E _ (y0A hq))|(cases u <;> exact XJ (h prog w E _ (y0A hq)))
theorem BM{d:D}{x:V}(h:Rep K H d x)(r:q1f v):∀f t,v≠.float f t:=λf t e=>by
 subst e;cases d with
 |non=>cases h;cases r
 |bl b=>cases h;cases r
 |int b=>cases h;let⟨_,z⟩:=r;cases z
 |str b=>cases h;let⟨_,z⟩:=r;cases z
 |tup ds=>let⟨_,_,rfl,_⟩:=h;cases r
theorem rD(I:P_ s):∀(n:Nat)(d e:D)(v:V),d.depth<=n->Rep X.K H d v->Rep X.K H e v->d=e
 |n,.non,e,v,_,h,h'=>by
  cases h
  cases e <;> first|(let⟨_,_,z,_⟩:=h';show absurd z (by intro q;cases q))|rfl|exact absurd h' (by intro z;cases z)
 |n,.bl b,e,v,_,h,h'=>by
  cases h
  cases e <;> first|(let⟨_,_,z,_⟩:=h';show absurd z (by intro q;cases q))|(cases h';rfl)|exact absurd h' (by intro z;cases z)
 |n,.int i,e,v,_,h,h'=>by
  cases h
  cases e <;> first|(let⟨_,_,z,_⟩:=h';show absurd z (by intro q;cases q))|(cases h';rfl)|exact absurd h' (by intro z;cases z)
 |n,.str x,e,v,_,h,h'=>by
  cases h
  cases e <;> first|(let⟨_,_,z,_⟩:=h';show absurd z (by intro q;cases q))|(cases h';rfl)|exact absurd h' (by intro z;cases z)
 |0,.tup ds,e,v,hd,h,h'=>absurd hd (by change ¬ R_ 0+1<=0;omega)
 |n+1,.tup ds,e,v,hd,h,h'=>by
  let⟨a,vs,rfl,q,r⟩:=h;cases e with
  |tup es=>
   let⟨a',i3,ea,q',r'⟩:=h';cases ea
   have:=I.tuple_inj q q';subst this;let cj:R_ 0+1<=n+1:=hd;have:ds=es:=by
    apply Zi;intro i;cases hi:ds[i]? with
    |none=>have h1:=r.length;let h2:=r'.length;have:ds.length<=i:=Y6.mp hi;show(Y6.mpr ⋯).symm
    |some d=>let⟨v,hv,hr⟩:=r.at hi;let⟨e,he,Wy⟩:=r'.get hv;rw[he,rD I n d e v (by have:=D.depths_le hi;omega) hr Wy]
   rw[this]
  |_=>cases h'
theorem tY{xs ys:ve D}:((YN (min xs.length ys.length)).all (λj=>match xs[j]?,ys[j]? with|some x,a_ y=>eqD x y|_,_=>false)&&xs.length == ys.length)=iQ xs ys:=by
 induction xs generalizing ys with
 |nil=>
  cases ys with
  |nil=>rfl
  |cons y ys=>simp[iQ]
 |cons x xs ih=>
  cases ys with
  |nil=>simp[iQ]
  |cons y ys=>
   have:=ih (ys:=ys);let e:min (x::xs).length (y::ys).length=min xs.length ys.length+1:=by simp only[YM];omega
   rw[e,List.range_succ_eq_map,y0r,y16];simp only[List.getElem?_cons_zero,Function.comp_def,Y4,YM,iQ];rw[<-this];let e2:(xs.length+1 == ys.length+1)=(xs.length == ys.length):=by simp
   rw[e2,Bool.and_assoc]
theorem Te(I:P_ s):∀(n:Nat)(d e:D)(A:q_)(x y:V)(v u:n_),d.depth<=n->A.units+n<cLine->Rep X.K H d x->Rep X.K H e y->q1f v->RelV y u->RcAt A s v u (eqD d e):=by
 intro n
 induction n with
 |zero=>
  intro d e A x y v u hd hu hx hy rx ry;cases d with
  |tup ds=>exact absurd hd (by change ¬ R_ 0+1<=0;omega)
  |non=>
   cases hx;cases rx;cases e with
   |non=>cases hy;cases ry;show RcAt.none_none
   |bl b=>cases hy;cases ry;show RcAt.none_bool b
   |int b=>cases hy;let⟨t,rfl⟩:=ry;show RcAt.none_int b t
   |str b=>cases hy;let⟨t,rfl⟩:=ry;show RcAt.none_str b t
   |tup es=>let⟨a,vs,rfl,q,r⟩:=hy;cases ry;let⟨its,_,p,_⟩:=I.tuple q;show RcAt.none_tuple p ⋯
  |bl a=>
   cases hx;cases rx;cases e with
   |non=>cases hy;cases ry;show RcAt.bool_none a
   |bl b=>cases hy;cases ry;show RcAt.bool_bool a b
   |int b=>cases hy;let⟨t,rfl⟩:=ry;show RcAt.bool_int a b t
   |str b=>cases hy;let⟨t,rfl⟩:=ry;show RcAt.bool_str a b t
   |tup es=>let⟨a',vs,rfl,q,r⟩:=hy;cases ry;let⟨its,_,p,_⟩:=I.tuple q;show RcAt.bool_tuple a p ⋯
  |int a=>
   cases hx;let⟨t',rfl⟩:=rx;cases e with
   |non=>cases hy;cases ry;show RcAt.int_none a t'
   |bl b=>cases hy;cases ry;show RcAt.int_bool a t' b
   |int b=>cases hy;let⟨t,rfl⟩:=ry;show RcAt.int_int a t' b t
   |str b=>cases hy;let⟨t,rfl⟩:=ry;show RcAt.int_str a t' b t
   |tup es=>let⟨a',vs,rfl,q,r⟩:=hy;cases ry;let⟨its,_,p,_⟩:=I.tuple q;show RcAt.int_tuple a t' p ⋯
  |str a=>
   cases hx;let⟨t',rfl⟩:=rx;cases e with
   |non=>cases hy;cases ry;show RcAt.str_none a t'
   |bl b=>cases hy;cases ry;show RcAt.str_bool a t' b
   |int b=>cases hy;let⟨t,rfl⟩:=ry;show RcAt.str_int a t' b t
   |str b=>cases hy;let⟨t,rfl⟩:=ry;show RcAt.str_str a t' b t
   |tup es=>let⟨a',vs,rfl,q,r⟩:=hy;cases ry;let⟨its,_,p,_⟩:=I.tuple q;show RcAt.str_tuple a t' p ⋯
 |succ n ih=>
  intro d e A x y v u hd hu hx hy rx ry;by_cases h0:d.depth<=n
  ·show ih d e A x y v u h0 ⋯ hx hy rx ry
  ·cases d with
   |non=>exact absurd (show D.depth .non<=n from YE n) h0
   |bl b=>exact absurd (show D.depth (.bl b)<=n from YE n) h0
   |int b=>exact absurd (show D.depth (.int b)<=n from YE n) h0
   |str b=>exact absurd (show D.depth (.str b)<=n from YE n) h0
   |tup ds=>
    let ju:R_ 0<=n:=by have:R_ 0+1<=n+1:=hd;omega
    let⟨a,vs,rfl,q,r⟩:=hx;cases rx
    let⟨its,rv,p,_⟩:=I.tuple q;cases e with
    |non=>cases hy;cases ry;show RcAt.tuple_none p ⋯
    |bl b=>cases hy;cases ry;show RcAt.tuple_bool b p ⋯
    |int b=>cases hy;let⟨t,rfl⟩:=ry;show RcAt.tuple_int b t p ⋯
    |str b=>cases hy;let⟨t,rfl⟩:=ry;show RcAt.tuple_str b t p ⋯
    |tup es=>
     let⟨a',i3,rfl,q',r'⟩:=hy;cases ry
     let⟨its',aw,p',_⟩:=I.tuple q';let l1:=r.length;let l2:=r'.length;let l3:=rv.length;let l4:=aw.length;let key:=RcAt.tuples (A:=A) (e:=λj=>match ds[j]?,es[j]? with|some x,a_ y=>eqD x y|_,_=>false) p p' ⋯ (λj h1 h2=>by
      let ie:j<ds.length:=by simp at h1;omega
      let cy:j<es.length:=by simp at h2;omega
      let g1:ds[j]?=a_ ds[j]:=by simp[ie]
      let g2:es[j]?=a_ es[j]:=by simp[cy]
      let⟨xv,ko,ij⟩:=r.at g1;let⟨yv,j7,iz⟩:=r'.at g2;let⟨xu,jc,cw⟩:=rv.get ko;let⟨yu,jf,ba⟩:=aw.get j7;let e1:its.toArray[j]=xu:=by have:its[j]?=a_ xu:=jc;simpa using(XN.mp this).2
      let e2:its'.toArray[j]=yu:=by have:its'[j]?=a_ yu:=jf;simpa using(XN.mp this).2
      rw[e1,e2];simp only[g1,g2];let ug:=D.depths_le g1;refine iR (ih ds[j] es[j] A.in1 xv yv xu yu ⋯ (by change A.units+1+n<cLine;omega) ij iz cw ba) (λev=>by
      subst ev;let u1:xv=yv:=RelV.inj cw ba;subst u1;rw[rD I n ds[j] es[j] xv ⋯ ij iz];show nL _) (BM ij cw))
     let sz:((YN (min its.toArray.size its'.toArray.size)).all (λj=>match ds[j]?,es[j]? with|some x,a_ y=>eqD x y|_,_=>false)&&its.toArray.size == its'.toArray.size)=eqD (.tup ds) (.tup es):=by
      let a1:its.toArray.size=ds.length:=by simp;omega
      let a2:its'.toArray.size=es.length:=by simp;omega
      rw[a1,a2];simp only[eqD];show tY
     rw[<-sz];show key
theorem Kk(I:P_ s){d e:D}{x y:V}(hd:d.depth<=n)(hu:A.units+n<cLine)(hx:Rep X.K H d x)(hy:Rep X.K H e y)(rx:q1f v)(ry:RelV y u):EqAt A s v u (eqD d e):=iR (Te I n d e A x y v u hd hu hx hy rx ry) (λev=>by subst ev;let u1:x=y:=RelV.inj rx ry;subst u1;rw[rD I n d e x hd hx hy];show nL _) (BM hx rx)
theorem QV(I:P_ s):∀(n:Nat)(d e:D)(A:q_)(x y:V)(v u:n_),d.depth<=n->A.units+n<cLine->Rep X.K H d x->Rep X.K H e y->q1f v->RelV y u->RcNeAt A s v u (!eqD d e):=by
 intro n
 induction n with
 |zero=>
  intro d e A x y v u hd hu hx hy rx ry;cases d with
  |tup ds=>exact absurd hd (by change ¬ R_ 0+1<=0;omega)
  |non=>
   cases hx;cases rx;cases e with
   |non=>cases hy;cases ry;show RcNeAt.none_none
   |bl b=>cases hy;cases ry;show RcNeAt.none_bool b
   |int b=>cases hy;let⟨t,rfl⟩:=ry;show RcNeAt.none_int b t
   |str b=>cases hy;let⟨t,rfl⟩:=ry;show RcNeAt.none_str b t
   |tup es=>let⟨a,vs,rfl,q,r⟩:=hy;cases ry;let⟨its,_,p,_⟩:=I.tuple q;show RcNeAt.none_tuple p ⋯
  |bl a=>
   cases hx;cases rx;cases e with
   |non=>cases hy;cases ry;show RcNeAt.bool_none a
   |bl b=>cases hy;cases ry;show RcNeAt.bool_bool a b
   |int b=>cases hy;let⟨t,rfl⟩:=ry;show RcNeAt.bool_int a b t
   |str b=>cases hy;let⟨t,rfl⟩:=ry;show RcNeAt.bool_str a b t
   |tup es=>let⟨a',vs,rfl,q,r⟩:=hy;cases ry;let⟨its,_,p,_⟩:=I.tuple q;show RcNeAt.bool_tuple a p ⋯
  |int a=>
   cases hx;let⟨t',rfl⟩:=rx;cases e with
   |non=>cases hy;cases ry;show RcNeAt.int_none a t'
   |bl b=>cases hy;cases ry;show RcNeAt.int_bool a t' b
   |int b=>cases hy;let⟨t,rfl⟩:=ry;show RcNeAt.int_int a t' b t
   |str b=>cases hy;let⟨t,rfl⟩:=ry;show RcNeAt.int_str a t' b t
   |tup es=>let⟨a',vs,rfl,q,r⟩:=hy;cases ry;let⟨its,_,p,_⟩:=I.tuple q;show RcNeAt.int_tuple a t' p ⋯
  |str a=>
   cases hx;let⟨t',rfl⟩:=rx;cases e with
   |non=>cases hy;cases ry;show RcNeAt.str_none a t'
   |bl b=>cases hy;cases ry;show RcNeAt.str_bool a t' b
   |int b=>cases hy;let⟨t,rfl⟩:=ry;show RcNeAt.str_int a t' b t
   |str b=>cases hy;let⟨t,rfl⟩:=ry;show RcNeAt.str_str a t' b t
   |tup es=>let⟨a',vs,rfl,q,r⟩:=hy;cases ry;let⟨its,_,p,_⟩:=I.tuple q;show RcNeAt.str_tuple a t' p ⋯
 |succ n ih=>
  intro d e A x y v u hd hu hx hy rx ry;by_cases h0:d.depth<=n
  ·show ih d e A x y v u h0 ⋯ hx hy rx ry
  ·cases d with
   |non=>exact absurd (show D.depth .non<=n from YE n) h0
   |bl b=>exact absurd (show D.depth (.bl b)<=n from YE n) h0
   |int b=>exact absurd (show D.depth (.int b)<=n from YE n) h0
   |str b=>exact absurd (show D.depth (.str b)<=n from YE n) h0
   |tup ds=>
    let ju:R_ 0<=n:=by have:R_ 0+1<=n+1:=hd;omega
    let⟨a,vs,rfl,q,r⟩:=hx;cases rx
    let⟨its,rv,p,_⟩:=I.tuple q;cases e with
    |non=>cases hy;cases ry;show RcNeAt.tuple_none p ⋯
    |bl b=>cases hy;cases ry;show RcNeAt.tuple_bool b p ⋯
    |int b=>cases hy;let⟨t,rfl⟩:=ry;show RcNeAt.tuple_int b t p ⋯
    |str b=>cases hy;let⟨t,rfl⟩:=ry;show RcNeAt.tuple_str b t p ⋯
    |tup es=>
     let⟨a',i3,rfl,q',r'⟩:=hy;cases ry
     let⟨its',aw,p',_⟩:=I.tuple q';let l1:=r.length;let l2:=r'.length;let l3:=rv.length;let l4:=aw.length;let key:=RcNeAt.tuples (A:=A) (e:=λj=>match ds[j]?,es[j]? with|some x,a_ y=>eqD x y|_,_=>false) p p' ⋯ (λj h1 h2=>by
      let ie:j<ds.length:=by simp at h1;omega
      let cy:j<es.length:=by simp at h2;omega
      let g1:ds[j]?=a_ ds[j]:=by simp[ie]
      let g2:es[j]?=a_ es[j]:=by simp[cy]
      let⟨xv,ko,ij⟩:=r.at g1;let⟨yv,j7,iz⟩:=r'.at g2;let⟨xu,jc,cw⟩:=rv.get ko;let⟨yu,jf,ba⟩:=aw.get j7;let e1:its.toArray[j]=xu:=by have:its[j]?=a_ xu:=jc;simpa using(XN.mp this).2
      let e2:its'.toArray[j]=yu:=by have:its'[j]?=a_ yu:=jf;simpa using(XN.mp this).2
      rw[e1,e2];simp only[g1,g2];let ug:=D.depths_le g1;show Kk I (n:=n) ⋯ (by change A.units+1+n<cLine;omega) ij iz cw ba)
     let sz:(!((YN (min its.toArray.size its'.toArray.size)).all (λj=>match ds[j]?,es[j]? with|some x,a_ y=>eqD x y|_,_=>false)&&its.toArray.size == its'.toArray.size))=(!eqD (.tup ds) (.tup es)):=by
      let a1:its.toArray.size=ds.length:=by simp;omega
      let a2:its'.toArray.size=es.length:=by simp;omega
      rw[a1,a2];simp only[eqD];rw[tY]
     rw[<-sz];show key
def Vd(K:XQ):R2:=λx y H Q=>∃d e,Rep K H d x/\Rep K H e y/\d.depth<=40/\Q (.bl (eqD d e)) H
def Ve(K:XQ):R2:=λx y H Q=>∃d e,Rep K H d x/\Rep K H e y/\d.depth<=40/\Q (.bl (!eqD d e)) H
theorem QW(hu:X.A.units+64<cLine)(K:XQ)(hK:X.K=K):q0J (YD .Eq) (Vd K):=by subst hK;intro FR s σ H x y v u Q I rx ry h;let⟨d,e,hx,hy,hd,q⟩:=h;show Te I 40 d e X.A x y v u hd ⋯ hx hy rx ry X.prog X.w X.xe _ ⟨.bl _,H,I,rfl,q⟩
theorem QX(hu:X.A.units+64<cLine)(K:XQ)(hK:X.K=K):q0J (YD .NotEq) (Ve K):=by subst hK;intro FR s σ H x y v u Q I rx ry h;let⟨d,e,hx,hy,hd,q⟩:=h;show QV I 40 d e X.A x y v u hd ⋯ hx hy rx ry X.prog X.w X.xe _ ⟨.bl _,H,I,rfl,q⟩
def Ee(K:XQ)(H:Hp)(ds:ve D)(v:V):Prop:=∃a vs,v=.ref a/\q0S a vs/\iP K H ds vs
theorem vX{xs ys:ve D}(h:xs.length=ys.length):(YN xs.length).all (λj=>match xs[j]?,ys[j]? with|some x,a_ y=>eqD x y|_,_=>false)=iQ xs ys:=by have:=tY (xs:=xs) (ys:=ys);rw[h,Nat.min_self,beq_self_eq_true,Bool.and_true]at this;rw[h];show this
theorem A4{xs ys:ve D}(h:iQ xs ys=true):xs.length=ys.length:=by rw[<-tY,YU]at h;show eq_of_beq h.2
theorem sM{I:P_ s}{ds es:ve D}{vs i3:ve V}(r:iP X.K H ds vs)(r':iP X.K H es i3)(rv:aW vs its)(aw:aW i3 its')(hd:R_ 0<=40)(hu:A.units+42<cLine):
  ∀j(h1:j<its.toArray.size)(h2:j<its'.toArray.size),EqAt A.in1 s its.toArray[j] its'.toArray[j] (match ds[j]?,es[j]? with|some x,a_ y=>eqD x y|_,_=>false):=λj h1 h2=>by
 let l1:=r.length;let l2:=r'.length;let l3:=rv.length;let l4:=aw.length;let ie:j<ds.length:=by simp at h1;omega
 let cy:j<es.length:=by simp at h2;omega
 let g1:ds[j]?=a_ ds[j]:=by simp[ie]
 let g2:es[j]?=a_ es[j]:=by simp[cy]
 let⟨xv,ko,ij⟩:=r.at g1;let⟨yv,j7,iz⟩:=r'.at g2;let⟨xu,jc,cw⟩:=rv.get ko;let⟨yu,jf,ba⟩:=aw.get j7;let e1:its.toArray[j]=xu:=by simpa using(XN.mp jc).2
 let e2:its'.toArray[j]=yu:=by simpa using(XN.mp jf).2
 rw[e1,e2];simp only[g1,g2];let ug:=D.depths_le g1;show Kk I (n:=40) ⋯ (by change A.units+1+40<cLine;omega) ij iz cw ba
def Vf(K:XQ):R2:=λx y H Q=>∃ds es,Ee K H ds x/\Ee K H es y/\R_ 0<=40/\Q (.bl (iQ ds es)) H
def Vg(K:XQ):R2:=λx y H Q=>∃ds es,Ee K H ds x/\Ee K H es y/\R_ 0<=40/\Q (.bl (!iQ ds es)) H
theorem QY(hu:X.A.units+64<cLine)(K:XQ)(hK:X.K=K):q0J (YD .Eq) (Vf K):=by
 subst hK;intro FR s σ H x y v u Q I rx ry h;let⟨ds,es,⟨a,vs,rfl,q,r⟩,⟨b,i3,rfl,q',r'⟩,hd,k⟩:=h;cases rx;cases ry;let⟨its,rv,p,_⟩:=I.list q;let⟨its',aw,p',_⟩:=I.list q';let l1:=r.length;let l2:=r'.length;let l3:=rv.length;let l4:=aw.length;by_cases hl:ds.length=es.length
 ·refine eq_listAt p.isList p'.isList (by simp;omega) ⋯ (sM (I:=I) r r' rv aw hd ⋯) ⟨.bl _,H,I,rfl,?_⟩;let e1:its.toArray.size=ds.length:=by simp;omega
  rw[e1,vX hl];show k
 ·refine eq_list_lengthsAt p.isList p'.isList (by simp;omega) ⋯ ⟨.bl false,H,I,rfl,?_⟩;let e:iQ ds es=false:=by
   cases h:iQ ds es with
   |false=>rfl
   |true=>exact absurd (A4 h) hl
  rw[e]at k;show k
theorem QZ(hu:X.A.units+64<cLine)(K:XQ)(hK:X.K=K):q0J (YD .NotEq) (Vg K):=by
 subst hK;intro FR s σ H x y v u Q I rx ry h;let⟨ds,es,⟨a,vs,rfl,q,r⟩,⟨b,i3,rfl,q',r'⟩,hd,k⟩:=h;cases rx;cases ry;let⟨its,rv,p,_⟩:=I.list q;let⟨its',aw,p',_⟩:=I.list q';let l1:=r.length;let l2:=r'.length;let l3:=rv.length;let l4:=aw.length;by_cases hl:ds.length=es.length
 ·refine RcNeAt.lists p.isList p'.isList (by simp;omega) ⋯ (sM (I:=I) r r' rv aw hd ⋯) X.prog X.w X.xe _ ⟨.bl _,H,I,rfl,?_⟩;let e1:its.toArray.size=ds.length:=by simp;omega
  rw[e1,vX hl];show k
 ·refine RcNeAt.lists_lengths p.isList p'.isList (by simp;omega) ⋯ X.prog X.w X.xe _ ⟨.bl true,H,I,rfl,?_⟩;let e:iQ ds es=false:=by
   cases h:iQ ds es with
   |false=>rfl
   |true=>exact absurd (A4 h) hl
  rw[e]at k;show k
def Tf(K:XQ)(neg:Bool):R2:=λx y H Q=>∃d p ds vs,y=.ref p/\(q0S p vs\/q1b p vs)/\Rep K H d x/\iP K H ds vs/\R_ 0<=40/\Q (.bl (if neg then !ds.any (λe=>eqD e d) else ds.any (λe=>eqD e d))) H
noncomputable def isD(K:XQ)(H:Hp)(d:D)(u:n_):Bool:=@decide (∃e x,q1f u/\Rep K H e x/\e.depth<=40/\eqD e d=true) (ZV _)
theorem Kl(I:P_ s){d e:D}{x:V}(r:q1f u)(h:Rep X.K H e x)(hd:e.depth<=40):q1r d u=eqD e d:=by
 unfold isD;cases q:eqD e d with
 |true=>exact @decide_eq_true _ (ZV _) ⟨e,x,r,h,hd,q⟩
 |false=>refine @decide_eq_false _ (ZV _) ?_;rintro⟨e',x',r',h',cj,q'⟩;let ex:x'=x:=RelV.inj r' r;subst ex;rw[rD I 40 e' e x' cj h' h]at q';rw[q]at q';cases q'
theorem tZ(I:P_ s){d:D}:∀{ds:ve D}{vs:ve V}{us:ve n_},iP X.K H ds vs->aW vs us->R_ 0<=40->us.any (q1r d)=ds.any λe=>eqD e d
 |[],[],_,_,.nil,_=>rfl
 |e::ds,_::_,_,⟨h,r⟩,.cons rv gq,hd=>by
  let h1:e.depth<=40/\R_ 0<=40:=by have:max e.depth (R_ 0)<=40:=hd;omega
  rw[y1d,y1d,Kl I rv h h1.1,tZ I r gq h1.2]
 |[],_::_,_,h,_,_=>h.elim
 |_::_,[],_,h,_,_=>h.elim
theorem uA(I:P_ s){A:q_}{d:D}{x:V}{v:n_}(hx:Rep X.K H d x)(rx:q1f v)(hu:A.units+42<cLine):∀{ds:ve D}{vs:ve V}{us:ve n_},iP X.K H ds vs->aW vs us->R_ 0<=40->∀u∈us,EqAt A.in1 s u v (q1r d u)
 |[],[],_,_,.nil,_=>λu hu=>by cases hu
 |e::ds,_::_,_,⟨h,r⟩,.cons rv gq,hd=>λu hm=>by
  let h1:e.depth<=40/\R_ 0<=40:=by have:max e.depth (R_ 0)<=40:=hd;omega
  rcases Yf.mp hm with rfl|hm
  ·rw[Kl I rv h h1.1];show Kk I (n:=40) h1.1 (by change A.units+1+40<cLine;omega) h hx rv rx
  ·show uA I hx rx hu r gq h1.2 u hm
 |[],_::_,_,h,_,_=>h.elim
 |_::_,[],_,h,_,_=>h.elim
theorem R0(hu:X.A.units+64<cLine)(K:XQ)(hK:X.K=K):q0J (YD .In) (Tf K false):=by
 subst hK;intro FR s σ H x y v u Q I rx ry h;let⟨d,p,ds,vs,rfl,hq,hx,hr,hd,k⟩:=h;cases ry
 rcases hq with hq|hq
 ·let⟨its,r,pl,hz⟩:=I.list hq;refine SeqAt.in_listAt (q1r d) pl.isList (λw hw=>uA I hx rx ⋯ hr r hd w (i_ hw)) ⟨.bl _,H,I,rfl,?_⟩;rw[show its.toArray.any (q1r d)=its.any (q1r d) by simp,tZ I hr r hd];show k
 ·let⟨its,r,pl,hz⟩:=I.tuple hq;refine SeqAt.in_tupleAt (q1r d) pl (λw hw=>uA I hx rx ⋯ hr r hd w (i_ hw)) ⟨.bl _,H,I,rfl,?_⟩;rw[show its.toArray.any (q1r d)=its.any (q1r d) by simp,tZ I hr r hd];show k
theorem IH(hu:X.A.units+64<cLine)(K:XQ)(hK:X.K=K):q0J (YD .NotIn) (Tf K true):=by
 subst hK;intro FR s σ H x y v u Q I rx ry h;let⟨d,p,ds,vs,rfl,hq,hx,hr,hd,k⟩:=h;cases ry
 rcases hq with hq|hq
 ·let⟨its,r,pl,hz⟩:=I.list hq;refine SeqAt.notIn_listAt (q1r d) pl.isList (λw hw=>uA I hx rx ⋯ hr r hd w (i_ hw)) ⟨.bl _,H,I,rfl,?_⟩;rw[show its.toArray.any (q1r d)=its.any (q1r d) by simp,tZ I hr r hd];show k
 ·let⟨its,r,pl,hz⟩:=I.tuple hq;refine SeqAt.notIn_tupleAt (q1r d) pl (λw hw=>uA I hx rx ⋯ hr r hd w (i_ hw)) ⟨.bl _,H,I,rfl,?_⟩;rw[show its.toArray.any (q1r d)=its.any (q1r d) by simp,tZ I hr r hd];show k
end
open PySem
theorem NZ{a b:Str}(h:a.cps.toList=b.cps.toList):a=b:=by
 cases a;cases b
 congr;show y1Y.mp h
open PySem PySem.W PyProof.Rows
section
variable{lt:Nat->Nat->Bool}(tr:∀i j k,lt j i=false->lt k j=false->lt k i=false)(as:∀i j,lt i j=true->lt j i=false)
include tr as
end
open PySem.SeqAt PySem.W
section
variable(hn:0<n)
include hn
end
theorem yL{P:PySem.Fin->oa->Prop}(lt:Nat->Nat->Bool)(tr:∀i j k,i<vs.length->j<vs.length->k<vs.length->lt j i=false->lt k j=false->lt k i=false)(as:∀i j,i<vs.length->j<vs.length->lt i j=true->lt j i=false)(ho:q0C 0=a_ (seqObj "list" vs.toArray n))(h64:vs.length<1000000)(hk:∀s':oa,(∀b o,b≠a->I_ 0=a_ o->s'.heap.get? b=a_ o)->∀Q:g_ y0e,Q κ s'->x_ (keyKind' vs.toArray) Q E s')(ao:∀s':oa,(∀b o,b≠a->I_ 0=a_ o->s'.heap.get? b=a_ o)->∀i j,i<vs.length->j<vs.length->∀Q:g_ Bool,Q (lt i j) s'->x_ (keyLt' κ (q0u 0) (vs.getD j Yn)) Q (λ_ _=>False) s')(h:∀p:W_ 0,p.Perm (q1w 0)->p.Pairwise (λi j=>lt j i=false)->P (.done (.ret .none)) {s with heap:=sortedHeap s.heap a vs (p.map λi=>q0u 0).toArray}):
  x_ (Builtin.«list.sort» ⟨[.ref a],[]⟩) P E s:=by
 rw[list_sort_plain];let ha:a<(c_ s):=XZ ho;refine XJ (listItems_at ho rfl ?_);refine XJ (y0S ho rfl ?_ (by rw[X3,YL];omega) (YE _));obtain⟨e1,fv⟩:∃e1,(q0g (YO λ_=>#[])).get? a=a_ (seqObj "list" #[] e1):=⟨_,y1z ho (λ_=>#[])⟩;refine XJ (seqEpoch_at fv rfl ?_);refine XJ (wpAny_newTuple ?_ (by change vs.length<=_;rw[YL];omega));refine XJ (wpAny_newList ?_ (YE _));refine YZ ?_;let kn:(((q0g (YO λ_=>#[])).push (seqObj "tuple" vs.toArray 0)).push (seqObj "list" #[] 0)).get? a=a_ (seqObj "list" #[] e1):=by rw[y1K _ _ _ (by rw[size_push',y1Z];show Yj (Nat.lt_succ_of_lt ha)),y1K _ _ _ (by rw[y1Z];show Yj ha)];show fv
 let kept:∀b o,b≠a->I_ 0=a_ o->(((q0g (YO λ_=>#[])).push (seqObj "tuple" vs.toArray 0)).push (seqObj "list" #[] 0)).get? b=a_ o:=λb o hb e=>XO _ (XO _ ((Y8 s.heap (YO λ_=>#[]) (ZK hb)).trans e))
 change x_ _ P E {s with heap:=((q0g (YO λ_=>#[])).push (seqObj "tuple" vs.toArray 0)).push (seqObj "list" #[] 0)}
 dsimp only;let hsz:vs.toArray.size=vs.length:=by simp
 by_cases h2:vs.toArray.size<2
 ·rw[if_pos h2,if_pos h2];refine XJ (XM ?_);rw[StateT.run_pure];refine XJ (XM ?_);dsimp only;refine XJ (seqEpoch_at kn rfl ?_);refine XJ (y0S kn rfl ?_ (YE _) (hsz2:=by rw[Array.size_map];change(pairsOf vs).size<=_;rw[pairsOf_size,YL];omega));simp only[bne_self_eq_false,YG,if_false];let e:(vs.toArray.zip vs.toArray).map (·.2)=((q1w 0).map λi=>q0u 0).toArray:=by
   apply y1Y.mp;apply Zi;intro i;by_cases hi:i<vs.length
   ·simp[hi]
   ·simp[hi]
  let key:=h (q1w 0) (Zd _) (by rw[Yq];intro i j hi hj i8;simp only[y06]at hi hj;omega);rw[<-e]at key;show XM key
 ·rw[if_neg h2,if_neg h2];let cy:2<=vs.length:=⋯;refine XJ (hk _ kept _ ?_);refine XJ (ZG (E9 (ks:=vs) (vs:=vs) (E:=E) (κ:=κ) rfl lt tr as (λi j hi hj Q hQ=>ao _ kept i j hi hj Q hQ)) ?_ λ_ _ e=>e);rintro⟨⟨⟩,aa⟩ s' ⟨rfl,p,c1,c2,fi,hf⟩;dsimp only;refine XJ (seqEpoch_at kn rfl ?_);refine XJ (y0S kn rfl ?_ (YE _) (hsz2:=by
   have:(Array.map (λx=>x.snd) (arrOf aa)).size<=X5:=by rw[fi,X3,XR,c1.length_eq,y06,YL];omega
   first|exact this|exact Nat.le_succ_of_le this))
  rw[hf];simp only[bne_self_eq_false,YG,if_false];let key:=h _ c1 c2;rw[<-fi]at key;show XM key
def kD:Key->D
 |.inl i=>.int i
 |.inr x=>.str x
def tD(ks:ve Key):D:=.tup (ks.map kD)
theorem vY{P:PySem.Fin->oa->Prop}(ho:q0C 0=a_ (seqObj "list" ([]:ve n_).toArray n))(h:P (.done (.ret .none)) {s with heap:=sortedHeap s.heap a [] #[]}):x_ (Builtin.«list.sort» ⟨[.ref a],[]⟩) P E s:=by
 rw[list_sort_plain];refine XJ (listItems_at ho rfl ?_);refine XJ (y0S ho rfl ?_ (YE _) (YE _));let ha:a<(c_ s):=XZ ho;obtain⟨e1,fv⟩:∃e1,(q0g (YO λ_=>#[])).get? a=a_ (seqObj "list" #[] e1):=⟨_,y1z ho (λ_=>#[])⟩;refine XJ (seqEpoch_at fv rfl ?_);refine XJ (wpAny_newTuple ?_ (YE _));refine XJ (wpAny_newList ?_ (YE _));refine YZ ?_;let kn:(((q0g (YO λ_=>#[])).push (seqObj "tuple" ([]:ve n_).toArray 0)).push (seqObj "list" #[] 0)).get? a=a_ (seqObj "list" #[] e1):=by rw[y1K _ _ _ (by rw[size_push',y1Z];show Yj (Nat.lt_succ_of_lt ha)),y1K _ _ _ (by rw[y1Z];show Yj ha)];show fv
 change x_ _ P E {s with heap:=((q0g (YO λ_=>#[])).push (seqObj "tuple" ([]:ve n_).toArray 0)).push (seqObj "list" #[] 0)}
 dsimp only;rw[if_pos nofun,if_pos nofun];refine XJ (XM ?_);rw[StateT.run_pure];refine XJ (XM ?_);dsimp only;refine XJ (seqEpoch_at kn rfl ?_);let e0:(Array.map (λx=>x.snd) (arrOf (SortSt.mk' general' ((#[]:q0p 0).zip (#[]:q0p 0)) #[] 7 b_)))=(#[]:q0p 0):=by
  change Array.map (λx=>x.snd) ((#[]:q0p 0).zip (#[]:q0p 0))=#[]
  simp
 refine XJ (y0S kn rfl ?_ (YE _) (hsz2:=by
  let e1:(Array.map (λx=>x.snd) (arrOf (SortSt.mk' general' ((#[]:q0p 0).zip (#[]:q0p 0)) #[] 7 b_))).size=0:=by rw[e0];rfl
  first|exact Y9 (Nat.le_of_eq e1) (YE _)|(show _<=_;omega)))
 simp only[bne_self_eq_false,YG,if_false];refine XM ?_
 change P (.done (.ret .none)) {s with heap:=(((q0g (YO λx=>#[])).push (seqObj "tuple" ([]:ve n_).toArray 0)).push (seqObj "list" #[] 0)).update a (YO λx=>Array.map (λx=>x.snd) (arrOf (SortSt.mk' general' ((#[]:q0p 0).zip (#[]:q0p 0)) #[] 7 b_)))}
 rw[e0];show h
theorem II(zi:ve n_->oa->Prop)(hc:q1s (collect v) zi E s)(h:∀vs s1,zi vs s1->vs.length<1000000/\∃lt:Nat->Nat->Bool,(∀i j k,i<vs.length->j<vs.length->k<vs.length->lt j i=false->lt k j=false->lt k i=false)/\(∀i j,i<vs.length->j<vs.length->lt i j=true->lt j i=false)/\
   (∀(A':q_)(s':oa),(∀b o,s1.heap.get? b=a_ o->s'.heap.get? b=a_ o)->0<vs.length->∀(Q:g_ y0e) E',Q κ s'->jn prog w A' (keyKind' vs.toArray) Q E' s')/\
   (∀(s':oa),(∀b o,s1.heap.get? b=a_ o->s'.heap.get? b=a_ o)->∀i j,i<vs.length->j<vs.length->∀Q:g_ Bool,Q (lt i j) s'->jn prog w A.in1.in1 (keyLt' κ (q0u 0) (vs.getD j Yn)) Q (λ_ _=>False) s')/\
   ∀(p:W_ 0)(h':r_)(e:Nat),p.Perm (q1w 0)->p.Pairwise (λi j=>lt j i=false)->(∀b o,s1.heap.get? b=a_ o->q0A 0=a_ o)->h'.get? (c_ s1)=a_ (seqObj "list" (p.map λi=>q0u 0).toArray e)->Q (.ref (c_ s1)) {s1 with heap:=h'}):
  x_ (call (.builtin "sorted") [v]) Q E s:=by
 refine Calls.call_function_entry kind_sorted plain_sorted entry_sorted (args_sorted1 _) ?_;unfold Builtin.«sorted»;refine XJ (m:=checkCount "sorted" 1 1 _) (XM ?_);refine XJ (ZG hc (λvs s1 c=>?_) λ_ _ x=>x);let⟨h64,lt,tr,as,hk,ao,fin⟩:=h vs s1 c;refine XJ (wpAny_newList ?_ (by rw[YL];omega));let jd:(s1.heap.push (seqObj "list" vs.toArray 0)).get? (c_ s1)=a_ (seqObj "list" vs.toArray 0):=q0O 0;let keep:∀b o,s1.heap.get? b=a_ o->b≠(c_ s1)/\(s1.heap.push (seqObj "list" vs.toArray 0)).get? b=a_ o:=λb o q=>⟨Yj (XZ q),XO _ q⟩
 change z_ _ _ _ {s1 with heap:=s1.heap.push (seqObj "list" vs.toArray 0)}
 refine XJ (YZ (Y1 slot_list_sort ⟨_,jd,rfl⟩ entry_list_sort ?_ (args_list_sort _)));let tree:jn prog w A.in1.in1 (Builtin.«list.sort» ⟨[.ref (c_ s1)],[]⟩) (λr s'=>∃p:W_ 0,r=.done (.ret .none)/\p.Perm (q1w 0)/\p.Pairwise (λi j=>lt j i=false)/\s'={s1 with heap:=sortedHeap (s1.heap.push (seqObj "list" vs.toArray 0)) (c_ s1) vs (p.map λi=>q0u 0).toArray}) E {s1 with heap:=s1.heap.push (seqObj "list" vs.toArray 0)}:=by
  by_cases h0:0<vs.length
  ·show yL (κ:=κ) lt tr as jd h64 (λs' kp Q hq=>hk _ s' (λb o e=>kp b o (keep b o e).1 (keep b o e).2) h0 Q _ hq) (λs' kp i j hi hj Q hq=>ao s' (λb o e=>kp b o (keep b o e).1 (keep b o e).2) i j hi hj Q hq) λp a1 a2=>⟨p,rfl,a1,a2,rfl⟩
  ·let e0:vs=[]:=y1e.mp ⋯;subst e0;show vY jd ⟨[],rfl,Zd _,ZE,rfl⟩
 refine ZG tree (λr s' hr=>?_) λ_ _ x=>x;let⟨p,rfl,a1,a2,rfl⟩:=hr;refine⟨_,rfl,XM ⟨_,rfl,?_⟩⟩;let⟨e,he⟩:=sortedHeap_at (h:=s1.heap.push (seqObj "list" vs.toArray 0)) (out:=(p.map λi=>q0u 0).toArray) jd;show fin p _ e a1 a2 (λb o q=>(sortedHeap_old (keep b o q).1 (by rw[size_push'];show Nat.lt_succ_of_lt (XZ q))).trans (keep b o q).2) he
def Cu(H:Hp)(ps:ve (o_×ve V)):Hp:=λb=>match ps.lookup b with
 |some xs=>a_ (.tup xs)
 |none=>H b
theorem xU{κ:Type}{x:o_}{k:κ}:∀{l:ve (o_×κ)},l.lookup x=a_ k->(x,k)∈l
 |[],h=>by simp at h
 |(n,v)::r,h=>by
  by_cases hx:x=n
  ·subst hx;simp only[Yx,beq_self_eq_true]at h;cases h
   show XY
  ·have:(x == n)=false:=by simpa using hx
   simp only[Yx,this]at h;show XW _ (xU h)
theorem uB{κ:Type}{x:o_}:∀{l:ve (o_×κ)},(∀p∈l,p.1≠x)->l.lookup x=b_
 |[],_=>rfl
 |(n,v)::r,h=>by
  let hx:(x == n)=false:=by have:=h (n,v) XY;simpa using λe:x=n=>this e.symm
  simp only[Yx,hx];show uB λp hp=>h p (XW _ hp)
theorem Ef{ps:ve (o_×ve V)}{b:o_}(h:∀p∈ps,p.1≠b):Cu H ps b=H b:=by unfold Cu;rw[uB h]
theorem Eg{H:Hp}:∀{ps:ve (o_×ve V)}{j:Nat}{a:o_}{xs:ve V},(ps.map (·.1)).Nodup->ps[j]?=a_ (a,xs)->Cu H ps a=a_ (.tup xs)
 |[],_,_,_,_,h=>by simp at h
 |(n,v)::r,0,a,xs,_,h=>by simp at h;let⟨rfl,rfl⟩:=h;unfold Cu;simp[Yx]
 |(n,v)::r,j+1,a,xs,nd,h=>by
  let vx:(n::r.map (·.1)).Nodup:=nd;let⟨n1,n2⟩:=Z7.mp vx;let h':r[j]?=a_ (a,xs):=by simpa using h
  let ne:(a == n)=false:=by have:a∈r.map (·.1):=Yt.mpr ⟨_,Yv h',rfl⟩;simpa using λe:a=n=>n1 (e▸this)
  let ih:=Eg (H:=H) n2 h';unfold Cu at ih⊢;simp only[Yx,ne];show ih
section
variable{σ:St}
theorem Inv.laidT{ps:ve (o_×ve V)}(I:P_ s)(k:∀b u,I_ 0=a_ u->q0A 0=a_ u)(hp:∀p∈ps,(c_ s)<=p.1)(new:∀p∈ps,p.2.length<=X5/\∃its:ve n_,aW p.2 its/\yI h' p.1 its.toArray):
  f_ (Cu H ps) {s with heap:=h',toks:=t'}:=by
 let nb:∀b,b<(c_ s)->∀p∈ps,p.1≠b:=λb hb p j0 e=>ZD _ (Yl hb (e▸hp p j0));let old:∀b,b<(c_ s)->Cu H ps b=H b:=λb hb=>Ef (nb b hb);refine I.un ⟨λb u q _ _ _=>k b u q,λb u q _ _ _=>⟨u.slots,k b u q⟩,λb u q n _=>(old b (XZ q)).trans n,λb u q _=>⟨u,k b u q⟩,λb xs q=>(old b (I.hok.lt q)).trans q,λb u xs q=>(old b (I.hok.lt q)).trans q,λb ps' q=>⟨#[],by rw[old b (I.hok.lt q),q];simp⟩⟩ ?_;intro b u e;unfold Cu at e;cases q:ps.lookup b with
 |some xs=>
  rw[q]at e;cases e
  let⟨z,its,r,p⟩:=new _ (xU q);show⟨z,its,r,p⟩
 |none=>rw[q]at e;let hb:=I.hok.lt e;show(I.hok b u e).stay (λc v _ q=>k c v q) (λc q=>(old c (I.hok.lt q)).trans q) λc xs q=>(old c (I.hok.lt q)).trans q
theorem BN(I:P_ s){ps:ve (o_×ve V)}(hp:∀p∈ps,(c_ s)<=p.1):zT H (Cu H ps):=λb o e=>by let nb:∀p∈ps,p.1≠b:=λp j0 z=>ZD _ (Yl (I.hok.lt e) (z▸hp p j0));rw[Ef nb];show e
end
theorem IJ{α:Type}{xs:ve α}{d:α}{p:W_ 0}(h:p.Perm (YN xs.length)):(p.map λi=>xs.getD i d).Perm xs:=by
 let e:(YN xs.length).map (λi=>xs.getD i d)=xs:=by
  apply Zi;intro i;by_cases hi:i<xs.length
  ·simp[hi]
  ·simp[hi]
 have:=h.map λi=>xs.getD i d
 rwa[e]at this
theorem BO{vs:ve V}{us:ve n_}(r:aW vs us):∀{p:W_ 0},(∀i∈p,i<vs.length)->aW (p.map λi=>vs.getD i .non) (p.map λi=>us.getD i Yn)
 |[],_=>.nil
 |i::p,h=>by
  let hi:=h i XY;let g:vs[i]?=a_ (vs.getD i .non):=by simp[hi]
  let⟨u,hu,hr⟩:=r.get g;let e:us.getD i Yn=u:=by simp[X8,hu]
  refine .cons ?_ (BO r λj hj=>h j (XW _ hj))
  change RelV (vs.getD i .non) (us.getD i Yn)
  rw[e];show hr
variable{key:n_}
section
variable{K:Type}[DecidableEq K]
theorem yM{knd:HeapKind prog w K}{d:o_}{xs:ve (K×o_×n_)}{k:K}{x:n_}(hu:knd.room A)(ak:knd.is s.heap k a)(hm:s.heap.DictOfH knd d xs)(hz:xs.length<=X5)(there:∀p,q1g k=a_ p->Q p.2 { s with toks:=s.toks+knd.draws k})(new:q1g k=b_->∀h',h'.DictOfH knd d (storedH xs k a x)->Zv d s.heap h'->Q x {s with heap:=h',toks:=s.toks+knd.draws k}):x_ (y1T d (.ref a) x) Q E s:=by
 let⟨o,es,ep,ho,hc,hd,he,mn,hn⟩:=hm;unfold y1T;refine YZ (XJ (knd.pyHash hu ak ?_));refine XJ (wpAny_dictFind_heap (s:={ s with toks:=s.toks+knd.draws k}) hu ak ho hd he mn hn (λiu=>?_) (λj p hj=>?_))
 ·let l9:=atKey_none_of_get iu;let fresh:=not_mem_keys_of_get iu;refine XJ (y0f (XJ (wpAny_updateDictKeys (hz:=by let e:=size_of_entries he;omega) (s:={ s with toks:=s.toks+knd.draws k}) ho hd (XM (new l9 _ ⟨_,_,ep+1,YR _ ho (Obj.isFreed_of_dict (y0p hd _)),hc.mapDictKeys _,y0p hd _,?_,?_,?_⟩ (YB ..))))))
  ·rw[storedH_new l9,Array.toList_push,he,YF];rfl
  ·rw[storedH_new l9];intro z hz';rcases X7.mp hz' with q|q
   ·show knd.keeps (mn z q) ho hd (YB ..)
   ·rw[YC.mp q];show knd.keeps ak ho hd (YB ..)
  ·rw[storedH_new l9,YF,Zo];refine⟨hn,by simp,λu kg v hv e=>fresh ?_⟩;have:v=k:=by simpa using hv
   rw[<-this,<-e];show kg
 ·let l9:q1g k=a_ p:=atKey_of_get hn hj;refine XJ (Zp (s:={ s with toks:=s.toks+knd.draws k}) ho hd ?_);rw[entry_at he j,hj];show XJ (y0f (XM (there p l9)))
theorem vZ{knd:KeyKind prog w K}{d:o_}{kvs:ve (K×n_)}{k:K}{x:n_}(ak:knd.is k key=true)(hm:s.heap.DictOf knd d kvs)(hz:kvs.length<=X5)(there:∀v,valueAt kvs k=a_ v->Q v { s with toks:=s.toks+1})(new:valueAt kvs k=b_->∀h',h'.DictOf knd d (stored kvs k x)->Zv d s.heap h'->Q x {s with heap:=h',toks:=s.toks+1}):x_ (y1T d key x) Q E s:=by
 let om:=hm.mapOf;let⟨o,es,ep,ho,hc,hd,hk,hp,hn⟩:=id hm;let gp:es.size<=X5:=by let e1:=hp.length;rw[y0E]at e1;omega
 unfold y1T;refine YZ (XJ (knd.pyHash ak (XJ (wpAny_dictFind_of (s:={ s with toks:=s.toks+1}) ak ho hd hk ?_))));let u9:(es.findIdx? λe=>knd.is k e.key)=kvs.findIdx? λkv=>decide (kv.1=k):=by rw[<-hp.findIdx k];let⟨l⟩:=es;simp
 cases hi:es.findIdx? λe=>knd.is k e.key with
 |some i=>
  refine XJ (Zp (s:={ s with toks:=s.toks+1}) ho hd ?_);let⟨o',dg,gg,cg,_,cj,_,hf⟩:=om;obtain rfl:o=o':=Yp (ho.symm.trans cg);let t8:es=dg:=by rw[hd]at cj;injection cj
  subst t8;let xf:valueAt kvs k=(es[i]?).map (·.val):=by rw[<-hf k,findBy_of_findIdx?,hi]
  let ao:i<es.size:=(Array.findIdx?_eq_some_iff_findIdx_eq.mp hi).1;rw[YX ao]at xf⊢;show XJ (y0f (XM (there _ xf)))
 |none=>
  let fresh:k∉kvs.map (·.1):=not_mem_of_findIdx_none (u9▸hi);let oo:¬ (kvs.any λkv=>decide (kv.1=k))=true:=by rw[List.any_eq_true];rintro⟨kv,q1,q2⟩;show fresh (Yt.mpr ⟨kv,q1,of_decide_eq_true q2⟩)
  let hv:valueAt kvs k=b_:=by
   let⟨o',dg,gg,cg,_,cj,_,hf⟩:=om;obtain rfl:o=o':=Yp (ho.symm.trans cg);let t8:es=dg:=by rw[hd]at cj;injection cj
   subst t8;rw[<-hf k,findBy_of_findIdx?,hi]
  refine XJ (y0f (XJ (wpAny_updateDictKeys (hz:=gp) (s:={ s with toks:=s.toks+1}) ho hd (XM (new hv _ ⟨_,_,ep+1,YR _ ho (Obj.isFreed_of_dict (y0p hd _)),hc.mapDictKeys _,y0p hd _,hk.push ak _,?_,?_⟩ (YB ..))))))
  ·rw[stored,if_neg oo];let q:=hp.append ak (knd.hash k) x;let⟨l⟩:=es;simpa using q
  ·rw[stored,if_neg oo,YF,Zo];refine⟨hn,by simp,λu kg v l6 e=>fresh ?_⟩;have:v=k:=by simpa using l6
   rw[<-this,<-e];show kg
end
section
variable{K:Type}[DecidableEq K]
theorem pY(knd:HeapKind prog w K)(d a:o_)(hd:(d == Zf)=false)(x:n_):
  MeetsIn prog w (Builtin.«dict.setdefault» ⟨[.ref d,.ref a,x],[]⟩) (λA R s=>knd.room A.in1/\∃k xs,knd.is s.heap k a/\s.heap.DictOfH knd d xs/\xs.length<=X5/\(∀p,q1g k=a_ p->R (.ok (.ret p.2)) { s with toks:=s.toks+knd.draws k})/\
   (q1g k=b_->∀h',h'.DictOfH knd d (storedH xs k a x)->Zv d s.heap h'->R (.ok (.ret x)) {s with heap:=h',toks:=s.toks+knd.draws k})):=
 .of_wp λA R s ⟨hu,k,xs,ak,hm,hz,r1,r2⟩=>by
  unfold Builtin.«dict.setdefault»;refine XJ ?_;unfold y1O;refine XJ (y0T hm.typeIs (show z_ (pure (d,YH a,a_ x)) _ _ s from XM ?_))
  change z_ (if(d == Zf)=true then _ else(y1T d (.ref a) x >>= _)) _ _ s
  rw[if_neg (show ¬ _ from by rw[hd];decide)]
  show XJ (yM hu ak hm hz (λp e=>XM ⟨p.2,rfl,r1 p e⟩) λe h' q1 q2=>XM ⟨x,rfl,r2 e h' q1 q2⟩)
theorem oJ(knd:KeyKind prog w K)(d:o_)(hd:(d == Zf)=false){k:K}(ak:knd.is k key=true)(x:n_):
  MeetsIn prog w (Builtin.«dict.setdefault» ⟨[.ref d,key,x],[]⟩) (λA R s=>∃kvs,s.heap.DictOf knd d kvs/\kvs.length<=X5/\(∀v,valueAt kvs k=a_ v->R (.ok (.ret v)) { s with toks:=s.toks+1})/\
   (valueAt kvs k=b_->∀h',h'.DictOf knd d (stored kvs k x)->Zv d s.heap h'->R (.ok (.ret x)) {s with heap:=h',toks:=s.toks+1})):=
 .of_wp λA R s ⟨kvs,hm,hz,r1,r2⟩=>by
  unfold Builtin.«dict.setdefault»;refine XJ ?_;unfold y1O;refine XJ (y0T hm.typeIs (show z_ (pure (d,key,a_ x)) _ _ s from XM ?_))
  change z_ (if(d == Zf)=true then _ else(y1T d key x >>= _)) _ _ s
  rw[if_neg (show ¬ _ from by rw[hd];decide)]
  show XJ (vZ ak hm hz (λv e=>XM ⟨v,rfl,r1 v e⟩) λe h' q1 q2=>XM ⟨x,rfl,r2 e h' q1 q2⟩)
end
variable{dc:o_}{ep:Nat}{oc:Obj}
theorem FX{v:o_}{es:Array y0o}(hv:s.heap.IsItemsView v dc)(h1:s.heap.get? dc=a_ oc)(h2:oc.data=.dict es ep)(q:Q (.ref (c_ s)) {s with heap:=s.heap.push {cls:=.type "dict_itemiterator",data:=.fields #[.none,.bool false,.ref dc,.int 0 0,.int es.size 0,.int ep 0,.none,.none]} }):x_ (pyIter (.ref v)) Q E s:=by
 let⟨ov,g1,g2,g3⟩:=id hv;refine wpAny_pyIter_slot hv.typeIs F.slot_dict_items_iter (Y1 F.slot_dict_items_iter hv.typeIs F.entry_dict_items_iter (show z_ (Builtin.«dict_items.__iter__» _) _ _ _ from ?_) (F.args_dict_items_iter_1 _))
 unfold Builtin.«dict_items.__iter__»;refine XJ (XM (XJ ?_));unfold Builtin.Dict_items.dictOf;refine XJ (ZL g1 g3 (x:=.ref dc) rfl (XM (XJ ?_)));unfold Builtin.Dict_items.newIterator;refine XJ (Zp h1 h2 (XJ (y1A h1 h2 ?_)));rw[show ZR "dict_itemiterator" = true by decide];simp only[if_true,Builtin.Dict_items.ownedTupleFields,y1j,Zx,YG,if_false];refine YJ (XM ⟨_,rfl,"dict_itemiterator",_,⟨_,q0O 0,rfl⟩,ZI.lookup,(by simpa[rawInt] using q)⟩)
theorem Eh(dc:o_)(hd:(dc == Zf)=false):MeetsIn prog w (Builtin.«dict.items» ⟨[.ref dc],[]⟩) (λ_ R s=>s.TypeIs (.ref dc) "dict" /\
   R (.ok (.ret (.ref (c_ s)))) {s with heap:=s.heap.push {cls:=.type "dict_items",data:=.fields #[.ref dc]} }):=
 .of_wp λA R s ⟨hT,h⟩=>by
  refine XJ ?_;unfold Builtin.Dict.noArgs;refine XJ (y0T hT (show z_ (pure dc) _ _ s from XM (show z_ (y1B dc >>= _) _ _ s from ?_)))
  unfold y1B;rw[if_neg (show ¬ _ from by rw[hd];decide)]
  refine XJ (XM (XJ (YJ (XM ⟨_,rfl,h⟩))))
theorem Km(xs:Array Nat)(j:Nat):∀(fuel lo hi:Nat),hi-lo<=fuel->lo<=hi->hi<=xs.size->(∀i(h:i<xs.size),i<lo->xs[i]<j)->(∀i(h:i<xs.size),hi<=i->¬ xs[i]<j)->
  (xs.toList.Pairwise (· < ·))->SetTable.below.go xs j fuel lo hi<=xs.size/\(∀i(h:i<xs.size),(xs[i]<j↔i<SetTable.below.go xs j fuel lo hi)):=by
 intro fuel
 induction fuel with
 |zero=>
  intro lo hi hf hl hs ha hb _;have:lo=hi:=⋯;subst this
  change lo<=_/\∀i(h:i<xs.size),(xs[i]<j↔i<lo)
  refine⟨hs,λi h=>⟨λh1=>Decidable.byContradiction λh2=>hb i h ⋯ h1,λh1=>ha i h h1⟩⟩
 |succ fuel ih=>
  intro lo hi hf hl hs ha hb hp
  change(if lo<hi then _ else lo)<=_/\∀i(h:i<xs.size),(xs[i]<j↔i<(if lo<hi then _ else lo))
  by_cases h:lo<hi
  ·simp only[if_pos h];let hm:(lo+hi)/2<xs.size:=⋯;let mono:∀a b(ha:a<xs.size)(hb:b<xs.size),a<b->xs[a]<xs[b]:=λa b h1 h2 h3=>by
    have:=(Yq.mp hp) a b (i_ h1) (i_ h2) h3
    simpa using this
   change(if xs.getD ((lo+hi)/2) j<j then _ else _)<=_/\∀i(h:i<xs.size),(xs[i]<j↔i<(if xs.getD ((lo+hi)/2) j<j then _ else _))
   let e:xs.getD ((lo+hi)/2) j=xs[(lo+hi)/2]:=by simp[Array.getD,hm]
   rw[e];by_cases hc:xs[(lo+hi)/2]<j
   ·simp only[if_pos hc];show ih _ _ ⋯ ⋯ hs (λi h1 h2=>by
     by_cases h3:i=(lo+hi)/2
     ·subst h3;show hc
     ·have:=mono i _ h1 hm ⋯;omega) hb hp
   ·simp only[if_neg hc];show ih _ _ ⋯ ⋯ ⋯ ha (λi h1 h2=>by
     by_cases h3:i=(lo+hi)/2
     ·subst h3;show hc
     ·have:=mono _ i hm h1 ⋯;omega) hp
  ·simp only[if_neg h];have:lo=hi:=⋯;subst this;show⟨hs,λi h=>⟨λh1=>Decidable.byContradiction λh2=>hb i h ⋯ h1,λh1=>ha i h h1⟩⟩
theorem FY{xs:Array Nat}(hp:xs.toList.Pairwise (· < ·))(j:Nat):SetTable.below xs j<=xs.size/\(∀i(h:i<xs.size),(xs[i]<j↔i<SetTable.below xs j)):=Km xs j xs.size 0 xs.size ⋯ ⋯ ⋯ (λi h h1=>by omega) (λi h h1=>by omega) hp
structure TOk(bt:Bool)(t:SetTable):Prop where
 dum:t.dummies=#[]
 led:bt=false->t.led=true
 ris:t.plain=true->t.place.toList.Pairwise (· < ·)
def jI(w:s_):Bool:=w.params.followText "set-order"
variable{dg:Array (Int×n_)}
theorem O0{h:r_}{o:Obj}{es:Array (Int×n_)}{t t':SetTable}(ho:h.get? a=a_ o)(hd:o.data=.set es ep t):
  (h.update a (Obj.putSet dg t')).get? a=a_ { o with data:=.set dg (ep+1) t'}:=by
 let⟨c,d,da,sl⟩:=o;cases hd
 rw[YR _ ho (by rfl)];rfl
variable{Q₁:d_ 0}
theorem code_set_new(x:n_)(q:Q₁ (.ref (c_ s)) {s with heap:=s.heap.push {cls:=.type "set",data:=.set #[] 0 (y0w 0 0 !jI w)} }):
  codeAny (q0M 0) A (.call (.builtin "set.__new__") ⟨[.type "set",x],[]⟩) (wants Q₁ E) s:=by
 refine codeAny_of_tree ?_;refine XJ (y0Z (F.newCall_set_1 x) (XM ⟨y0U F.plain_set_new _,ZW F.entry_set_new ?_⟩));rw[Zs F.plain_set_new];unfold Builtin.«set.__new__»;refine XJ ?_;unfold Builtin.Frozenset.newClass;refine(show z_ (isType (.type "set") >>= _) _ _ s from XJ (XM ?_))
 rw[q0a 0];refine XJ (y0Z sub_set_self ?_);rw[q0a 0];refine XM (XJ ?_);unfold newSet setsByText;refine XJ (XJ (y10 (XM ?_)));show YJ (XM q)
theorem fM:Slot "set_iterator" (Zj "__next__") "set_iterator.__next__" := Slot.of (owner:="set_iterator") (n:="__next__")
 (by rw[typeLookup_type,builtinLookup_eq_fast];rfl) (by decide +kernel) (by decide +kernel) (by decide +kernel) (.inl (by decide +kernel)) (by rw[isSubtype_type];rfl) (by decide +kernel)
theorem uC:Slot "set_iterator" (Zj "__iter__") "set_iterator.__iter__" := Slot.of (owner:="set_iterator") (n:="__iter__")
 (by rw[typeLookup_type,builtinLookup_eq_fast];rfl) (by decide +kernel) (by decide +kernel) (by decide +kernel) (.inl (by decide +kernel)) (by rw[isSubtype_type];rfl) (by decide +kernel)
theorem sA:entryFor table "set_iterator.__next__" = a_ Builtin.«set_iterator.__next__»:=entryFor_of_tree (by rfl)
theorem A5:entryFor table "set.__iter__" = a_ Builtin.«frozenset.__iter__»:=entryFor_alias (id:="set.__iter__") (id':="frozenset.__iter__") (by first|rfl|decide +kernel) (by first|rfl|decide +kernel) (by decide +kernel) (by rfl)
theorem Ei:y1u (String.ofList ['r','o','t','a','r','e','t','i','_','t','e','s'].reverse) Manifest.owners=a_ Manifest.sig_set_iterator:=by rfl
theorem uD(a:n_):argsOk "set_iterator.__next__" ⟨[a],[]⟩:=by let e:=signature?_of (id:="set_iterator.__next__") (n:=['_','_','t','x','e','n','_','_']) (o:=['r','o','t','a','r','e','t','i','_','t','e','s']) (by rfl) Ei;unfold argsOk;rw[e];rfl
theorem A6{α:Type}:∀{l:ve α}{i:Nat}(h:i<l.length),(l[i]::l.eraseIdx i).Perm l
 |[],i,h=>by simp at h
 |x::l,0,h=>by simp
 |x::l,i+1,h=>by simp only[List.getElem_cons_succ,y1f];show(List.Perm.swap _ _ _).trans (List.Perm.cons _ (A6 (i_ h)))
theorem O1{α:Type}(next:Nat->Nat):∀(fuel k:Nat)(left:ve α)(out:Array α),left.length=fuel->(pickOrder.go next fuel k left out).toList.Perm (out.toList++left):=by
 intro fuel
 induction fuel with
 |zero=>intro k left out hl;have:left=[]:=y1k hl;subst this;simp[pickOrder.go]
 |succ fuel ih=>
  intro k left out hl;let hi:next k%left.length<left.length:=Nat.mod_lt _ ⋯
  change(match left[next k%left.length]? with|some x=>pickOrder.go next fuel (k+1) (left.eraseIdx (next k%left.length)) (out.push x)|none=>out).toList.Perm _
  rw[Yd hi];dsimp only;refine(ih _ _ _ (by rw[List.length_eraseIdx_of_lt hi];omega)).trans ?_;rw[Array.toList_push,XU];show Ys _ (A6 hi)
theorem IK{α:Type}(next:Nat->Nat)(xs:Array α):(pickOrder next xs).toList.Perm xs.toList:=by have:=O1 next xs.size 0 xs.toList #[] (by simp);unfold pickOrder;simpa using this
def nM(w:s_)(a:o_)(ep:Nat)(es:Array (Int×n_)):Array (Int×n_):=if jI w=true then pickOrder (w.params.setOrder a ep) es else es
theorem oK{es:Array (Int×n_)}:(q1x 0).toList.Perm es.toList:=by
 unfold nM;split
 ·show IK _ _
 ·show Zd _
def slotAt(w:s_)(t:SetTable)(i:Nat):Nat:=if jI w=true then 0 else if i=0 then 0 else t.place.getD (i-1) 0+1
theorem R1{es:Array (Int×n_)}{t:SetTable}(ht:TOk (jI w) t)(hf:t.fits es.size=true)(d9:jI w=true\/(!t.plain&&decide (es.size>1))=false)(hb:jI w=false):t.place.toList.Pairwise (· < ·):=by
 rcases d9 with h|h
 ·rw[hb]at h;cases h
 ·cases hp:t.plain with
  |true=>exact ht.ris hp
  |false=>
   rw[hp]at h;have:es.size<=1:=by simpa using h
   let hs:t.place.size=es.size:=by have:=hf;simp[SetTable.fits]at this;show this.1
   have:t.place.toList.length<=1:=by simp;omega
   match hl:t.place.toList with
   |[]=>exact ZE
   |[x]=>exact ZU _ _
   |x::y::r=>rw[hl]at this;simp at this
theorem Ej{o:Obj}{es:Array (Int×n_)}{t:SetTable}{Q:v_ (n_×Nat)->oa->Prop}(ho:q0C 0=a_ o)(hd:o.data=.set es ep t)(ht:TOk (jI w) t)(hf:t.fits es.size=true)(d9:jI w=true\/(!t.plain&&decide (es.size>1))=false)(hi:i<=es.size)(q:Q ((q1x 0)[i]?.map λe=>(e.2,q0R (i+1))) s):x_ (setNext a (q0R i) i ep) Q E s:=by
 unfold setNext;refine XJ (y1L ho hd hf ?_);unfold setsByText;refine XJ (XJ (y10 (XM ?_)))
 change z_ (if jI w=true then _ else _) _ _ _
 by_cases hb:jI w=true
 ·rw[if_pos hb];refine y0b (show decide _=false from by simp) ?_
  unfold setWalk;refine XJ (XJ (y1L ho hd hf ?_));unfold setsByText;refine XJ (XJ (y10 (XM ?_)))
  change z_ (if jI w=true then _ else _) _ _ _
  rw[if_pos hb];refine XJ (y10 (XM (XM ?_)));let e1:q1x 0=pickOrder (w.params.setOrder a ep) es:=if_pos hb;let e2:∀j,q0R j=0:=λj=>if_pos hb;rw[e1,e2]at q;rw[e2];show q
 ·let hb':jI w=false:=by simpa using hb
  rw[if_neg hb];let hr:=R1 ht hf d9 hb';let uu:(!t.plain&&decide (es.size>1))=false:=by
   rcases d9 with h|h
   ·show(hb h).elim
   ·show h
  refine y0b (show decide ((!t.plain&&decide (es.size>1))=true)=false from by rw[uu];rfl) ?_
  let v3:=ht.led hb';refine XJ (y0Z (a:=()) (show(if(!t.led && !es.isEmpty)=true then _ else pure ())=pure () from by rw[v3];rfl) (XM ?_))
  let hs:t.place.size=es.size:=by have:=hf;simp[SetTable.fits]at this;show this.1
  let ur:SetTable.below t.place (q0R i)=i:=by
   let⟨h1,h2⟩:=FY hr (q0R i);generalize hp:SetTable.below t.place (q0R i)=p at h1 h2;let mono:∀x y(hx:x<t.place.size)(hy:y<t.place.size),x<y->t.place[x]<t.place[y]:=λx y hx hy j8=>by
    have:=(Yq.mp hr) x y (i_ hx) (i_ hy) j8
    simpa using this
   let XD:q0R i=if i=0 then 0 else t.place.getD (i-1) 0+1:=if_neg hb;rw[XD]at h2;by_cases h0:i=0
   ·subst h0;rcases Nat.eq_zero_or_pos p with h|h
    ·show h
    ·have:=(h2 0 ⋯).mpr h;simp at this
   ·rw[if_neg h0]at h2;let mw:i-1<t.place.size:=⋯;let eg:t.place.getD (i-1) 0=t.place[i-1]:=by simp[Array.getD,mw]
    rw[eg]at h2;let l1:i-1<p:=(h2 (i-1) mw).mp ⋯;rcases Nat.lt_or_ge i p with h|h
    ·have:=(h2 i ⋯).mpr h;have:=mono (i-1) i mw ⋯ ⋯;omega
    ·omega
  rw[ur];let e1:q1x 0=es:=if_neg hb;rw[e1]at q;by_cases ao:i<es.size
  ·rw[YX ao]at q⊢;rw[YX (show i<t.place.size by omega)];let e2:q0R (i+1)=t.place[i]+1:=by have:q0R (i+1)=if i+1=0 then 0 else t.place.getD (i+1-1) 0+1:=if_neg hb;rw[this];simp[Array.getD,show i<t.place.size by omega]
   simpa[e2] using q
  ·rw[Ze ⋯]at q⊢;simpa using q
def siO(a:o_)(first:n_)(i n ep:Nat):Obj:={cls:=.type "set_iterator",data:=.fields #[first,.int i 0,.ref a,.int n 0,.int ep 0]}
variable{E':d_ 0}{it:o_}
theorem Cv{h1:r_}{fs:q0p 0}{x:n_}{α:Type}{f:Unit->Sem α}{R:α->oa->Prop}(g:h1.get? it=a_ {cls:=.type "set_iterator",data:=.fields fs})(hj:j<fs.size)(k:∀h2:r_,h2.get? it=a_ {cls:=.type "set_iterator",data:=.fields (fs.setIfInBounds j x)}->(∀(b:o_),b≠it->h2.get? b=h1.get? b)->Heap.ExtBut it h1 h2->x_ (f ()) R E' {s with heap:=h2}):
  x_ (setField (.ref it) j x >>= f) R E' {s with heap:=h1}:=by
 refine XJ (y1U (s:={s with heap:=h1}) g rfl hj ?_);refine k _ ?_ (λb hb=>(YB ..).2 b hb) (YB ..).extBut;rw[YR _ g (y1C (y1r rfl _))];simp[y0V]
theorem Kn{first:n_}(hI:s.heap.get? it=a_ (siO a first i n ep)):s.TypeIs (.ref it) "set_iterator" := ⟨_,hI,rfl⟩
theorem IL{o:Obj}{es:Array (Int×n_)}{t:SetTable}{Q:v_ n_->oa->Prop}(hI:s.heap.get? it=a_ (siO a (.int (q0R i) 0) i es.size ep))(ho:q0C 0=a_ o)(hd:o.data=.set es ep t)(ht:TOk (jI w) t)(hf:t.fits es.size=true)(d9:jI w=true\/(!t.plain&&decide (es.size>1))=false)(ao:i<es.size)(cq:i<(q1x 0).size)(q:∀h',h'.get? it=a_ (siO a (.int (q0R (i+1)) 0) (i+1) es.size ep)->(∀(b:o_),b≠it->q0A 0=I_ 0)->Q (a_ (q1x 0)[i].2) {s with heap:=h'}):x_ (pyNext (.ref it)) Q E s:=by
 let hT:=Kn hI;unfold pyNext;refine XJ (y0t (YT (name:=Zj "__next__") hT fM (Y1 fM hT sA ?_ (uD _))));refine XJ (XM (XJ (y1V hI rfl ?_)));refine(show z_ (setEntries a >>= _) _ _ s from XJ (wpAny_setEntries_of ho hd hf ?_))
 refine y0b (show decide _=false from by simp) ?_
 refine(show z_ (setNext a (q0R i) i ep >>= _) _ _ s from XJ (Ej ho hd ht hf d9 (y1a ao) ?_))
 rw[YX cq];refine(show z_ (setField (.ref it) 0 _ >>= _) _ _ {s with heap:=s.heap} from Cv hI (by simp[siO]) λh2 g2 k2 _=>?_)
 refine Cv g2 (by simp) λh3 g3 k3 _=>?_;refine XM ⟨_,rfl,XM (q h3 ?_ λb hb=>by rw[k3 b hb,k2 b hb])⟩;rw[g3];simp[siO,rawInt]
theorem Ko{o:Obj}{es:Array (Int×n_)}{t:SetTable}{Q:v_ n_->oa->Prop}(hh:A.handled=b_)(hI:s.heap.get? it=a_ (siO a (.int (q0R es.size) 0) es.size es.size ep))(ho:q0C 0=a_ o)(hd:o.data=.set es ep t)(ht:TOk (jI w) t)(hf:t.fits es.size=true)(d9:jI w=true\/(!t.plain&&decide (es.size>1))=false)(q:∀h',Heap.ExtBut it s.heap h'->Q b_ {s with heap:=h'}):x_ (pyNext (.ref it)) Q E s:=by
 let hT:=Kn hI;let hsz:(q1x 0).size=es.size:=by have:=(oK (w:=w) (a:=a) (ep:=ep) (es:=es)).length_eq;simpa using this
 unfold pyNext;refine XJ (y0t (YT (name:=Zj "__next__") hT fM (Y1 fM hT sA ?_ (uD _))));refine XJ (XM (XJ (y1V hI rfl ?_)));refine(show z_ (setEntries a >>= _) _ _ s from XJ (wpAny_setEntries_of ho hd hf ?_))
 refine y0b (show decide _=false from by simp) ?_
 refine(show z_ (setNext a (q0R es.size) es.size ep >>= _) _ _ s from XJ (Ej ho hd ht hf d9 (X1 _) ?_))
 rw[Ze ⋯];refine(show z_ (setField (.ref it) 2 _ >>= _) _ _ {s with heap:=s.heap} from Cv hI (by simp[siO]) λh2 g2 k2 x2=>?_)
 refine(show z_ (newExc (.type "StopIteration") [] >>= _) _ _ _ from XJ ?_);simp only[newExc,newTuple]
 refine XJ (YJ (XJ (m:=y1W _ _) (y0Z (a:=Yn) (by first|rfl|(simp only[y1W];rfl)) (YJ ?_ (by size_fits)))) (by size_fits))
 simp only[raiseNew];refine XJ (wpAny_handled ?_);rw[show A.in1.handled=b_ from hh]
 refine XJ (XM (wpAny_throw ?_));refine XJ (ZY (T:="StopIteration") (b:=true) ⟨_,q0O 0,rfl⟩ isSubtype_stop ?_);show XM (q _ ((x2.push _).push _))
theorem Cw:typeLookup (y0y "set") (Zj "__len__")=pure (a_ (Value.builtin "set.__len__")):=by rw[typeLookup_type,builtinLookup_eq_fast];rfl
theorem B9:entryFor table "set_iterator.__iter__" = a_ Builtin.«dict_keyiterator.__iter__»:=entryFor_alias (id:="set_iterator.__iter__") (id':="dict_keyiterator.__iter__") (by first|rfl|decide +kernel) (by first|rfl|decide +kernel) (by decide +kernel) (by rfl)
theorem Cy(a:n_):argsOk "set_iterator.__iter__" ⟨[a],[]⟩:=by let e:=signature?_of (id:="set_iterator.__iter__") (n:=['_','_','r','e','t','i','_','_']) (o:=['r','o','t','a','r','e','t','i','_','t','e','s']) (by rfl) Ei;unfold argsOk;rw[e];rfl
section
variable{o:Obj}{es:Array (Int×n_)}{t:SetTable}
theorem Kr{Q:g_ Bool}(hT:s.TypeIs (.ref a) "set")(q:Q false s):x_ (y1D (.ref a)) Q E s:=by unfold y1D;refine XJ (y1y hT Cw ?_);dsimp only;rw[show splitId "set.__len__" = a_ ("set","__len__") by decide +kernel];refine XJ (ZY hT sub_set_self ?_);refine wpAny_ite_split (λh=>absurd h nofun) λ_=>?_;refine wpAny_ite_split (λ_=>XJ (y1v hT (XM q))) λh=>?_;show absurd nofun h
theorem Ks{first:n_}(hI:s.heap.get? it=a_ (siO a first i n ep))(q:Q (.ref it) s):x_ (pyIter (.ref it)) Q E s:=by
 let hT:=Kn hI;refine wpAny_pyIter_slot hT uC (Y1 uC hT B9 (show z_ (Builtin.«dict_keyiterator.__iter__» _) _ _ _ from ?_) (Cy _))
 unfold Builtin.«dict_keyiterator.__iter__»;refine XJ (XM ?_);show XM ⟨_,rfl,"set_iterator",_,hT,fM.lookup,q⟩
theorem FZ(hh:A.handled=b_)(fq:a≠it)(hd:o.data=.set es ep t)(ht:TOk (jI w) t)(hf:t.fits es.size=true)(d9:jI w=true\/(!t.plain&&decide (es.size>1))=false):
  Walks prog w A it [it,a] [it] es.size (λi v=>(q1x 0)[i]?.map (·.2)=a_ v) (λi h=>h.get? it=a_ (siO a (.int (q0R i) 0) i es.size ep)/\h.get? a=a_ o):=by
 let hsz:(q1x 0).size=es.size:=by have:=(oK (w:=w) (a:=a) (ep:=ep) (es:=es)).length_eq;simpa using this
 refine⟨λb hb=>by simp at hb;simp[hb],λi h h' hs k=>⟨k it (by simp) _ hs.1,k a (by simp) _ hs.2⟩,λi s Q E hi hs q=>?_,λs Q E hs q=>?_,λi s Q E hs q=>?_⟩
 ·let hl:i<(q1x 0).size:=⋯;refine IL hs.1 hs.2 hd ht hf d9 hi hl λh' g k=>q _ h' s.toks (by rw[YX hl];rfl) ⟨g,by rw[k a fq];show hs.2⟩ λb o' hb e=>by rw[k b (i_ hb)];show e
 ·show Ko hh hs.1 hs.2 hd ht hf d9 λh' k=>q h' s.toks λb o' hb e=>k b o' (i_ hb) e
 ·show Ks hs.1 q
end
def Cz(e:Int×n_):Str:=match e.2 with|.str k _=>k|_=>""
def jT(w:s_)(h:r_)(a:o_)(ks:ve Str):Prop:=∃o es ep t,h.get? a=a_ o/\o.ExactSet/\o.data=.set es ep t/\TOk (jI w) t/\t.fits es.size=true/\
 (∀e∈es.toList,∃k tk,e=(hashStr w k,y1h k tk))/\(es.toList.map Cz).Perm ks
theorem PD(k:Str)(tk:Tok):Value.isStrOf k (.str k tk)=true:=by first|rfl|simp[Value.isStrOf]
variable{ks:ve Str}
theorem jT.kept{h:r_}(H:jT w h a ks)(k:∀o,h.get? a=a_ o->h'.get? a=a_ o):jT w h' a ks:=by let⟨o,es,ep,t,ho,r⟩:=H;show⟨o,es,ep,t,k o ho,r⟩
open PySem.SeqAt PySem.W
def kA(b:Bool)(n i:Nat):Nat:=if b then n-1-i else i
def Ek(b:Bool)(n:Nat)(p:W_ 0):W_ 0:=q0L (p.map (kA b n))
theorem qE{α:Type}(b:Bool){l:ve α}{d:α}(hi:i<l.length):(q0L l).getD i d=l.getD (kA b l.length i) d:=by
 cases b with
 |false=>rfl
 |true=>
  change l.reverse.getD i d=l.getD (l.length-1-i) d
  rw[X8,X8,List.getElem?_reverse hi]
theorem kT(h:i<n):kA b n i<n:=by unfold kA;split <;> omega
theorem G0{p:W_ 0}(h:p.Perm (YN n)):(Ek b n p).Perm (YN n):=by
 cases b with
 |false=>
  let e:Ek false n p=p:=by
   change p.map (λi=>kA false n i)=p
   have:(λi=>kA false n i)=id:=by funext i;rfl
   rw[this,List.map_id]
  rw[e];show h
 |true=>
  let e:(YN n).map (kA true n)=(YN n).reverse:=by
   apply List.ext_getElem
   ·simp
   ·intro i h1 h2;simp[kA]
  change((p.map (kA true n)).reverse).Perm _
  refine(ZF _).trans ((h.map _).trans ?_);rw[e];show ZF _
theorem G1{p:W_ 0}{lt:Nat->Nat->Bool}(h:p.Pairwise (λi j=>lt (kA b n j) (kA b n i)=false)):(Ek b n p).Pairwise (λi j=>(if b then lt i j else lt j i)=false):=by
 let h1:(p.map (kA b n)).Pairwise (λi j=>lt j i=false):=y07.mpr h;cases b with
 |false=>exact h1
 |true=>
  change((p.map (kA true n)).reverse).Pairwise _
  rw[Zy];show h1
theorem IM{p:W_ 0}(h:∀i∈p,i<vs.length):q0L (p.map λi=>(q0L vs).getD i Yn)=(Ek b vs.length p).map λi=>q0u 0:=by
 let e:(p.map λi=>(q0L vs).getD i Yn)=(p.map (kA b vs.length)).map λi=>q0u 0:=by rw[Y2];show y0I λi hi=>qE b (h i hi)
 rw[e];unfold Ek katRev;split
 ·rw[List.map_reverse]
 ·rfl
theorem G2{α:Type}(b:Bool)(l:ve α):q0L (q0L l)=l:=by unfold katRev;split <;> simp
theorem range_getD(vs:ve n_):((q1w 0).map λi=>q0u 0)=vs:=by
 apply Zi;intro i;by_cases hi:i<vs.length
 ·simp[hi]
 ·simp[hi]
variable{e1:Nat}{kS:o_}
section
variable{ks:ve n_}
theorem PF{e:Nat}{out:ve n_}{P:PySem.Fin->oa->Prop}(fi:(arrOf st).map (·.2)=out.toArray)(hz:out.length<1000000)(hkz:ks.length<1000000)(hf:y0P st=b_)(kz:kS≠a)(gk:s.heap.get? kS=a_ (seqObj "list" ks.toArray e))(ga:q0C 0=a_ (seqObj "list" #[] e1))(h:∀(h':r_)(c:Nat),(∀x o,x≠a->x≠kS->s.heap.get? x=a_ o->h'.get? x=a_ o)->h'.get? a=a_ (seqObj "list" (q0L out).toArray c)->(∃o,h'.get? kS=a_ o)->P (.done (.ret .none)) {s with heap:=h'}):
  x_ (ksk_tail a b e1 (.ref kS) st) P E s:=by
 let w1:=YB s.heap kS (YO λ_=>(#[]:q0p 0));obtain⟨ck,hck⟩:∃ck,(s.heap.update kS (YO λ_=>(#[]:q0p 0))).get? kS=a_ (seqObj "list" #[] ck):=⟨_,y1z gk λ_=>#[]⟩;let w8:=(w1.2 a kz.symm).trans ga;let w2:=YB (s.heap.update kS (YO λ_=>(#[]:q0p 0))) a (YO λ_=>(q0L out).toArray);obtain⟨c2,c9⟩:∃c2,((s.heap.update kS (YO λ_=>(#[]:q0p 0))).update a (YO λ_=>(q0L out).toArray)).get? a=a_ (seqObj "list" (q0L out).toArray c2):=⟨_,y1z w8 λ_=>(q0L out).toArray⟩;let hsz:(q0L out).toArray.size=out.length:=by rw[X3,kat_len]
 unfold ksk_tail
 try dsimp only
 rw[fi,kat_outs];refine XJ (y0S gk rfl ?_ (by rw[X3,YL];omega) (YE _));refine XJ (wpAny_letGo (XJ (seqEpoch_at w8 rfl ?_)));refine XJ (y0S w8 rfl ?_ (YE _) (Y9 (Nat.le_of_eq hsz) (by rw[YL];omega)));rw[hf];simp only[bne_self_eq_false,YG,if_false];show XM (h _ c2 (λx o h1 h2 q=>(w2.2 x h1).trans ((w1.2 x h2).trans q)) c9 ⟨_,(w2.2 kS kz).trans hck⟩)
theorem Vh{e:Nat}{P:PySem.Fin->oa->Prop}(lt:Nat->Nat->Bool)(hl:ks.length=vs.length)(h64:vs.length<1000000)(kz:kS≠a)(tr:∀i j k,i<vs.length->j<vs.length->k<vs.length->lt j i=false->lt k j=false->lt k i=false)(as:∀i j,i<vs.length->j<vs.length->lt i j=true->lt j i=false)(gk:s.heap.get? kS=a_ (seqObj "list" ks.toArray e))(ga:q0C 0=a_ (seqObj "list" #[] e1))(hk:2<=vs.length->∀(Q:g_ y0e) E',Q κ s->x_ (keyKind' ks.toArray) Q E' s)(ao:∀i j,i<vs.length->j<vs.length->∀Q:g_ Bool,Q (lt i j) s->x_ (keyLt' κ (ks.getD i Yn) (ks.getD j Yn)) Q (λ_ _=>False) s)(h:∀(p:W_ 0)(h':r_)(c:Nat),p.Perm (q1w 0)->p.Pairwise (λi j=>(if b then lt i j else lt j i)=false)->(∀x o,x≠a->x≠kS->s.heap.get? x=a_ o->h'.get? x=a_ o)->
   h'.get? a=a_ (seqObj "list" (p.map λi=>q0u 0).toArray c)->(∃o,h'.get? kS=a_ o)->P (.done (.ret .none)) {s with heap:=h'}):
  x_ (ksk_end a b vs.toArray e1 (.ref kS) ks.toArray) P E s:=by
 have skip:∀t:Sem PySem.Fin,x_ t P E s->x_ (if b=true then(do let _ <-rule "list.sort.reverse";t) else t) P E s:=λt ht=>by
  split
  ·exact XJ (y0f ht)
  ·exact ht
 have qt:(q0L ks).length=(q0L vs).length:=by rw[kat_len,kat_len,hl]
 unfold ksk_end
 try dsimp only
 refine skip _ ?_
 rw[kat_pairs b hl]
 by_cases h2:vs.toArray.size<2
 ·rw[if_pos h2,if_pos h2]
  rw[X3]at h2
  refine XJ (XM ?_)
  rw[StateT.run_pure]
  refine XJ (XM ?_)
  try dsimp only
  refine PF (st:=SortSt.mk' general' ((q0L ks).toArray.zip (q0L vs).toArray) #[] 7 b_) (out:=q0L vs) (ks:=ks) ?_ (by rw[kat_len];exact h64) ⋯ rfl kz gk ga λh' c k1 k2 k3=>?_
  ·show((q0L ks).toArray.zip (q0L vs).toArray).map (·.2)=(q0L vs).toArray
   apply y1Y.mp
   rw[Array.toList_map,ksk_zip]
   show(List.zip _ _).map Prod.snd=_
   rw[List.map_snd_zip (by rw[qt];exact X1 _)]
  ·rw[G2]at k2
   refine h (q1w 0) h' c (Zd _) ?_ k1 (by rw[range_getD];exact k2) k3
   rw[Yq]
   intro i j hi hj i8
   simp only[y06]at hi hj
   omega
 ·rw[if_neg h2,if_neg h2]
  rw[X3]at h2
  refine XJ (hk ⋯ _ _ ?_)
  refine XJ (ZG (E9 (ks:=q0L ks) (vs:=q0L vs) (E:=E) (κ:=κ) qt (λi j=>lt (kA b vs.length i) (kA b vs.length j))
   (by rw[kat_len];exact λi j k hi hj hk=>tr _ _ _ (kT hi) (kT hj) (kT hk)) (by rw[kat_len];exact λi j hi hj=>as _ _ (kT hi) (kT hj)) (by
    rw[kat_len]
    intro i j hi hj C hC
    rw[qE b ⋯,qE b ⋯,hl]
    exact ao _ _ (kT hi) (kT hj) C hC)) ?_ λ_ _ x=>x)
  rintro⟨⟨⟩,aa⟩ s' ⟨rfl,p,c1,c2,fi,hf⟩
  try dsimp only
  rw[kat_len]at c1
  have ix:∀i∈p,i<vs.length:=λi hi=>by simpa using c1.mem_iff.mp hi
  refine PF (ks:=ks) fi (by rw[XR,c1.length_eq,y06];exact h64) ⋯ hf kz gk ga λh' c k1 k2 k3=>?_
  rw[IM ix]at k2
  exact h _ h' c (G0 c1) (G1 c2) k1 k2 k3
theorem G3{f:n_}{P:PySem.Fin->oa->Prop}(ho:q0C 0=a_ (seqObj "list" vs.toArray n))(h64:vs.length<1000000)(J:o_->Nat->ve n_->Nat->oa->Prop)(h0:∀(kS e1:Nat)(h':r_),(∀x o,x≠a->s.heap.get? x=a_ o->h'.get? x=a_ o)->(c_ s)<=kS->h'.get? a=a_ (seqObj "list" #[] e1)->h'.get? kS=a_ (seqObj "list" #[] 0)->J kS e1 [] 0 {s with heap:=h'})(j6:∀kS e1 ks e s',J kS e1 ks e s'->kS≠a/\s'.heap.get? a=a_ (seqObj "list" #[] e1)/\s'.heap.get? kS=a_ (seqObj "list" ks.toArray e))(turn:∀kS e1 ks e s' x,vs[ks.length]?=a_ x->J kS e1 ks e s'->x_ (call f [x]) (λv b6=>b6.heap.get? kS=a_ (seqObj "list" ks.toArray e)/\∀(h':r_) e',Zv kS b6.heap h'->h'.get? kS=a_ (seqObj "list" (ks++[v]).toArray e')->J kS e1 (ks++[v]) e' { b6 with heap:=h'}) (λ_ _=>False) s')(fin:∀kS e1 ks e s',ks.length=vs.length->J kS e1 ks e s'->∃lt:Nat->Nat->Bool,(∀i j k,i<vs.length->j<vs.length->k<vs.length->lt j i=false->lt k j=false->lt k i=false)/\(∀i j,i<vs.length->j<vs.length->lt i j=true->lt j i=false)/\
   (2<=vs.length->∀(Q:g_ y0e) E',Q κ s'->x_ (keyKind' ks.toArray) Q E' s')/\
   (∀i j,i<vs.length->j<vs.length->∀Q:g_ Bool,Q (lt i j) s'->x_ (keyLt' κ (ks.getD i Yn) (ks.getD j Yn)) Q (λ_ _=>False) s')/\
   ∀(p:W_ 0)(h':r_)(c:Nat),p.Perm (q1w 0)->p.Pairwise (λi j=>(if b then lt i j else lt j i)=false)->(∀x o,x≠a->x≠kS->s'.heap.get? x=a_ o->h'.get? x=a_ o)->
   h'.get? a=a_ (seqObj "list" (p.map λi=>q0u 0).toArray c)->(∃o,h'.get? kS=a_ o)->P (.done (.ret .none)) { s' with heap:=h'}):
  x_ (ksk_tree a f b) P E s:=by
 let ha:a<(c_ s):=XZ ho;let w1:=YB s.heap a (YO λ_=>(#[]:q0p 0));obtain⟨e1,fv⟩:∃e1,(q0g (YO λ_=>(#[]:q0p 0))).get? a=a_ (seqObj "list" #[] e1):=⟨_,y1z ho λ_=>#[]⟩;unfold ksk_tree;refine XJ (listItems_at ho rfl (XJ (y0S ho rfl ?_ (by rw[X3,YL];omega) (YE _))));refine XJ (seqEpoch_at fv rfl (XJ (wpAny_newTuple ?_ (by change vs.length<=_;rw[YL];omega))));refine XJ (wpAny_newList (YZ ?_) (YE _));let Xv:((q0g (YO λ_=>(#[]:q0p 0))).push (seqObj "tuple" vs.toArray 0)).objs.size=(c_ s)+1:=by rw[size_push',y1Z]
 let J0:=h0 ((q0g (YO λ_=>(#[]:q0p 0))).push (seqObj "tuple" vs.toArray 0)).objs.size e1 (((q0g (YO λ_=>(#[]:q0p 0))).push (seqObj "tuple" vs.toArray 0)).push (seqObj "list" #[] 0))
  (λx o hx q=>XO _ (XO _ ((w1.2 x hx).trans q))) (by rw[Xv];show Nat.le_succ _) (XO _ (XO _ fv)) (q0O 0)
 change x_ (ksk_rest a f b vs.toArray e1 (.ref ((q0g (YO λ_=>(#[]:q0p 0))).push (seqObj "tuple" vs.toArray 0)).objs.size)) P E {s with heap:=((q0g (YO λ_=>(#[]:q0p 0))).push (seqObj "tuple" vs.toArray 0)).push (seqObj "list" #[] 0)}
 generalize ((q0g (YO λ_=>(#[]:q0p 0))).push (seqObj "tuple" vs.toArray 0)).objs.size=kS at J0
 revert J0
 generalize ({s with heap:=((q0g (YO λ_=>(#[]:q0p 0))).push (seqObj "tuple" vs.toArray 0)).push (seqObj "list" #[] 0)}:oa)=s0;intro J0;unfold ksk_rest;refine XJ (y0f ?_)
 first
  |rw[List.forIn_toArray]
  |(rw[<-Array.forIn_toList];simp only[List.toList_toArray])
 refine XJ (ksk_fold (λi s'=>∃ks e,ks.length=i/\J kS e1 ks e s') vs 0 s0 ⟨[],0,rfl,J0⟩ ?step ?done)
 case step=>
  rintro j x s' hx ⟨ks,e,hl,hJ⟩;let hj:j<vs.length:=(XN.mp hx).1;let bj:ks.length=j:=⋯;refine XJ (y0t (ZG (turn kS e1 ks e s' x (by rw[bj];show hx) hJ) (λv b6 q=>?_) λ_ _ z=>z.elim));let⟨gk,WM⟩:=q
  try dsimp only
  let w2:=YB b6.heap kS (YO (·.push v));obtain⟨c2,c9⟩:∃c2,(b6.heap.update kS (YO (·.push v))).get? kS=a_ (seqObj "list" (ks.toArray.push v) c2):=⟨_,y1z gk (·.push v)⟩;refine XJ (y0S gk rfl ?_ (by rw[X3,YL];omega) (Y9 (Nat.le_of_eq (Array.size_push ..)) (by rw[X3,YL];omega)));refine XM ⟨rfl,ks++[v],c2,by simp;omega,WM _ c2 w2 ?_⟩;rw[c9];simp
 case done=>
  rintro s' ⟨ks,e,hl,hJ⟩;let bj:ks.length=vs.length:=⋯;let⟨kz,ga,gk⟩:=j6 kS e1 ks e s' hJ;let⟨lt,tr,as,hk,ao,h⟩:=fin kS e1 ks e s' bj hJ
  try dsimp only
  refine XJ (listItems_at gk rfl ?_);show Vh (κ:=κ) lt bj h64 kz tr as gk ga hk ao h
end
open PySem.SeqAt
inductive PV where
 |non|bl (b:Bool)|int (i:Int)|str (x:Str)|tup (xs:ve PV)|ref (n:Nat)|ty (n:String)|fl (xs:ve PV)
mutual
def PV.beq:PV->PV->Bool
 |.non,.non=>true
 |.bl a,.bl b=>a == b
 |.int a,.int b=>a == b
 |.str a,.str b=>a == b
 |.tup a,.tup b=>PV.beqs a b
 |.ref a,.ref b=>a == b
 |.ty a,.ty b=>a == b
 |.fl a,.fl b=>PV.beqs a b
 |_,_=>false
def PV.beqs:ve PV->ve PV->Bool
 |[],[]=>true
 |x::xs,y::ys=>PV.beq x y&&PV.beqs xs ys
 |_,_=>false
end
mutual
theorem PV.beq_self:∀x:PV,PV.beq x x=true
 |.non=>rfl
 |.bl a=>by simp[PV.beq]
 |.int a=>by simp[PV.beq]
 |.str a=>by simp[PV.beq]
 |.tup a=>by simp only[PV.beq];show PV.beqs_self a
 |.ref a=>by simp[PV.beq]
 |.ty a=>by simp[PV.beq]
 |.fl a=>by simp only[PV.beq];show PV.beqs_self a
theorem PV.beqs_self:∀x:ve PV,PV.beqs x x=true
 |[]=>rfl
 |x::xs=>by simp only[PV.beqs,PV.beq_self x,PV.beqs_self xs,Bool.and_self]
end
mutual
theorem PV.beq_eq:∀{x y:PV},PV.beq x y=true->x=y
 |.non,y,h=>by cases y <;> first|rfl|(simp[PV.beq]at h)
 |.bl a,y,h=>by cases y <;> first|(simp[PV.beq]at h;rw[h])|(simp[PV.beq]at h)
 |.int a,y,h=>by cases y <;> first|(simp[PV.beq]at h;rw[h])|(simp[PV.beq]at h)
 |.str a,y,h=>by cases y <;> first|(simp[PV.beq]at h;rw[h])|(simp[PV.beq]at h)
 |.tup a,y,h=>by
  cases y with
  |tup b=>simp only[PV.beq]at h;rw[PV.beqs_eq h]
  |_=>simp[PV.beq]at h
 |.ref a,y,h=>by cases y <;> first|(simp[PV.beq]at h;rw[h])|(simp[PV.beq]at h)
 |.ty a,y,h=>by cases y <;> first|(simp[PV.beq]at h;rw[h])|(simp[PV.beq]at h)
 |.fl a,y,h=>by
  cases y with
  |fl b=>simp only[PV.beq]at h;rw[PV.beqs_eq h]
  |_=>simp[PV.beq]at h
theorem PV.beqs_eq:∀{x y:ve PV},PV.beqs x y=true->x=y
 |[],y,h=>by cases y <;> first|rfl|(simp[PV.beqs]at h)
 |x::xs,y,h=>by
  cases y with
  |nil=>simp[PV.beqs]at h
  |cons y ys=>simp only[PV.beqs,YU]at h;rw[PV.beq_eq h.1,PV.beqs_eq h.2]
end
instance:DecidableEq PV:=λx y=>match h:PV.beq x y with
 |true=>isTrue (PV.beq_eq h)
 |false=>isFalse λe=>by rw[e,PV.beq_self]at h;cases h
def PV.ky:Nat->PV->Bool
 |_,.int _=>true
 |_,.str _=>true
 |n+1,.tup xs=>xs.all (PV.ky n)
 |_,_=>false
section
variable(w:s_)
mutual
def hsh:PV->Int
 |.int i=>Q4 w (.inl i)
 |.str x=>Q4 w (.inr x)
 |.tup xs=>reduceHash (Zq (yN xs))
 |_=>0
def yN:ve PV->ve Int
 |[]=>[]
 |x::xs=>hsh x::yN xs
end
end
mutual
def drw:PV->Nat
 |.tup xs=>El xs+1
 |_=>1
def El:ve PV->Nat
 |[]=>0
 |x::xs=>drw x+El xs
end
mutual
def HR(h:r_):PV->n_->Prop
 |.int i,v=>∃t,v=.int i t
 |.str x,v=>∃t,v=.str x t
 |.tup ps,v=>∃a its,v=.ref a/\IsTup h a its.toArray/\HRs h ps its
 |_,_=>False
def HRs(h:r_):ve PV->ve n_->Prop
 |[],[]=>True
 |p::ps,v::vs=>HR h p v/\HRs h ps vs
 |[],_::_=>False
 |_::_,[]=>False
end
theorem HRs.length{h:r_}:∀{ps:ve PV}{vs:ve n_},HRs h ps vs->ps.length=vs.length
 |[],[],_=>rfl
 |_::_,_::_,r=>congrArg (·+1) (HRs.length r.2)
 |[],_::_,r=>r.elim
 |_::_,[],r=>r.elim
theorem HRs.at{h:r_}:∀{ps:ve PV}{vs:ve n_}{j:Nat}{p:PV},HRs h ps vs->ps[j]?=a_ p->∃v,vs[j]?=a_ v/\HR h p v
 |[],[],_,_,_,e=>by simp at e
 |q::_,v::_,0,p,r,e=>by
  have:q=p:=by simpa using e
  subst this;show⟨v,rfl,r.1⟩
 |_::ps,_::vs,j+1,p,r,e=>by
  let⟨v,h1,h2⟩:=HRs.at (ps:=ps) (vs:=vs) (j:=j) (p:=p) r.2 (i_ e);show⟨v,i_ h1,h2⟩
 |[],_::_,_,_,r,_=>r.elim
 |_::_,[],_,_,r,_=>r.elim
theorem IP{h:r_}{x y:q0p 0}(p:IsTup h a x)(q:IsTup h a y):x=y:=by let⟨o,ho,_,n,hd⟩:=p;let⟨o',cg,_,n',cj⟩:=q;obtain rfl:o=o':=Yp (ho.symm.trans cg);rw[hd]at cj;injection cj
mutual
theorem HR.one{h:r_}:∀{p q:PV}{v:n_},HR h p v->HR h q v->p=q
 |.int i,q,v,r,r'=>by
  let⟨t,rfl⟩:=r;cases q with
  |int j=>let⟨t',e⟩:=r';injection e with e;rw[e]
  |str j=>let⟨t',e⟩:=r';cases e
  |tup j=>let⟨_,_,e,_⟩:=r';cases e
  |_=>exact r'.elim
 |.str i,q,v,r,r'=>by
  let⟨t,rfl⟩:=r;cases q with
  |int j=>let⟨t',e⟩:=r';cases e
  |str j=>let⟨t',e⟩:=r';injection e with e;rw[e]
  |tup j=>let⟨_,_,e,_⟩:=r';cases e
  |_=>exact r'.elim
 |.tup ps,q,v,r,r'=>by
  let⟨a,its,rfl,p,rs⟩:=r;cases q with
  |int j=>let⟨t',e⟩:=r';cases e
  |str j=>let⟨t',e⟩:=r';cases e
  |tup qs=>
   let⟨b,its',e,p',de⟩:=r';cases e
   have:its=its':=by simpa using congrArg Array.toList (IP p p')
   subst this;rw[HRs.one rs de]
  |_=>exact r'.elim
 |.non,_,_,r,_=>r.elim
 |.bl _,_,_,r,_=>r.elim
 |.ref _,_,_,r,_=>r.elim
 |.ty _,_,_,r,_=>r.elim
 |.fl _,_,_,r,_=>r.elim
theorem HRs.one{h:r_}:∀{ps qs:ve PV}{vs:ve n_},HRs h ps vs->HRs h qs vs->ps=qs
 |[],[],[],_,_=>rfl
 |p::ps,q::qs,v::vs,r,r'=>by rw[HR.one r.1 r'.1,HRs.one r.2 r'.2]
 |[],_::_,[],_,r=>r.elim
 |[],_,_::_,r,_=>r.elim
 |_::_,_,[],r,_=>r.elim
 |_::_,[],_::_,_,r=>r.elim
end
theorem G4{h:r_}{d:o_}{o:Obj}{es ep}{x:q0p 0}(p:IsTup h a x)(ho:h.get? d=a_ o)(hd:o.data=.dict es ep)(hs:Zv d h h'):IsTup h' a x:=by
 let⟨q,hq,hc,n,i6⟩:=p;let ne:a≠d:=by rintro rfl;obtain rfl:q=o:=Yp (hq.symm.trans ho);rw[hd]at i6;cases i6
 show⟨q,(hs.2 a ne).trans hq,hc,n,i6⟩
mutual
theorem HR.keep{h h':r_}(k:∀a x,IsTup h a x->IsTup h' a x):∀{p:PV}{v:n_},HR h p v->HR h' p v
 |.int i,v,r=>r
 |.str i,v,r=>r
 |.tup ps,v,⟨a,its,e,p,rs⟩=>⟨a,its,e,k _ _ p,HRs.keep k rs⟩
 |.non,_,r=>r.elim
 |.bl _,_,r=>r.elim
 |.ref _,_,r=>r.elim
 |.ty _,_,r=>r.elim
 |.fl _,_,r=>r.elim
theorem HRs.keep{h h':r_}(k:∀a x,IsTup h a x->IsTup h' a x):∀{ps:ve PV}{vs:ve n_},HRs h ps vs->HRs h' ps vs
 |[],[],_=>trivial
 |_::_,_::_,r=>⟨HR.keep k r.1,HRs.keep k r.2⟩
 |[],_::_,r=>r.elim
 |_::_,[],r=>r.elim
end
theorem Kt:∀(n:Nat){A:q_}{E:d_ 0}{s:oa}{p:PV}{v:n_}{Q:g_ Int},p.ky n=true->A.units+n<cLine->q1t p v->Q (hsh w p) { s with toks:=s.toks+drw p}->
  x_ (pyHash v) Q E s:=by
 intro n
 induction n with
 |zero=>
  intro A E s p v Q hk hu r h;cases p with
  |int i=>let⟨t,rfl⟩:=r;show wpAny_pyHash_int h
  |str i=>let⟨t,rfl⟩:=r;show wpAny_pyHash_str h
  |_=>cases hk
 |succ n ih=>
  intro A E s p v Q hk hu r h;cases p with
  |int i=>let⟨t,rfl⟩:=r;show wpAny_pyHash_int h
  |str i=>let⟨t,rfl⟩:=r;show wpAny_pyHash_str h
  |tup ps=>
   let⟨a,its,rfl,⟨o,ho,hc,m,hd⟩,rs⟩:=r;let g9:∀q∈ps,q.ky n=true:=Yy.mp hk;let hT:s.TypeIs (.ref a) "tuple" := ⟨o,ho,hc⟩;unfold pyHash;unfold pyHashByItsType;refine XJ (wpAny_cRoomFor_or (.inr (show A.units<cLine by omega)) (XJ (y1y hT F.slot_tuple_hash.lookup ?_)))
   change z_ (if((a_ (Value.builtin "tuple.__hash__"):v_ n_) == a_ Yn)=true then _ else _) Q E s
   rw[if_neg (show ¬ _ from by rw[beq_builtin_none];decide)]
   refine XJ (y1y hT F.slot_tuple_hash.lookup (show z_ (callSpecialIfBoundUnlessNone? (.ref a) "__hash__" _ >>= _) Q E s from ?_))
   refine XJ (wpAny_callSpecialIfBoundUnlessNone?_slot hT F.slot_tuple_hash (Y1 F.slot_tuple_hash hT F.entry_tuple_hash (show z_ (y1N (.ref a) >>= _) _ _ s from ?_) (F.args_tuple_hash_1 _)))
   refine XJ (wpAny_tupleItemsOf ho hd (XJ ?_));rw[<-Array.forIn_toList];refine wpAny_forIn_list _ (λrest (b:Array Int) s'=>∃left,HRs s.heap left rest/\(∀q∈left,q.ky n=true)/\b.toList++yN w left=yN w ps/\s'.heap=s.heap/\s'={ s with toks:=s'.toks}/\s'.toks+El left=s.toks+El ps) _ ?turn ?stop _ _ ⟨ps,rs,g9,rfl,rfl,rfl,rfl⟩
   case turn=>
    rintro x rest b s' ⟨left,rl,kl,eb,eh,es,et⟩;cases left with
    |nil=>exact rl.elim
    |cons q left=>
     let r1:HR s'.heap q x:=by rw[eh];show rl.1
     refine XJ (ih (kl q XY) (show A.units+1+n<cLine by omega) r1 (XM ?_));refine⟨left,rl.2,λz hz=>kl z (XW _ hz),?_,eh,?_,?_⟩
     ·rw[<-eb];simp[yN]
     ·rw[es]
     ·rw[<-et]
      change s'.toks+drw q+El left=s'.toks+(drw q+El left)
      omega
   case stop=>
    rintro b s' ⟨left,rl,kl,eb,eh,es,et⟩;cases left with
    |cons q left=>exact rl.elim
    |nil=>
     let Wo:b.toList=yN w ps:=by rw[<-eb];simp[yN]
     let W7:s'.toks=s.toks+El ps:=et
     change z_ (retInt (Zq b.toList)) _ _ _
     rw[Wo,es];refine wpAny_ret_mkInt ?_
     change z_ (if(decide (-(2:Int) ^ 63<=Zq (yN w ps))&&decide (Zq (yN w ps)<2 ^ 63))=true then _ else _) Q E _
     let h':Q (reduceHash (Zq (yN w ps))) { s with toks:=s.toks+(El ps+1)}:=h;unfold reduceHash at h';rw[W7];by_cases hr:(decide (-(2:Int) ^ 63<=Zq (yN w ps))&&decide (Zq (yN w ps)<2 ^ 63))=true
     ·rw[if_pos hr]at h'⊢;show XM (by simpa[Nat.add_assoc] using h')
     ·rw[if_neg hr]at h'⊢;show XJ (y0f (XM (by simpa[Nat.add_assoc] using h')))
  |_=>cases hk
theorem R3:∀(n:Nat){A:q_}{s:oa}{p q:PV}{v u:n_},p.ky n=true->q.ky n=true->A.units+n<cLine->q1t p v->q1t q u->RcAt A s v u (decide (p=q)):=by
 intro n
 induction n with
 |zero=>
  intro A s p q v u hp hq hu r r';cases p with
  |int i=>
   let⟨t,rfl⟩:=r;cases q with
   |int j=>let⟨t',rfl⟩:=r';have:=RcAt.int_int (A:=A) (s:=s) i t j t';rwa[show decide (PV.int i=PV.int j)=(i == j) by simp[y1E]]
   |str j=>let⟨t',rfl⟩:=r';show RcAt.int_str i t j t'
   |_=>cases hq
  |str i=>
   let⟨t,rfl⟩:=r;cases q with
   |int j=>let⟨t',rfl⟩:=r';show RcAt.str_int i t j t'
   |str j=>let⟨t',rfl⟩:=r';have:=RcAt.str_str (A:=A) (s:=s) i t j t';rwa[show decide (PV.str i=PV.str j)=(i == j) by simp[y1E]]
   |_=>cases hq
  |_=>cases hp
 |succ n ih=>
  intro A s p q v u hp hq hu r r';cases p with
  |int i=>
   let⟨t,rfl⟩:=r;cases q with
   |int j=>let⟨t',rfl⟩:=r';have:=RcAt.int_int (A:=A) (s:=s) i t j t';rwa[show decide (PV.int i=PV.int j)=(i == j) by simp[y1E]]
   |str j=>let⟨t',rfl⟩:=r';show RcAt.int_str i t j t'
   |tup js=>let⟨b,its,rfl,p',_⟩:=r';show RcAt.int_tuple i t p' ⋯
   |_=>cases hq
  |str i=>
   let⟨t,rfl⟩:=r;cases q with
   |int j=>let⟨t',rfl⟩:=r';show RcAt.str_int i t j t'
   |str j=>let⟨t',rfl⟩:=r';have:=RcAt.str_str (A:=A) (s:=s) i t j t';rwa[show decide (PV.str i=PV.str j)=(i == j) by simp[y1E]]
   |tup js=>let⟨b,its,rfl,p',_⟩:=r';show RcAt.str_tuple i t p' ⋯
   |_=>cases hq
  |tup ps=>
   let⟨a,its,rfl,ta,rs⟩:=r;cases q with
   |int j=>let⟨t',rfl⟩:=r';show RcAt.tuple_int j t' ta ⋯
   |str j=>let⟨t',rfl⟩:=r';show RcAt.tuple_str j t' ta ⋯
   |tup qs=>
    let⟨b,its',rfl,tb,de⟩:=r';let kp:∀z∈ps,z.ky n=true:=Yy.mp hp;let kq:∀z∈qs,z.ky n=true:=Yy.mp hq;let l1:=rs.length;let l2:=de.length;let key:=RcAt.tuples (A:=A) (e:=λj=>match ps[j]?,qs[j]? with|some x,a_ y=>decide (x=y)|_,_=>false) ta tb ⋯ (λj h1 h2=>by
     let ie:j<ps.length:=by simp at h1;omega
     let cy:j<qs.length:=by simp at h2;omega
     let g1:ps[j]?=a_ ps[j]:=by simp[ie]
     let g2:qs[j]?=a_ qs[j]:=by simp[cy]
     let⟨xu,jc,cw⟩:=rs.at g1;let⟨yu,jf,ba⟩:=de.at g2;let e1:its.toArray[j]=xu:=by simpa using(XN.mp jc).2
     let e2:its'.toArray[j]=yu:=by simpa using(XN.mp jf).2
     rw[e1,e2];simp only[g1,g2];refine iR (ih (kp _ (Yw ie)) (kq _ (Yw cy)) (show A.units+1+n<cLine by omega) cw ba) (λev=>?_) (λf t e=>?_)
     ·subst ev;rw[HR.one cw ba];show decide_eq_true rfl
     ·subst e;generalize ps[j]=z at cw;cases z with
      |int i=>let⟨_,e⟩:=cw;cases e
      |str i=>let⟨_,e⟩:=cw;cases e
      |tup i=>let⟨_,_,e,_⟩:=cw;cases e
      |_=>exact cw.elim)
    let sz:((YN (min its.toArray.size its'.toArray.size)).all (λj=>match ps[j]?,qs[j]? with|some x,a_ y=>decide (x=y)|_,_=>false)&&its.toArray.size == its'.toArray.size)=decide (PV.tup ps=PV.tup qs):=by
     let a1:its.toArray.size=ps.length:=by simp;omega
     let a2:its'.toArray.size=qs.length:=by simp;omega
     rw[a1,a2,Y3];simp only[YU,Yy,y1P,beq_iff_eq,decide_eq_true_eq,PV.tup.injEq];constructor
     ·rintro⟨hall,hlen⟩;apply List.ext_getElem hlen;intro i hi bf;have:=hall i ⋯;simpa[hi,bf] using this
     ·rintro rfl;refine⟨λx hx=>?_,rfl⟩;have:x<ps.length:=⋯;simp[this]
    rw[<-sz];show key
   |_=>cases hq
  |_=>cases hp
variable{p:PV}
theorem HR.noflt{h:r_}(r:HR h p v):∀f t,v≠.float f t:=λf t e=>by
 subst e;cases p with
 |int i=>let⟨_,e⟩:=r;cases e
 |str i=>let⟨_,e⟩:=r;cases e
 |tup i=>let⟨_,_,e,_⟩:=r;cases e
 |_=>exact r.elim
theorem G5{q:PV}(hp:p.ky n=true)(hq:q.ky n=true)(hu:A.units+n<cLine)(r:q1t p v)(r':q1t q u):EqAt A s v u (decide (p=q)):=iR (R3 n hp hq hu r r') (λev=>by subst ev;rw[HR.one r r'];show decide_eq_true rfl) r.noflt
theorem IQ:∀(n m:Nat){A:q_}{E:d_ 0}{s:oa}{p:PV}{v:n_}{Q:g_ Bool},p.ky n=true->n<=m->q1t p v->Q true s->x_ (eqIsQuiet m v) Q E s:=by
 intro n
 induction n with
 |zero=>
  intro m A E s p v Q hk hm r h;cases p with
  |int i=>let⟨t,rfl⟩:=r;rw[eqIsQuiet_byValue _ rfl];show XM h
  |str i=>let⟨t,rfl⟩:=r;rw[eqIsQuiet_byValue _ rfl];show XM h
  |_=>cases hk
 |succ n ih=>
  intro m A E s p v Q hk hm r h;cases p with
  |int i=>let⟨t,rfl⟩:=r;rw[eqIsQuiet_byValue _ rfl];show XM h
  |str i=>let⟨t,rfl⟩:=r;rw[eqIsQuiet_byValue _ rfl];show XM h
  |tup ps=>
   let⟨a,its,rfl,⟨o,ho,hc,m',hd⟩,rs⟩:=r;let g9:∀q∈ps,q.ky n=true:=Yy.mp hk;let hT:s.TypeIs (.ref a) "tuple" := ⟨o,ho,hc⟩;obtain⟨m,rfl⟩:∃j,m=j+1:=⟨m-1,⋯⟩;unfold eqIsQuiet;refine XJ (y1y hT F.slot_tuple_eq.lookup (show z_ (isInstance (.ref a) (.type "tuple") >>= _) _ _ s from ?_))
   refine XJ (ZY hT isSubtype_tuple_tuple ?_);simp only[Bool.not_true,YG,if_false];refine XJ (y1m ho hd (XJ (show z_ (forIn its.toArray _ _) _ _ s from ?_)));rw[<-Array.forIn_toList]
   refine wpAny_forIn_list _ (λrest r s'=>r.1=b_/\s'=s/\∃left,HRs s.heap left rest/\∀q∈left,q.ky n=true) _ ?_ ?_ _ _ ⟨rfl,rfl,ps,rs,g9⟩
   ·rintro v rest r s' ⟨hr,rfl,left,rl,kl⟩;cases left with
    |nil=>exact rl.elim
    |cons q left=>refine XJ (ih m (kl q XY) ⋯ rl.1 ?_);simp only[Bool.not_true,YG,if_false];show XM ⟨rfl,rfl,left,rl.2,λz hz=>kl z (XW _ hz)⟩
   ·rintro⟨r1,r2⟩ s' ⟨hr,rfl,_⟩;simp only at hr;subst hr;show XM h
  |_=>cases hk
def BP(prog:td)(w:s_):HeapKind prog w PV where
 is:=λh p a=>p.ky 6=true/\HR h p (.ref a)
 hash:=hsh w
 draws:=drw
 room:=λA=>A.units+6<cLine
 inj:=λx y=>HR.one x.2 y.2
 keeps:=λx ho hd hs=>⟨x.1,HR.keep (λa it p=>G4 p ho hd hs) x.2⟩
 pyHash:=λhu x h=>Kt 6 x.1 hu x.2 h
 eqBool:=λhu x y h=>G5 x.1 y.1 hu x.2 y.2 _ _ _ _ h
 quiet:=λx h=>IQ 6 8 x.1 ⋯ x.2 h
def dDO(w:s_)(a:o_)(ks:ve (PV×o_×V)):HO:=.ext λh=>ks.length<=X5/\(a == Zf)=false/\∃xs:ve (PV×o_×n_),
 Paired (λ(p:PV×o_×V)(q:PV×o_×n_)=>p.1=q.1/\p.2.1=q.2.1/\RelV p.2.2 q.2.2) ks xs/\
 ∃o es ep,h.get? a=a_ o/\o.ExactDict/\o.data=.dict es ep/\es.toList=xs.map (λx=>(⟨hsh w x.1,.ref x.2.1,x.2.2⟩:y0o))/\(xs.map (·.1)).Nodup
def Ku(kd:Nat)(v d:o_):HO:=.ext λh=>match kd with
 |0=>h.IsItemsView v d
 |1=>h.IsValuesView v d
 |_=>∃o,h.get? v=a_ o/\o.cls=.type "dict_keys" /\ o.data=.fields #[.ref d]
inductive MO where
 |lst (xs:ve PV)
 |dK (kvs:ve (Key×PV))
 |ins (C:Str) (fs:ve (Str×PV))
 |dD (kvs:ve (PV×PV))
 |vw (kd d:Nat)
 |fz (o:MO)
abbrev PH:=ve MO
abbrev Ev:=ve (v_ PV)
structure PX where
 cls:Str
 fs:ve (Str×PV)
inductive Rs(α:Type) where
 |ok (a:α) (h:PH)
 |exc (x:PX) (h:PH)
 |bad
inductive Fl where
 |nx (δ:Ev) (h:PH)
 |rt (p:PV) (h:PH)
 |bk (δ:Ev) (h:PH)
 |ct (δ:Ev) (h:PH)
 |exc (x:PX) (h:PH)
 |bad
abbrev Me:=Ev->PH->Rs PV
abbrev Ms:=Ev->PH->Fl
abbrev Fn:=ve PV->PH->Rs PV
def Rs.bind{α β:Type}(r:Rs α)(f:α->PH->Rs β):Rs β:=match r with
 |.ok a h=>f a h
 |.exc x h=>.exc x h
 |.bad=>.bad
@[simp]theorem Rs.bind_ok{α β:Type}(a:α)(h:PH)(f:α->PH->Rs β):(Rs.ok a h).bind f=f a h:=rfl
@[simp]theorem Rs.bind_exc{α β:Type}(x:PX)(h:PH)(f:α->PH->Rs β):(Rs.exc x h:Rs α).bind f=.exc x h:=rfl
@[simp]theorem Rs.bind_bad{α β:Type}(f:α->PH->Rs β):(Rs.bad:Rs α).bind f=.bad:=rfl
structure MC where
 K:XQ
 cl:Str->v_ o_
 bs:ve Str
 ex:ve o_->Hp->PX->Prop
 w:s_
def SqF(K:XQ)(H:Hp)(a:o_)(xs:ve V):Prop:=
 (∃o,H a=a_ (.frz o (.lst xs)))\/
  ∃(o:Obj)(its:q0p 0)(n:Nat),K.lookup a=a_ o/\o.cls=.type "list" /\ o.dict=b_/\o.data=.seq its n/\its.size<=X5/\aW xs its.toList
theorem SqF.sq{xs:ve V}(h:SqF K H a xs):q0S a xs:=by
 rcases h with⟨o,h⟩|h
 ·show .inl (.inr ⟨o,h⟩)
 ·show .inr h
def Kp(H H':Hp):Prop:=oI H H'/\∀a o u,H a=a_ (.frz o u)->H' a=a_ (.frz o u)
theorem Kp.refl(H:Hp):Kp H H:=⟨oI.refl H,λ_ _ _ h=>h⟩
theorem Kp.trans(a:Kp H H1)(b:Kp H1 H2):Kp H H2:=⟨a.1.trans b.1,λc o u h=>b.2 c o u (a.2 c o u h)⟩
theorem Kp.same(s:zT H H'):Kp H H':=⟨oI.same s,λ_ _ _ h=>s _ _ h⟩
theorem Kp.new(h:H a=b_):Kp H (q0r a o):=Kp.same (zT.upd h)
theorem Kp.upd{p:o_}(h:Ed (H p)):Kp H (q0r p o):=⟨oI.upd h,λa ob u q=>by
 let ne:a≠p:=by rintro rfl;rw[q]at h;show h
 rw[aS ne];show q⟩
theorem Kp.lst{p:o_}{xs:ve V}(h:H p=a_ (.lst xs)):Kp H (L2.upd H p o):=Kp.upd (by rw[h];trivial)
theorem Kp.dK{p:o_}{xs:ve (Key×V)}(h:H p=a_ (.dK xs)):Kp H (L2.upd H p o):=Kp.upd (by rw[h];trivial)
theorem Kp.sq{xs:ve V}(t:Kp H H')(h:q1b a xs):SqT K H' a xs:=t.1.sq h
theorem Kp.sf{xs:ve V}(t:Kp H H')(h:SqF K H a xs):SqF K H' a xs:=by
 rcases h with⟨o,h⟩|h
 ·show .inl ⟨o,t.2 _ _ _ h⟩
 ·show .inr h
section
variable(C:MC)(φ:ve o_)(H:Hp)
mutual
def RV:PV->V->Prop
 |.non,v=>v=.non
 |.bl b,v=>v=.bl b
 |.int i,v=>v=.int i
 |.str x,v=>v=.str x
 |.ty n,v=>v=.ty n
 |.tup ps,v=>∃a vs,v=.ref a/\SqT C.K H a vs/\RVs ps vs
 |.ref n,v=>∃a,v=.ref a/\φ[n]?=a_ a
 |.fl ps,v=>∃a vs,v=.ref a/\SqF C.K H a vs/\RVs ps vs
def RVs:ve PV->ve V->Prop
 |[],[]=>True
 |p::ps,v::vs=>RV p v/\RVs ps vs
 |[],_::_=>False
 |_::_,[]=>False
end
def RKv{κ:Type}:ve (κ×PV)->ve (κ×V)->Prop:=Paired λp q=>p.1=q.1/\y_ p.2 q.2
def RKd:ve (PV×PV)->ve (PV×o_×V)->Prop:=Paired λp q=>p.1=q.1/\p.1.ky 6=true/\y_ p.1 (.ref q.2.1)/\y_ p.2 q.2.2
def RO(a:o_):MO->Prop
 |.lst ps=>∃vs,H a=a_ (.lst vs)/\C_ ps vs
 |.dK kvs=>∃ks,H a=a_ (.dK ks)/\q1e kvs ks
 |.ins n fs=>∃c dx ks,C.cl n=a_ c/\H a=a_ (.ins c dx ks)/\q1e fs ks
 |.dD kvs=>∃ks,H a=a_ (dDO C.w a ks)/\q0V 0
 |.vw kd d=>∃b,φ[d]?=a_ b/\H a=a_ (Ku kd a b)
 |.fz (.dK kvs)=>∃ob ks,H a=a_ (.frz ob (.dK ks))/\q1e kvs ks
 |.fz (.dD kvs)=>∃ob ks,H a=a_ (.frz ob (dDO C.w a ks))/\q0V 0
 |.fz _=>False
structure RH(h:PH):Prop where
 len:φ.length=h.length
 nd:φ.Nodup
 at':∀(n:Nat)(a:o_)(o:MO),φ[n]?=some a->h[n]?=some o->RO C φ H a o
def RE(δ:Ev)(σ:St):Prop:=δ.length=σ.length/\∀(i:Nat)(p:PV),δ[i]?=a_ (a_ p)->∃v,σ[i]?=a_ (a_ v)/\y_ p v
end
theorem kF{α:Type}{l l':ve α}(p:l<+:l'){a:α}(h:l[n]?=a_ a):l'[n]?=a_ a:=by let⟨t,rfl⟩:=p;have:=(XN.mp h).1;rw[Yb this];show h
def Kq(H H':Hp):Prop:=oI H H'/\∀a o xs,H a=a_ (.frz o (.lst xs))->H' a=a_ (.frz o (.lst xs))
theorem Kp.q(t:Kp H H'):Kq H H':=⟨t.1,λa o xs h=>t.2 a o _ h⟩
theorem Kq.sq{xs:ve V}(t:Kq H H')(h:q1b a xs):SqT K H' a xs:=t.1.sq h
theorem Kq.sf{xs:ve V}(t:Kq H H')(h:SqF K H a xs):SqF K H' a xs:=by
 rcases h with⟨o,h⟩|h
 ·show .inl ⟨o,t.2 _ _ _ h⟩
 ·show .inr h
mutual
theorem RV.monoQ(p:φ<+:φ')(t:Kq H H'):∀{x:PV}{v:V},y_ x v->RV C φ' H' x v
 |.non,_,h=>h
 |.bl _,_,h=>h
 |.int _,_,h=>h
 |.str _,_,h=>h
 |.ty _,_,h=>h
 |.tup _,_,⟨a,vs,e,q,r⟩=>⟨a,vs,e,t.sq q,RVs.monoQ p t r⟩
 |.ref _,_,⟨a,e,q⟩=>⟨a,e,kF p q⟩
 |.fl _,_,⟨a,vs,e,q,r⟩=>⟨a,vs,e,t.sf q,RVs.monoQ p t r⟩
theorem RVs.monoQ(p:φ<+:φ')(t:Kq H H'):∀{xs:ve PV}{vs:ve V},C_ xs vs->RVs C φ' H' xs vs
 |[],[],_=>trivial
 |_::_,_::_,⟨h,r⟩=>⟨RV.monoQ p t h,RVs.monoQ p t r⟩
 |[],_::_,h=>h.elim
 |_::_,[],h=>h.elim
end
variable{C:MC}{φ φ':ve o_}
theorem RV.mono(p:φ<+:φ')(t:Kp H H'){x:PV}{v:V}(h:y_ x v):RV C φ' H' x v:=RV.monoQ p t.q h
variable{xs:ve PV}
theorem RVs.mono(p:φ<+:φ')(t:Kp H H'){vs:ve V}(h:C_ xs vs):RVs C φ' H' xs vs:=RVs.monoQ p t.q h
theorem RVs.length:∀{xs:ve PV}{vs:ve V},C_ xs vs->xs.length=vs.length
 |[],[],_=>rfl
 |_::_,_::_,⟨_,r⟩=>by simp[RVs.length r]
 |[],_::_,h=>h.elim
 |_::_,[],h=>h.elim
theorem RVs.get:∀{xs:ve PV}{vs:ve V}{i:Nat}{v:V},C_ xs vs->vs[i]?=a_ v->∃x,xs[i]?=a_ x/\y_ x v
 |[],[],_,_,_,e=>by simp at e
 |x::_,w::_,0,v,⟨h,_⟩,e=>by
  have:w=v:=by simpa using e
  subst this;show⟨x,rfl,h⟩
 |_::xs,_::vs,i+1,v,⟨_,r⟩,e=>by
  let⟨x,h1,h2⟩:=RVs.get (xs:=xs) (vs:=vs) (i:=i) (v:=v) r (i_ e);show⟨x,i_ h1,h2⟩
 |[],_::_,_,_,h,_=>h.elim
 |_::_,[],_,_,h,_=>h.elim
theorem RVs.at:∀{xs:ve PV}{vs:ve V}{i:Nat}{x:PV},C_ xs vs->xs[i]?=a_ x->∃v,vs[i]?=a_ v/\y_ x v
 |[],[],_,_,_,e=>by simp at e
 |x::_,w::_,0,x',⟨h,_⟩,e=>by
  have:x=x':=by simpa using e
  subst this;show⟨w,rfl,h⟩
 |_::xs,_::vs,i+1,x,⟨_,r⟩,e=>by
  let⟨v,h1,h2⟩:=RVs.at (xs:=xs) (vs:=vs) (i:=i) (x:=x) r (i_ e);show⟨v,i_ h1,h2⟩
 |[],_::_,_,_,h,_=>h.elim
 |_::_,[],_,_,h,_=>h.elim
theorem RVs.append:∀{xs ys:ve PV}{vs us:ve V},C_ xs vs->C_ ys us->C_ (xs++ys) (vs++us)
 |[],_,[],_,_,h=>h
 |_::_,_,_::_,_,⟨h,r⟩,h'=>⟨h,RVs.append r h'⟩
 |[],_,_::_,_,h,_=>h.elim
 |_::_,_,[],_,h,_=>h.elim
theorem RVs.snoc{vs:ve V}{x:PV}{v:V}(r:C_ xs vs)(h:y_ x v):C_ (xs++[x]) (vs++[v]):=r.append ⟨h,trivial⟩
theorem RVs.drop:∀{xs:ve PV}{vs:ve V}(n:Nat),C_ xs vs->C_ (xs.drop n) (vs.drop n)
 |_,_,0,h=>h
 |[],[],_+1,_=>trivial
 |_::_,_::_,n+1,⟨_,r⟩=>RVs.drop n r
 |[],_::_,_+1,h=>h.elim
 |_::_,[],_+1,h=>h.elim
theorem RVs.take:∀{xs:ve PV}{vs:ve V}(n:Nat),C_ xs vs->C_ (xs.take n) (vs.take n)
 |[],[],0,_=>trivial
 |_::_,_::_,0,_=>trivial
 |[],[],_+1,_=>trivial
 |_::_,_::_,n+1,⟨h,r⟩=>⟨h,RVs.take n r⟩
 |[],_::_,_,h=>h.elim
 |_::_,[],_,h=>h.elim
theorem RVs.set{x:PV}{v:V}(h:y_ x v):∀{xs:ve PV}{vs:ve V}(n:Nat),C_ xs vs->C_ (xs.set n x) (vs.set n v)
 |[],[],_,_=>trivial
 |_::_,_::_,0,⟨_,r⟩=>⟨h,r⟩
 |_::_,_::_,n+1,⟨q,r⟩=>⟨q,RVs.set h n r⟩
 |[],_::_,_,h=>h.elim
 |_::_,[],_,h=>h.elim
theorem RKv.monoQ{κ:Type}(p:φ<+:φ')(t:Kq H H'){x:ve (κ×PV)}{v:ve (κ×V)}(h:q1e x v):RKv C φ' H' x v:=Paired.mapP h λ_ _ q=>⟨q.1,q.2.monoQ p t⟩
theorem RKd.monoQ(p:φ<+:φ')(t:Kq H H'){x:ve (PV×PV)}{v:ve (PV×o_×V)}(h:RKd C φ H x v):RKd C φ' H' x v:=Paired.mapP h λ_ _ q=>⟨q.1,q.2.1,q.2.2.1.monoQ p t,q.2.2.2.monoQ p t⟩
theorem RKv.mono{κ:Type}(p:φ<+:φ')(t:Kp H H'){x:ve (κ×PV)}{v:ve (κ×V)}(h:q1e x v):RKv C φ' H' x v:=Paired.mapP h λ_ _ q=>⟨q.1,q.2.mono p t⟩
theorem RKd.mono(p:φ<+:φ')(t:Kp H H'){x:ve (PV×PV)}{v:ve (PV×o_×V)}(h:RKd C φ H x v):RKd C φ' H' x v:=Paired.mapP h λ_ _ q=>⟨q.1,q.2.1,q.2.2.1.mono p t,q.2.2.2.mono p t⟩
variable{δ:Ev}
theorem RE.mono(p:φ<+:φ')(t:Kp H H'){σ:St}(h:q0v 0):RE C φ' H' δ σ:=⟨h.1,λi x e=>let ⟨v,q,r⟩:=h.2 i x e;⟨v,q,r.mono p t⟩⟩
theorem RE.set{σ:St}{x:PV}{v:V}(h:q0v 0)(r:y_ x v)(i:Nat):RE C φ H (δ.set i (a_ x)) (σ.set i (a_ v)):=by
 refine⟨by rw[Zm,Zm];show h.1,λj p e=>?_⟩;by_cases hj:i=j
 ·subst hj;by_cases hl:i<δ.length
  ·rw[ZZ hl]at e;cases e
   show⟨v,by rw[ZZ (by rw[<-h.1];show hl)],r⟩
  ·rw[y0a (by rw[Zm];omega)]at e;cases e
 ·rw[Ye hj]at e;rw[Ye hj];show h.2 j p e
theorem RO.stayQ{o:MO}(p:φ<+:φ')(t:Kq H H')(e:H' a=H a)(h:RO C φ H a o):RO C φ' H' a o:=by
 cases o with
 |lst ps=>let⟨vs,q,r⟩:=h;show⟨vs,e.trans q,r.monoQ p t⟩
 |dK ps=>let⟨vs,q,r⟩:=h;show⟨vs,e.trans q,r.monoQ p t⟩
 |ins n fs=>let⟨c,dx,ks,hc,q,r⟩:=h;show⟨c,dx,ks,hc,e.trans q,r.monoQ p t⟩
 |dD kvs=>let⟨ks,q,r⟩:=h;show⟨ks,e.trans q,r.monoQ p t⟩
 |vw kd d=>let⟨b,hb,q⟩:=h;show⟨b,kF p hb,e.trans q⟩
 |fz o=>
  cases o with
  |dK kvs=>let⟨ob,ks,q,r⟩:=h;show⟨ob,ks,e.trans q,r.monoQ p t⟩
  |dD kvs=>let⟨ob,ks,q,r⟩:=h;show⟨ob,ks,e.trans q,r.monoQ p t⟩
  |_=>exact h.elim
theorem RO.stay{o:MO}(p:φ<+:φ')(t:Kp H H')(e:H' a=H a)(h:RO C φ H a o):RO C φ' H' a o:=h.stayQ p t.q e
theorem RO.some{o:MO}(h:RO C φ H a o):∃u,H a=a_ u:=by
 cases o with
 |lst ps=>let⟨vs,q,r⟩:=h;show⟨_,q⟩
 |dK ps=>let⟨vs,q,r⟩:=h;show⟨_,q⟩
 |ins n fs=>let⟨c,dx,ks,hc,q,r⟩:=h;show⟨_,q⟩
 |dD kvs=>let⟨ks,q,r⟩:=h;show⟨_,q⟩
 |vw kd d=>let⟨b,hb,q⟩:=h;show⟨_,q⟩
 |fz o=>
  cases o with
  |dK kvs=>let⟨ob,ks,q,r⟩:=h;show⟨_,q⟩
  |dD kvs=>let⟨ob,ks,q,r⟩:=h;show⟨_,q⟩
  |_=>exact h.elim
variable{h:PH}
theorem RH.get(r:H_ h){o:MO}(e:h[n]?=a_ o):∃a,φ[n]?=a_ a/\RO C φ H a o:=by
 let hn:=(XN.mp e).1;have:n<φ.length:=by rw[r.len];show hn
 show⟨φ[n],by simp[this],r.at' n _ o (by simp[this]) e⟩
theorem RH.tracked(r:H_ h)(e:φ[n]?=a_ a):∃u,H a=a_ u:=by
 let hn:=(XN.mp e).1;have:n<h.length:=by rw[<-r.len];show hn
 show(r.at' n a h[n] e (by simp[this])).some
theorem RH.aside(r:H_ h)(e:H a=b_):RH C φ (q0r a o) h:=⟨r.len,r.nd,λn b ob h1 h2=>by let q:=r.at' n b ob h1 h2;let⟨u,hu⟩:=q.some;show q.stay (X0) (Kp.new e) (aS (eU hu e))⟩
theorem RH.new(r:H_ h){u:HO}{o:MO}(e:H a=b_)(q:RO C (φ++[a]) (q0r a u) a o):RH C (φ++[a]) (q0r a u) (h++[o]):=by
 refine⟨by simp[r.len],?_,λn b ob h1 h2=>?_⟩
 ·rw[Zo];refine⟨r.nd,by simp,λx hx y hy z=>?_⟩;rw[YC]at hy;subst hy z;let⟨n,hn⟩:=y0c.mp hx;let⟨u',hu⟩:=r.tracked hn;rw[e]at hu;cases hu
 ·by_cases hn:n<φ.length
  ·rw[Yb hn]at h1;rw[Yb (by rw[<-r.len];show hn)]at h2;let q':=r.at' n b ob h1 h2;let⟨u',hu⟩:=q'.some;show q'.stay (Zu _ _) (Kp.new e) (aS (eU hu e))
  ·let nr:n=φ.length:=by have:=(XN.mp h1).1;simp at this;omega
   subst nr;rw[XX (X1 _),y15]at h1;rw[r.len,XX (X1 _),y15]at h2;cases h1
   cases h2
   show q
theorem RH.write(r:H_ h){u:HO}{o:MO}(e:φ[n]?=a_ a)(t:Ed (H a))(q:RO C φ (q0r a u) a o):RH C φ (q0r a u) (h.set n o):=by
 refine⟨by rw[Zm];show r.len,r.nd,λm b ob h1 h2=>?_⟩;by_cases hm:n=m
 ·subst hm;rw[e]at h1;cases h1;let hl:n<h.length:=by rw[<-r.len];show(XN.mp e).1
  rw[ZZ hl]at h2;cases h2
  show q
 ·rw[Ye hm]at h2;let hb:b≠a:=λz=>by subst z;show hm ((List.getElem?_inj (XN.mp e).1 r.nd).mp (e.trans h1.symm))
  show(r.at' m b ob h1 h2).stay X0 (Kp.upd t) (aS hb)
section
variable(C:MC)(φ:ve o_)(H:Hp)
def post(r:Rs PV)(Q:VK):Prop:=match r with
 |.ok p h=>∀φ' v H',φ<+:φ'->Kp H H'->q0H h->RV C φ' H' p v->Q v H'
 |.exc x h=>∀φ' H',φ<+:φ'->Kp H H'->q0H h->C.ex φ' H' x
 |.bad=>False
def cX(r:Rs Bool)(Q:Bool->Hp->Prop):Prop:=match r with
 |.ok b h=>∀φ' H',φ<+:φ'->Kp H H'->q0H h->Q b H'
 |.exc x h=>∀φ' H',φ<+:φ'->Kp H H'->q0H h->C.ex φ' H' x
 |.bad=>False
def postA(r:Rs (ve PV))(Q:ve V->Hp->Prop):Prop:=match r with
 |.ok ps h=>∀φ' vs H',φ<+:φ'->Kp H H'->q0H h->RVs C φ' H' ps vs->Q vs H'
 |.exc x h=>∀φ' H',φ<+:φ'->Kp H H'->q0H h->C.ex φ' H' x
 |.bad=>False
def dM(r:Fl)(D:Ends):Prop:=match r with
 |.nx δ h=>∀φ' σ H',φ<+:φ'->Kp H H'->q0H h->RE C φ' H' δ σ->D.nx σ H'
 |.rt p h=>∀φ' v H',φ<+:φ'->Kp H H'->q0H h->RV C φ' H' p v->D.rt v H'
 |.bk δ h=>∀φ' σ H',φ<+:φ'->Kp H H'->q0H h->RE C φ' H' δ σ->D.bk σ H'
 |.ct δ h=>∀φ' σ H',φ<+:φ'->Kp H H'->q0H h->RE C φ' H' δ σ->D.ct σ H'
 |.exc x h=>∀φ' H',φ<+:φ'->Kp H H'->q0H h->C.ex φ' H' x
 |.bad=>False
end
variable{φ1:ve o_}
theorem post.weak{r:Rs PV}{Q:VK}(p:φ<+:φ1)(t:Kp H H1)(h:Q_ r Q):post C φ1 H1 r Q:=by
 cases r with
 |ok a h'=>exact λφ' v H' p' t'=>h φ' v H' (p.trans p') (t.trans t')
 |exc a h'=>exact λφ' H' p' t'=>h φ' H' (p.trans p') (t.trans t')
 |bad=>exact h
theorem cX.weak{r:Rs Bool}{Q:Bool->Hp->Prop}(p:φ<+:φ1)(t:Kp H H1)(h:cX C φ H r Q):cX C φ1 H1 r Q:=by
 cases r with
 |ok a h'=>exact λφ' H' p' t'=>h φ' H' (p.trans p') (t.trans t')
 |exc a h'=>exact λφ' H' p' t'=>h φ' H' (p.trans p') (t.trans t')
 |bad=>exact h
variable{r:Rs (ve PV)}
theorem postA.weak{Q:ve V->Hp->Prop}(p:φ<+:φ1)(t:Kp H H1)(h:postA C φ H r Q):postA C φ1 H1 r Q:=by
 cases r with
 |ok a h'=>exact λφ' v H' p' t'=>h φ' v H' (p.trans p') (t.trans t')
 |exc a h'=>exact λφ' H' p' t'=>h φ' H' (p.trans p') (t.trans t')
 |bad=>exact h
theorem dM.weak{r:Fl}{D:Ends}(p:φ<+:φ1)(t:Kp H H1)(h:dM C φ H r D):dM C φ1 H1 r D:=by
 cases r with
 |nx a h'=>exact λφ' v H' p' t'=>h φ' v H' (p.trans p') (t.trans t')
 |rt a h'=>exact λφ' v H' p' t'=>h φ' v H' (p.trans p') (t.trans t')
 |bk a h'=>exact λφ' v H' p' t'=>h φ' v H' (p.trans p') (t.trans t')
 |ct a h'=>exact λφ' v H' p' t'=>h φ' v H' (p.trans p') (t.trans t')
 |exc a h'=>exact λφ' H' p' t'=>h φ' H' (p.trans p') (t.trans t')
 |bad=>exact h
theorem post.imp{r:Rs PV}{Q Q':VK}(h:Q_ r Q)(i:∀v H',Q v H'->Q' v H'):Q_ r Q':=by
 cases r with
 |ok a h'=>exact λφ' v H' p t rh rv=>i v H' (h φ' v H' p t rh rv)
 |exc a h'=>exact h
 |bad=>exact h
theorem post.bind{r:Rs PV}{f:PV->PH->Rs PV}{Q:VK}(h:Q_ (r.bind f) Q):Q_ r λv H1=>∃φ1 p h1,φ<+:φ1/\Kp H H1/\q0G 0/\RV C φ1 H1 p v/\post C φ1 H1 (f p h1) Q:=by
 cases r with
 |ok a h'=>exact λφ' v H' p t rh rv=>⟨φ',a,h',p,t,rh,rv,post.weak p t h⟩
 |exc a h'=>exact h
 |bad=>exact h
theorem post.bindB{r:Rs PV}{f:PV->PH->Rs Bool}{Q:Bool->Hp->Prop}(h:cX C φ H (r.bind f) Q):Q_ r λv H1=>∃φ1 p h1,φ<+:φ1/\Kp H H1/\q0G 0/\RV C φ1 H1 p v/\cX C φ1 H1 (f p h1) Q:=by
 cases r with
 |ok a h'=>exact λφ' v H' p t rh rv=>⟨φ',a,h',p,t,rh,rv,cX.weak p t h⟩
 |exc a h'=>exact h
 |bad=>exact h
theorem cX.bind{r:Rs Bool}{f:Bool->PH->Rs PV}{Q:VK}(h:Q_ (r.bind f) Q):cX C φ H r λb H1=>∃φ1 h1,φ<+:φ1/\Kp H H1/\q0G 0/\post C φ1 H1 (f b h1) Q:=by
 cases r with
 |ok a h'=>exact λφ' H' p t rh=>⟨φ',h',p,t,rh,post.weak p t h⟩
 |exc a h'=>exact h
 |bad=>exact h
theorem cX.bindB{r:Rs Bool}{f:Bool->PH->Rs Bool}{Q:Bool->Hp->Prop}(h:cX C φ H (r.bind f) Q):cX C φ H r λb H1=>∃φ1 h1,φ<+:φ1/\Kp H H1/\q0G 0/\cX C φ1 H1 (f b h1) Q:=by
 cases r with
 |ok a h'=>exact λφ' H' p t rh=>⟨φ',h',p,t,rh,cX.weak p t h⟩
 |exc a h'=>exact h
 |bad=>exact h
theorem postA.bind{f:ve PV->PH->Rs PV}{Q:VK}(h:Q_ (r.bind f) Q):postA C φ H r λvs H1=>∃φ1 ps h1,φ<+:φ1/\Kp H H1/\q0G 0/\RVs C φ1 H1 ps vs/\post C φ1 H1 (f ps h1) Q:=by
 cases r with
 |ok a h'=>exact λφ' v H' p t rh rv=>⟨φ',a,h',p,t,rh,rv,post.weak p t h⟩
 |exc a h'=>exact h
 |bad=>exact h
theorem postA.bindA{f:ve PV->PH->Rs (ve PV)}{Q:ve V->Hp->Prop}(h:postA C φ H (r.bind f) Q):postA C φ H r λvs H1=>∃φ1 ps h1,φ<+:φ1/\Kp H H1/\q0G 0/\RVs C φ1 H1 ps vs/\postA C φ1 H1 (f ps h1) Q:=by
 cases r with
 |ok a h'=>exact λφ' v H' p t rh rv=>⟨φ',a,h',p,t,rh,rv,postA.weak p t h⟩
 |exc a h'=>exact h
 |bad=>exact h
theorem post.bindA{r:Rs PV}{f:PV->PH->Rs (ve PV)}{Q:ve V->Hp->Prop}(h:postA C φ H (r.bind f) Q):Q_ r λv H1=>∃φ1 p h1,φ<+:φ1/\Kp H H1/\q0G 0/\RV C φ1 H1 p v/\postA C φ1 H1 (f p h1) Q:=by
 cases r with
 |ok a h'=>exact λφ' v H' p t rh rv=>⟨φ',a,h',p,t,rh,rv,postA.weak p t h⟩
 |exc a h'=>exact h
 |bad=>exact h
theorem post.val{v:V}{Q:VK}(q:Q_ (.ok p h) Q)(rh:H_ h)(rv:y_ p v):Q v H:=q φ v H X0 (Kp.refl H) rh rv
structure Cxt(C:MC)(k:Nat)(X:Cx):Prop where
 K:X.K=C.K
 calm:X.calm=true
 room:iL k X.A
 bn:∀x∈C.bs,X.mg x=none
 w:X.w=C.w
theorem Cxt.hu{k:Nat}(c:q0n X):X.A.units+1<cLine:=SV c.room
theorem Cxt.hu64{k:Nat}(c:q0n X):X.A.units+64<cLine:=c.room.units
theorem Cxt.comp{k:Nat}(c:q0n X)(sc:Scope)(N:ve Str)(a:o_)(fp:ve o_)(s:oa)(H:Hp):q0n (U_ a fp s H):=⟨c.K,c.calm,c.room,c.bn,c.w⟩
section
variable(C:MC)
def rd(m:Me):TE:=λσ H Q=>∃φ δ h,H_ h/\q0v 0/\Q_ (m δ h) Q
def rdB(m:Ev->PH->Rs Bool):TT:=λσ H Q=>∃φ δ h,H_ h/\q0v 0/\cX C φ H (m δ h) Q
def rdA(m:Ev->PH->Rs (ve PV)):TA:=λσ H Q=>∃φ δ h,H_ h/\q0v 0/\postA C φ H (m δ h) Q
def rdS(m:Ms):TS:=λD σ H=>∃φ δ h,H_ h/\q0v 0/\dM C φ H (m δ h) D
def r2(g:PV->PV->PH->Rs PV):R2:=λx y H Q=>∃φ h p q,H_ h/\y_ p x/\y_ q y/\Q_ (g p q h) Q
def r1(g:PV->PH->Rs PV):V->Hp->VK->Prop:=λx H Q=>∃φ h p,H_ h/\y_ p x/\Q_ (g p h) Q
def rL(g:ve PV->PH->Rs PV):ve V->Hp->VK->Prop:=λxs H Q=>∃φ h ps,H_ h/\C_ ps xs/\Q_ (g ps h) Q
end
variable{C:MC}{k:Nat}{X:Cx}
def SE(C:MC)(k:Nat)(X:Cx)(e:t_)(m:Me):Prop:=q0n X->PE X e (rd C m)
def ST(C:MC)(k:Nat)(X:Cx)(e:t_)(m:Ev->PH->Rs Bool):Prop:=q0n X->PT X e (rdB C m)
def SA(C:MC)(k:Nat)(X:Cx)(es:ve t_)(m:Ev->PH->Rs (ve PV)):Prop:=q0n X->PA X es (rdA C m)
def SSt(C:MC)(k:Nat)(X:Cx)(st:u_)(m:Ms):Prop:=q0n X->PS X st (rdS C m)
def SSs(C:MC)(k:Nat)(X:Cx)(st:ve u_)(m:Ms):Prop:=q0n X->PSs X st (rdS C m)
def OpS(C:MC)(k:Nat)(X:Cx)(f:n_->n_->Sem n_)(g:PV->PV->PH->Rs PV):Prop:=q0n X->q0J f (r2 C g)
def UnS(C:MC)(k:Nat)(X:Cx)(f:n_->Sem n_)(g:PV->PH->Rs PV):Prop:=q0n X->UnR X f (r1 C g)
def uE(C:MC)(k:Nat)(X:Cx)(f:n_)(g:ve PV->PH->Rs PV):Prop:=q0n X->dJ X f (rL C g)
def aY:Ev->Nat->v_ PV
 |[],_=>b_
 |x::_,0=>x
 |_::r,n+1=>aY r n
@[simp]theorem Sj(x:v_ PV)(r:Ev):aY (x::r) 0=x:=(rfl)
@[simp]theorem Sk(x:v_ PV)(r:Ev)(n:Nat):aY (x::r) (n+1)=aY r n:=(rfl)
theorem A7:∀{δ:Ev}{i:Nat}{p:PV},q0T i=a_ p->δ[i]?=a_ (a_ p)
 |[],_,_,h=>by cases h
 |x::_,0,p,h=>by let h':x=a_ p:=h;simp[h']
 |_::r,n+1,p,h=>by rw[Y4];show A7 (δ:=r) (i:=n) h
def mV(i:Nat):Me:=λδ h=>match q0T i with
 |some p=>.ok p h
 |none=>.bad
def mC(p:PV):Me:=λ_ h=>.ok p h
theorem aA(i:Nat)(hN:X.N[i]?=a_ x:=by rfl)(hv:Vis X.env.scope x:=by first|exact Or.inl rfl|exact Or.inr (Or.inl rfl)|exact Or.inr (Or.inr rfl))(hd:(x == ("__debug__" : Str))=false:=by decide)(fb:(x == ("__classdict__" : Str))=false:=by decide):G_ (.Name x pos) (mV i):=λ_=>by
 refine(JH hN hv hd fb).imp λσ H Q h=>?_;let⟨φ,δ,h,rh,re,p⟩:=h;unfold mV at p;cases e:q0T i with
 |none=>rw[e]at p;show p.elim
 |some x=>rw[e]at p;let⟨v,hv,rv⟩:=re.2 i x (A7 e);show⟨v,hv,p.val rh rv⟩
theorem aG{i j pos}:G_ (.Constant (.int i) j pos) (mC (.int i)):=λ_=>Q9.imp λσ H Q ⟨φ,δ,h,rh,re,p⟩=>p.val rh rfl
theorem IR{i j pos}:G_ (.Constant (.bool i) j pos) (mC (.bl i)):=λ_=>Ss.imp λσ H Q ⟨φ,δ,h,rh,re,p⟩=>p.val rh rfl
theorem qF{j pos}:G_ (.Constant .none j pos) (mC .non):=λ_=>Qa.imp λσ H Q ⟨φ,δ,h,rh,re,p⟩=>p.val rh rfl
theorem jJ{i j pos}:G_ (.Constant (.str i) j pos) (mC (.str i)):=λ_=>Qb.imp λσ H Q ⟨φ,δ,h,rh,re,p⟩=>p.val rh rfl
def aD(g:PV->PV->PH->Rs PV)(ma mb:Me):Me:=λδ h=>(ma δ h).bind λx h1=>(mb δ h1).bind λy h2=>g x y h2
variable{ma mb:Me}
theorem Hg{g:PV->PV->PH->Rs PV}{σ:St}{Q:VK}(h:rd C (aD g ma mb) σ H Q):tOp (r2 C g) (rd C ma) (rd C mb) σ H Q:=by let⟨φ,δ,h,rh,re,p⟩:=h;refine⟨φ,δ,h,rh,re,(post.bind p).imp ?_⟩;rintro v H1 ⟨φ1,x,h1,p1,t1,ab,ae,q1⟩;refine⟨φ1,δ,h1,ab,q0h 0,(post.bind q1).imp ?_⟩;rintro u H2 ⟨φ2,y,h2,p2,t2,ar,b8,q2⟩;show⟨φ2,h2,x,y,ar,ae.mono p2 t2,b8,q2⟩
variable{op:CmpOp}
section
variable{a b:t_}{g:PV->PV->PH->Rs PV}
theorem aP{op:Operator}(ho:q0k (ZQ op) g)(ha:G_ a ma)(hb:G_ b mb):G_ (.BinOp a op b pos) (aD g ma mb):=λc=>(SB (ho c) (ha c) (hb c)).imp λσ H Q h=>Hg h
theorem Tg(ho:q0k (YD op) g)(ha:G_ a ma)(hb:G_ b mb)(hm:behindInMarks op b=false:=by first|exact JN _|rfl):G_ (.Compare a [op] [b] pos) (aD g ma mb):=λc=>(Nm (ho c) (ha c) (hb c) hm).imp λσ H Q h=>Hg h
def mUn(g:PV->PH->Rs PV)(ma:Me):Me:=λδ h=>(ma δ h).bind g
theorem Kv{op:UnaryOp}{g:PV->PH->Rs PV}(ho:UnS C k X (unaryOp op) g)(ha:G_ a ma):G_ (.UnaryOp op a pos) (mUn g ma):=λc=>(SC (ho c) (ha c)).imp λσ H Q h=>by let⟨φ,δ,h,rh,re,p⟩:=h;refine⟨φ,δ,h,rh,re,(post.bind p).imp ?_⟩;rintro v H1 ⟨φ1,x,h1,p1,t1,ab,ae,q1⟩;show⟨φ1,h1,x,ab,ae,q1⟩
end
def aV(h:PH)(n:Nat):v_ (ve PV):=match h[n]? with
 |some (.lst xs)=>a_ xs
 |_=>b_
theorem cJ(rh:H_ h)(e:aV h n=a_ xs):∃a vs,φ[n]?=a_ a/\SqL C.K H a vs/\C_ xs vs:=by
 unfold aV at e;cases q:h[n]? with
 |none=>rw[q]at e;cases e
 |some o=>
  rw[q]at e;let⟨a,ha,ro⟩:=rh.get q;cases o with
  |lst ys=>cases e;let⟨vs,q',r⟩:=ro;show⟨a,vs,ha,SqL.of q',r⟩
  |_=>cases e
def dU(h:PH)(n:Nat):v_ (ve PV):=match h[n]? with
 |some (.lst xs)=>a_ xs
 |_=>b_
theorem kU(e:dU h n=a_ xs):h[n]?=a_ (.lst xs):=by
 unfold dU at e;cases q:h[n]? with
 |none=>rw[q]at e;cases e
 |some o=>
  rw[q]at e;cases o with
  |lst ys=>cases e;rfl
  |_=>cases e
def gG(x:PV)(h:PH):v_ (ve PV):=match x with
 |.ref n=>aV h n
 |.fl xs=>a_ xs
 |_=>b_
theorem kW{x:PV}{v:V}(rh:H_ h)(rv:y_ x v)(e:gG x h=a_ xs):∃a vs,v=.ref a/\SqL C.K H a vs/\C_ xs vs:=by
 cases x with
 |ref n=>let⟨a,rfl,ha⟩:=rv;let⟨a2,vs,aq,sa,ra⟩:=cJ rh e;rw[ha]at aq;cases aq;show⟨a,vs,rfl,sa,ra⟩
 |fl ys=>
  cases e
  let⟨a,vs,rfl,sa,ra⟩:=rv;show⟨a,vs,rfl,sa.sq,ra⟩
 |_=>cases e
def PJ:ve PV->Bool
 |[]=>true
 |_::_=>false
def Kw:PV->PV->PH->Rs PV:=λx y h=>match x,y with
 |.int i,.int j=>.ok (.int (i+j)) h
 |.str i,.str j=>if i.length+j.length<=X5 then .ok (.str (i++j)) h else .bad
 |.tup xs,.tup ys=>if PJ xs=false/\xs.length+ys.length<=X5 then .ok (.tup (xs++ys)) h else .bad
 |.ref a,.ref b=>match dU h a,dU h b with
  |some xs,a_ ys=>if xs.length+ys.length<=X5 then .ok (.ref h.length) (h++[.lst (xs++ys)]) else .bad
  |_,_=>.bad
 |_,_=>.bad
theorem post.ite{c:Prop}[Decidable c]{r:Rs PV}{Q:VK}(h:Q_ (if c then r else .bad) Q):c/\Q_ r Q:=by
 by_cases hc:c
 ·rw[if_pos hc]at h;show⟨hc,h⟩
 ·rw[if_neg hc]at h;show h.elim
theorem post.lnew{vs:ve V}{Q:VK}(q:Q_ (.ok (.ref h.length) (h++[.lst xs])) Q)(rh:H_ h)(r:C_ xs vs){p:o_}(hp:H p=b_):Q (.ref p) (q0r p (.lst vs)):=q (φ++[p]) (.ref p) _ (Zu _ _) (Kp.new hp) (rh.new hp ⟨vs,bH,r.mono (Zu _ _) (Kp.new hp)⟩) ⟨p,rfl,by rw[<-rh.len];simp⟩
theorem post.tnew{vs:ve V}{Q:VK}(q:Q_ (.ok (.tup xs) h) Q)(rh:H_ h)(r:C_ xs vs){p:o_}(hp:H p=b_):Q (.ref p) (q0r p (.tup vs)):=q φ (.ref p) _ X0 (Kp.new hp) (rh.aside hp) ⟨p,vs,rfl,SqT.of bH,r.mono X0 (Kp.new hp)⟩
theorem post.lset{v:V}{ws vs:ve V}{Q:VK}(q:Q_ (.ok p (h.set n (.lst xs))) Q)(rh:H_ h)(e:φ[n]?=a_ a)(hl:H a=a_ (.lst ws))(r:C_ xs vs)(rv:y_ p v):Q v (q0r a (.lst vs)):=q φ v _ X0 (Kp.lst hl) (rh.write e (by rw[hl];trivial) ⟨vs,bH,r.mono X0 (Kp.lst hl)⟩) (rv.mono X0 (Kp.lst hl))
theorem Kx{vs:ve V}(r:C_ xs vs)(h:PJ xs=false):vs≠[]:=by
 cases xs with
 |nil=>cases h
 |cons x xs=>
  cases vs with
  |nil=>exact r.elim
  |cons=>intro z;cases z
theorem Th:q0k (ZQ .Add) Kw:=λc=>(NP C.K c.K).imp λx y H Q h=>by
 let⟨φ,h,p,q,rh,rx,ry,po⟩:=h;unfold Kw at po;cases p with
 |int i=>
  cases q with
  |int j=>cases rx;cases ry;show M_ rfl
  |_=>exact po.elim
 |str i=>
  cases q with
  |str j=>cases rx;cases ry;show⟨po.ite.1,po.ite.2.val rh rfl⟩
  |_=>exact po.elim
 |tup xs=>
  cases q with
  |tup ys=>let⟨a,vs,rfl,sa,ra⟩:=rx;let⟨b,us,rfl,sb,rb⟩:=ry;let⟨⟨h1,h2⟩,po⟩:=po.ite;refine .inr ⟨a,b,vs,us,rfl,rfl,sa,sb,Kx ra h1,by rw[<-ra.length,<-rb.length];show h2,λz=>?_,λz p hp=>po.tnew rh (ra.append rb) hp⟩;subst z;let e:ys=[]:=y1k rb.length;subst e;show M_ ⟨a,vs,rfl,sa,by rw[YY];show ra⟩
  |_=>exact po.elim
 |ref n=>
  cases q with
  |ref m=>
   let⟨a,rfl,ha⟩:=rx;let⟨b,rfl,hb⟩:=ry;dsimp only at po;cases e1:dU h n with
   |none=>rw[e1]at po;show po.elim
   |some xs=>
    cases e2:dU h m with
    |none=>rw[e1,e2]at po;show po.elim
    |some ys=>rw[e1,e2]at po;let⟨vs,h1,r1⟩:=q0l (kU e1);let⟨us,h2,r2⟩:=rh.at' m b _ hb (kU e2);let⟨hz,po⟩:=po.ite;show .inl ⟨a,b,vs,us,rfl,rfl,h1,h2,by rw[<-r1.length,<-r2.length];show hz,λp hp=>po.lnew rh (r1.append r2) hp⟩
  |_=>exact po.elim
 |_=>exact po.elim
def vInt(P:Int->Int->Prop)[∀i j,Decidable (P i j)](f:Int->Int->Int):PV->PV->PH->Rs PV:=λx y h=>match x,y with
 |.int i,.int j=>if P i j then .ok (.int (f i j)) h else .bad
 |_,_=>.bad
theorem Ky{P:Int->Int->Prop}[∀i j,Decidable (P i j)]{g:Int->Int->Int}(ho:q0J f (Ea P g)):q0k f (vInt P g):=λc=>ho.imp λx y H Q h=>by
 let⟨φ,h,p,q,rh,rx,ry,po⟩:=h;unfold vInt at po;cases p with
 |int i=>
  cases q with
  |int j=>cases rx;cases ry;show⟨po.ite.1,po.ite.2.val rh rfl⟩
  |_=>exact po.elim
 |_=>exact po.elim
noncomputable instance(i j:Int):Decidable (DL i j):=ZV _
noncomputable instance(i j:Int):Decidable (JM i j):=ZV _
noncomputable instance(i j:Int):Decidable (V1 i j):=ZV _
def kG:PV->PV->PH->Rs PV:=λx y h=>match x,y with
 |.int i,.int j=>.ok (.int (i-j)) h
 |_,_=>.bad
theorem sC:q0k (ZQ .Sub) kG:=λc=>NQ.imp λx y H Q h=>by
 let⟨φ,h,p,q,rh,rx,ry,po⟩:=h;unfold kG at po;cases p with
 |int i=>
  cases q with
  |int j=>cases rx;cases ry;show M_ rfl
  |_=>exact po.elim
 |_=>exact po.elim
noncomputable abbrev IS:=vInt DL λi j=>i*j
noncomputable abbrev A8:=vInt JM λi j=>i/j
abbrev kX:=vInt (λ_ j=>0<j) λi j=>i%j
theorem Hh:q0k (ZQ .Mult) IS:=Ky NR
theorem A9:q0k (ZQ .FloorDiv) A8:=Ky NS
theorem mF:q0k (ZQ .Mod) kX:=Ky NT
def wA:PV->PH->Rs PV:=λx h=>match x with
 |.int i=>.ok (.int (-i)) h
 |_=>.bad
variable{C:MC}{k:Nat}{X:Cx}
def IT(f:Int->Int->Bool)(g:W_ 0->W_ 0->Bool):PV->PV->PH->Rs PV:=λx y h=>match x,y with
 |.int i,.int j=>.ok (.bl (f i j)) h
 |.str i,.str j=>.ok (.bl (g i.cps.toList j.cps.toList)) h
 |_,_=>.bad
theorem Kz{p:Int->Int->Bool}{g:W_ 0->W_ 0->Bool}(ho:q0J f (Eb p g)):q0k f (IT p g):=λc=>ho.imp λx y H Q h=>by
 let⟨φ,h,p,q,rh,rx,ry,po⟩:=h;unfold IT at po;cases p with
 |int i=>
  cases q with
  |int j=>cases rx;cases ry;show M_ rfl
  |_=>exact po.elim
 |str i=>
  cases q with
  |str j=>cases rx;cases ry;show M_ rfl
  |_=>exact po.elim
 |_=>exact po.elim
abbrev vLt:=IT (λi j=>decide (i<j)) λi j=>decide (i<j)
abbrev vGt:=IT (λi j=>decide (j<i)) λi j=>decide (j<i)
abbrev vLe:=IT (λi j=>decide (i<=j)) λi j=>!decide (j<i)
theorem Vi:q0k (YD .Lt) vLt:=Kz QR
theorem O2:q0k (YD .Gt) vGt:=Kz QS
theorem Ti:q0k (YD .LtE) vLe:=Kz QT
mutual
def PV.d:PV->v_ D
 |.non=>a_ .non
 |.bl b=>a_ (.bl b)
 |.int i=>cx i
 |.str x=>a_ (.str x)
 |.tup xs=>match PV.ds xs with
  |some ds=>a_ (.tup ds)
  |none=>b_
 |.ref _=>b_
 |.ty _=>b_
 |.fl _=>b_
def PV.ds:ve PV->v_ (ve D)
 |[]=>a_ []
 |x::xs=>match PV.d x,PV.ds xs with
  |some d,a_ ds=>a_ (d::ds)
  |_,_=>b_
end
mutual
theorem RV.rep:∀{x:PV}{d:D}{v:V},y_ x v->x.d=a_ d->Rep C.K H d v
 |.non,_,_,h,e=>by cases e;show h
 |.bl _,_,_,h,e=>by cases e;show h
 |.int _,_,_,h,e=>by cases e;show h
 |.str _,_,_,h,e=>by cases e;show h
 |.tup xs,d,v,⟨a,vs,e1,q,r⟩,e=>by
  unfold PV.d at e;cases e2:PV.ds xs with
  |none=>rw[e2]at e;cases e
  |some ds=>
   rw[e2]at e;cases e
   show⟨a,vs,e1,q,RVs.reps r e2⟩
 |.ref _,_,_,_,e=>by cases e
 |.ty _,_,_,_,e=>by cases e
 |.fl _,_,_,_,e=>by cases e
theorem RVs.reps:∀{xs:ve PV}{ds:ve D}{vs:ve V},C_ xs vs->PV.ds xs=a_ ds->iP C.K H ds vs
 |[],_,[],_,e=>by cases e;trivial
 |x::xs,_,v::vs,⟨h,r⟩,e=>by
  unfold PV.ds at e;cases e1:PV.d x with
  |none=>rw[e1]at e;cases e
  |some d=>
   cases e2:PV.ds xs with
   |none=>rw[e1,e2]at e;cases e
   |some ds=>
    rw[e1,e2]at e;cases e
    show⟨RV.rep h e1,RVs.reps r e2⟩
 |[],_,_::_,h,_=>h.elim
 |_::_,_,[],h,_=>h.elim
end
def kY(x y:PV)(h:PH):v_ Bool:=match x.d,y.d with
 |some d,a_ e=>if d.depth<=40 then a_ (eqD d e) else b_
 | _,_=>match gG x h,gG y h with
   |some xs,a_ ys=>match PV.ds xs,PV.ds ys with
    |some ds,a_ es=>if R_ 0<=40 then a_ (iQ ds es) else b_
    |_,_=>b_
   |_,_=>b_
def ofB(o:v_ Bool)(h:PH):Rs PV:=match o with
 |some b=>.ok (.bl b) h
 |none=>.bad
def vEq:PV->PV->PH->Rs PV:=λx y h=>ofB (kY x y h) h
def vNe:PV->PV->PH->Rs PV:=λx y h=>ofB ((kY x y h).map not) h
theorem oM{q:PV}{x y:V}(rh:H_ h)(rx:y_ p x)(ry:y_ q y)(e:kY p q h=a_ b):
  (∃d e,Rep C.K H d x/\Rep C.K H e y/\d.depth<=40/\b=eqD d e)\/(∃ds es,Ee C.K H ds x/\Ee C.K H es y/\R_ 0<=40/\b=iQ ds es):=by
 unfold kY at e;split at e
 ·rename_i d e' h1 h2;split at e
  ·rename_i hd;cases e
   show .inl ⟨d,e',rx.rep h1,ry.rep h2,hd,rfl⟩
  ·cases e
 ·split at e
  ·rename_i xs ys h1 h2;split at e
   ·rename_i ds es h3 h4;split at e
    ·rename_i hd;cases e
     let⟨a',vs,rfl,sa,ra⟩:=kW rh rx h1;let⟨XA,us,rfl,sb,rb⟩:=kW rh ry h2;show .inr ⟨ds,es,⟨a',vs,rfl,sa,ra.reps h3⟩,⟨XA,us,rfl,sb,rb.reps h4⟩,hd,rfl⟩
    ·cases e
   ·cases e
  ·cases e
theorem post.ofB{o:v_ Bool}{Q:VK}(q:Q_ (ofB o h) Q):∃b,o=a_ b/\Q_ (.ok (.bl b) h) Q:=by
 cases o with
 |none=>exact q.elim
 |some b=>exact⟨b,rfl,q⟩
theorem yO:q0k (YD .Eq) vEq:=λc=>((QW c.hu64 C.K c.K).or (QY c.hu64 C.K c.K)).imp λx y H Q h=>by
 let⟨φ,h,p,q,rh,rx,ry,po⟩:=h;let⟨b,e,po⟩:=po.ofB;rcases oM rh rx ry e with⟨d,e',h1,h2,h3,rfl⟩|⟨d,e',h1,h2,h3,rfl⟩
 ·show .inl ⟨d,e',h1,h2,h3,M_ rfl⟩
 ·show .inr ⟨d,e',h1,h2,h3,M_ rfl⟩
theorem KA:q0k (YD .NotEq) vNe:=λc=>((QX c.hu64 C.K c.K).or (QZ c.hu64 C.K c.K)).imp λx y H Q h=>by
 let⟨φ,h,p,q,rh,rx,ry,po⟩:=h;let⟨b,e,po⟩:=po.ofB;cases e0:kY p q h with
 |none=>rw[e0]at e;cases e
 |some b'=>
  rw[e0]at e;cases e
  rcases oM rh rx ry e0 with⟨d,e',h1,h2,h3,rfl⟩|⟨d,e',h1,h2,h3,rfl⟩
  ·show .inl ⟨d,e',h1,h2,h3,M_ rfl⟩
  ·show .inr ⟨d,e',h1,h2,h3,M_ rfl⟩
def IU:PV->v_ Key
 |.int i=>a_ (.inl i)
 |.str x=>a_ (.inr x)
 |_=>b_
def bR{κ:Type}[DecidableEq κ]:ve (κ×PV)->κ->v_ PV
 |[],_=>b_
 |(a,p)::r,b=>if a=b then a_ p else bR r b
def IV(h:PH)(n:Nat)(x:PV):v_ (v_ PV):=match h[n]? with
 |some (.dK kvs)=>match IU x with
  |some key=>a_ (bR kvs key)
  |none=>b_
 |_=>b_
def Aa(x:PV)(ys:ve PV):v_ Bool:=match x.d,PV.ds ys with
 |some d,a_ ds=>if R_ 0<=40 then a_ (ds.any λe=>eqD e d) else b_
 |_,_=>b_
def G6(x y:PV)(h:PH):v_ Bool:=match y with
 |.tup ys=>Aa x ys
 |.ref n=>match aV h n with
  |some ys=>Aa x ys
  |none=>(IV h n x).map Option.isSome
 |.fl ys=>Aa x ys
 |_=>b_
def vIn:PV->PV->PH->Rs PV:=λx y h=>ofB (G6 x y h) h
def Ab:PV->PV->PH->Rs PV:=λx y h=>ofB ((G6 x y h).map not) h
theorem G7{x:PV}{v:V}{key:Key}(r:y_ x v)(e:IU x=a_ key):v=kV key:=by cases x <;> first|(cases e;show r)|cases e
theorem wB{κ:Type}[DecidableEq κ]{kvs:ve (κ×PV)}{ks:ve (κ×V)}(r:q1e kvs ks)(a:κ):match bR kvs a,nI ks a with
  |some p,a_ v=>y_ p v
  |none,b_=>True
  |_,_=>False:=by
 unfold RKv at r
 induction r with
 |nil=>trivial
 | @cons p q ps qs h t ih=>
  let⟨h1,h2⟩:=h;let⟨pk,pv⟩:=p;by_cases e:pk=a
  ·let e':q.1=a:=h1.symm.trans e;rw[tR e'];unfold bR;rw[if_pos e];show h2
  ·let e':¬ q.1=a:=λz=>e (h1.trans z);rw[tS e'];unfold bR;rw[if_neg e];show ih
theorem Ac{x:PV}{v:V}{o:v_ PV}(rh:H_ h)(ha:φ[n]?=a_ a)(rv:y_ x v)(e:IV h n x=a_ o):
  ∃o',vQ H a v o'/\o.isSome=o'.isSome/\∀p,o=a_ p->∃w,o'=a_ w/\y_ p w:=by
 unfold IV at e;split at e
 ·rename_i kvs hk;split at e
  ·rename_i key ak;cases e
   let⟨ks,hH,rk⟩:=q0l hk;let q:=wB rk key;rw[G7 rv ak];refine⟨nI ks key,vQ.k hH,?_,λp hp=>?_⟩
   ·cases e1:bR kvs key <;> cases e2:nI ks key <;> rw[e1,e2]at q <;> first|rfl|exact q.elim
   ·rw[hp]at q;cases e2:nI ks key with
    |none=>rw[e2]at q;show q.elim
    |some w=>rw[e2]at q;show⟨w,rfl,q⟩
  ·cases e
 ·cases e
theorem Ad{q:PV}{x y:V}(rh:H_ h)(rx:y_ p x)(ry:y_ q y)(e:G6 p q h=a_ b):
  (∃d a ds vs,y=.ref a/\(SqL C.K H a vs\/SqT C.K H a vs)/\Rep C.K H d x/\iP C.K H ds vs/\R_ 0<=40/\b=ds.any λe=>eqD e d)\/∃a o,y=.ref a/\vQ H a x o/\b=o.isSome:=by
 let go:∀{a:o_}{vs:ve V}{ys:ve PV},(SqL C.K H a vs\/SqT C.K H a vs)->C_ ys vs->Aa p ys=a_ b->∃d a' ds vs,V.ref a=.ref a'/\(SqL C.K H a' vs\/SqT C.K H a' vs)/\Rep C.K H d x/\iP C.K H ds vs/\R_ 0<=40/\b=ds.any λe=>eqD e d:=by
  intro a vs ys hs hr he;unfold Aa at he;split at he
  ·rename_i d ds h1 h2;split at he
   ·rename_i hd;cases he
    show⟨d,a,ds,vs,rfl,hs,rx.rep h1,hr.reps h2,hd,rfl⟩
   ·cases he
  ·cases he
 unfold G6 at e;split at e
 ·let⟨a,vs,rfl,sa,ra⟩:=ry;show .inl (go (.inr sa) ra e)
 ·rename_i n;let⟨a,rfl,ha⟩:=ry;split at e
  ·rename_i ys hl;let⟨a2,vs,aq,sa,ra⟩:=cJ rh hl;rw[ha]at aq;cases aq;show .inl (go (.inl sa) ra e)
  ·cases e':IV h n p with
   |none=>rw[e']at e;cases e
   |some o=>
    rw[e']at e;cases e
    let⟨o',g,i,_⟩:=Ac rh ha rx e';show .inr ⟨a,o',rfl,g,i⟩
 ·let⟨a,vs,rfl,sa,ra⟩:=ry;show .inl (go (.inl sa.sq) ra e)
 ·cases e
theorem Vj:q0k (YD .In) vIn:=λc=>((R0 c.hu64 C.K c.K).or (QU c.hu C.K c.K)).imp λx y H Q h=>by
 let⟨φ,h,p,q,rh,rx,ry,po⟩:=h;let⟨b,e,po⟩:=po.ofB;rcases Ad rh rx ry e with⟨d,a,ds,vs,rfl,h1,h2,h3,h4,rfl⟩|⟨a,o,rfl,g,rfl⟩
 ·show .inl ⟨d,a,ds,vs,rfl,h1,h2,h3,h4,M_ rfl⟩
 ·show .inr (.inr ⟨a,o,rfl,g,M_ rfl⟩)
theorem O3:q0k (YD .NotIn) Ab:=λc=>((IH c.hu64 C.K c.K).or (IF c.hu C.K c.K)).imp λx y H Q h=>by
 let⟨φ,h,p,q,rh,rx,ry,po⟩:=h;let⟨b,e,po⟩:=po.ofB;cases e':G6 p q h with
 |none=>rw[e']at e;cases e
 |some b'=>
  rw[e']at e;cases e
  rcases Ad rh rx ry e' with⟨d,a,ds,vs,rfl,h1,h2,h3,h4,rfl⟩|⟨a,o,rfl,g,rfl⟩
  ·show .inl ⟨d,a,ds,vs,rfl,h1,h2,h3,h4,M_ rfl⟩
  ·show .inr (.inr ⟨a,o,rfl,g,M_ rfl⟩)
def mR:PV->Bool
 |.non=>true
 |_=>false
def vIs:PV->PV->PH->Rs PV:=λx y h=>match y with
 |.non=>.ok (.bl (mR x)) h
 |.bl b=>match x with
  |.bl a=>.ok (.bl (a == b)) h
  |_=>.bad
 |_=>.bad
def Ae:PV->PV->PH->Rs PV:=λx y h=>match y with
 |.non=>.ok (.bl (!mR x)) h
 |.bl b=>match x with
  |.bl a=>.ok (.bl (!(a == b))) h
  |_=>.bad
 |_=>.bad
theorem RV.isNon{v:V}(r:y_ p v):decide (v=.non)=mR p:=by
 cases p with
 |non=>cases r;rfl
 |tup xs=>let⟨a,vs,rfl,_⟩:=r;rfl
 |ref n=>let⟨a,rfl,_⟩:=r;rfl
 |fl xs=>let⟨a,vs,rfl,_⟩:=r;rfl
 |_=>cases r;rfl
theorem Tj:q0k (YD .Is) vIs:=λc=>(Qv.or (λFR s σ H x y v u Q I rx ry(h:∃a b,x=.bl a/\y=.bl b/\Q (.bl (a == b)) H)=>by let⟨a,b,rfl,rfl,q⟩:=h;cases rx;cases ry;show PyProof.Rows.is_bool ⟨.bl _,H,I,rfl,q⟩)).imp λx y H Q h=>by
 let⟨φ,h,p,q,rh,rx,ry,po⟩:=h;unfold vIs at po;cases q with
 |non=>
  cases ry
  refine .inl ⟨rfl,?_⟩;rw[rx.isNon];show M_ rfl
 |bl b=>
  cases p with
  |bl a=>cases rx;cases ry;show .inr ⟨a,b,rfl,rfl,M_ rfl⟩
  |_=>exact po.elim
 |_=>exact po.elim
theorem O4:q0k (YD .IsNot) Ae:=λc=>(Nl.or (λFR s σ H x y v u Q I rx ry(h:∃a b,x=.bl a/\y=.bl b/\Q (.bl (!(a == b))) H)=>by let⟨a,b,rfl,rfl,q⟩:=h;cases rx;cases ry;show PyProof.Rows.isnot_bool ⟨.bl _,H,I,rfl,q⟩)).imp λx y H Q h=>by
 let⟨φ,h,p,q,rh,rx,ry,po⟩:=h;unfold Ae at po;cases q with
 |non=>
  cases ry
  refine .inl ⟨rfl,?_⟩;rw[rx.isNon];show M_ rfl
 |bl b=>
  cases p with
  |bl a=>cases rx;cases ry;show .inr ⟨a,b,rfl,rfl,M_ rfl⟩
  |_=>exact po.elim
 |_=>exact po.elim
def tru(x:PV)(h:PH):Rs Bool:=match x with
 |.non=>.ok false h
 |.bl b=>.ok b h
 |.int i=>.ok (i != 0) h
 |.str y=>if y.length<=X5 then .ok ((y.length:Int) != 0) h else .bad
 |.tup xs=>.ok (!xs.isEmpty) h
 |.ref n=>match aV h n with
  |some xs=>.ok (!xs.isEmpty) h
  |none=>match h[n]? with
   |some (.dK kvs)=>.ok (!kvs.isEmpty) h
   |_=>.bad
 |.fl xs=>.ok (!xs.isEmpty) h
 |.ty _=>.bad
theorem RVs.isEmpty{vs:ve V}(r:C_ xs vs):(!vs.isEmpty)=!xs.isEmpty:=by cases xs <;> cases vs <;> first|rfl|exact r.elim
theorem cX.ite{c:Prop}[Decidable c]{r:Rs Bool}{Q:Bool->Hp->Prop}(h:cX C φ H (if c then r else .bad) Q):c/\cX C φ H r Q:=by
 by_cases hc:c
 ·rw[if_pos hc]at h;show⟨hc,h⟩
 ·rw[if_neg hc]at h;show h.elim
theorem cX.val{Q:Bool->Hp->Prop}(q:cX C φ H (.ok b h) Q)(rh:H_ h):Q b H:=q φ H X0 (Kp.refl H) rh
theorem IW{v:V}{Q:Bool->Hp->Prop}(rh:H_ h)(rv:y_ p v)(po:cX C φ H (tru p h) Q):∃b,Np C.K v H b/\Q b H:=by
 unfold tru at po;cases p with
 |non=>cases rv;show⟨_,rfl,po.val rh⟩
 |bl b=>cases rv;show⟨_,rfl,po.val rh⟩
 |int i=>cases rv;show⟨_,rfl,po.val rh⟩
 |str y=>cases rv;show⟨_,⟨po.ite.1,rfl⟩,po.ite.2.val rh⟩
 |tup xs=>let⟨a,vs,rfl,sa,ra⟩:=rv;show⟨_,.inr (.inl ⟨vs,sa,rfl⟩),by rw[ra.isEmpty];show po.val rh⟩
 |ref n=>
  let⟨a,rfl,ha⟩:=rv;dsimp only at po;cases e:aV h n with
  |some xs=>rw[e]at po;let⟨a2,vs,aq,sa,ra⟩:=cJ rh e;rw[ha]at aq;cases aq;show⟨_,.inl ⟨vs,sa,rfl⟩,by rw[ra.isEmpty];show po.val rh⟩
  |none=>
   rw[e]at po;dsimp only at po;split at po
   ·rename_i kvs hk;let⟨ks,hH,rk⟩:=q0l hk;refine⟨_,.inr (.inr ⟨ks,hH,rfl⟩),?_⟩;have:(!ks.isEmpty)=!kvs.isEmpty:=by cases rk <;> rfl
    rw[this];show po.val rh
   ·show po.elim
 |fl xs=>let⟨a,vs,rfl,sa,ra⟩:=rv;show⟨_,.inl ⟨vs,sa.sq,rfl⟩,by rw[ra.isEmpty];show po.val rh⟩
 |ty n=>exact po.elim
variable{C:MC}{k:Nat}{X:Cx}
def bP(m:Me):Ev->PH->Rs Bool:=λδ h=>(m δ h).bind tru
theorem KB{m:Me}{σ:St}{Q:Bool->Hp->Prop}(h:rdB C (bP m) σ H Q):rd C m σ H λv H1=>∃b,Np C.K v H1 b/\Q b H1:=by let⟨φ,δ,h,rh,re,p⟩:=h;refine⟨φ,δ,h,rh,re,(post.bindB p).imp ?_⟩;rintro v H1 ⟨φ1,x,h1,p1,t1,ab,ae,q1⟩;show IW ab ae q1
variable{mc:Me}{k6:CmpOp}
section
variable{a b c':t_}{m:Me}{g g':PV->PV->PH->Rs PV}{ta tb:Ev->PH->Rs Bool}
theorem KC(h:G_ e m)(he:∀whole,isTrue e X.env whole=(do let v <-whole;standAt e.pos;holding [v] (truthy v)):=by intro _;rfl):ST C k X e (bP m):=λc=>
 (JR (h c) he).imp λσ H Q q=>by rw[c.K];exact KB q
theorem cK(ho:q0k (YD op) g)(ha:G_ a ma)(hb:G_ b mb)(hm:behindInMarks op b=false:=by first|exact JN _|rfl):ST C k X (.Compare a [op] [b] pos) (bP (aD g ma mb)):=λc=>by
 intro FR s σ H Q I h;let h:=Hg (KB h);refine wpAny_isTrue_Compare1 (thn (ha c FR s σ H _ I h) λv s1 ⟨x,H1,I1,r1,q1⟩=>thn (hb c FR s1 σ H1 _ I1 q1) λu s2 ⟨y,H2,I2,r2,q2⟩=>thn (ho c FR s2 σ H2 x y v u _ I2 r1 r2 q2) λw s3 ⟨z,H3,I3,r3,q3⟩=>?_) hm;rw[<-c.K]at q3;show JQ FR s3 σ H3 z w Q I3 r3 q3
def KD(z:PV)(h:PH):Rs PV:=match z with
 |.bl b=>.ok (.bl b) h
 |_=>.bad
def IX(g g':PV->PV->PH->Rs PV)(ma mb mc:Me):Me:=λδ h=>(ma δ h).bind λx h1=>(mb δ h1).bind λy h2=>(g x y h2).bind λz h3=>match z with
 |.bl true=>(mc δ h3).bind λw h4=>(g' y w h4).bind KD
 |.bl false=>.ok (.bl false) h3
 |_=>.bad
theorem R4{σ:St}{Q:VK}(h:rd C (IX g g' ma mb mc) σ H Q):JO (r2 C g) (r2 C g') (rd C ma) (rd C mb) (rd C mc) σ H λv H1=>∃b,v=.bl b/\Q v H1:=by
 let⟨φ,δ,h,rh,re,p⟩:=h;refine⟨φ,δ,h,rh,re,(post.bind p).imp ?_⟩;rintro v H1 ⟨φ1,x,h1,p1,t1,ab,ae,q1⟩;refine⟨φ1,δ,h1,ab,q0h 0,(post.bind q1).imp ?_⟩;rintro u H2 ⟨φ2,y,h2,p2,t2,ar,b8,q2⟩;refine⟨φ2,h2,x,y,ar,ae.mono p2 t2,b8,(post.bind q2).imp ?_⟩;rintro w H3 ⟨φ3,z,h3,p3,t3,ft,rv3,q3⟩;cases z with
 |bl b=>
  cases rv3
  refine⟨b,rfl,?_⟩;cases b with
  |false=>exact Iq ⟨false,rfl,q3.val ft rfl⟩
  |true=>
   refine Ir ⟨φ3,δ,h3,ft,re.mono ((p1.trans p2).trans p3) ((t1.trans t2).trans t3),(post.bind q3).imp ?_⟩;rintro w4 H4 ⟨φ4,z4,h4,p4,t4,rh4,rv4,q4⟩;refine⟨φ4,h4,y,z4,rh4,b8.mono (p3.trans p4) (t3.trans t4),rv4,(post.bind q4).imp ?_⟩;rintro w5 H5 ⟨φ5,z5,h5,p5,t5,rh5,rv5,q5⟩;cases z5 with
   |bl b=>cases rv5;show⟨b,rfl,q5.val rh5 rfl⟩
   |_=>exact q5.elim
 |_=>exact q3.elim
theorem Tn(ho:q0k (YD op) g)(cg:q0k (YD k6) g')(ha:G_ a ma)(hb:G_ b mb)(hc:G_ c' mc)(hm:lastMarks [op,k6] [b,c']=false:=by with_unfolding_all rfl):
  G_ (.Compare a [op,k6] [b,c'] pos) (IX g g' ma mb mc):=λc=>by
 intro FR s σ H Q I h;refine ZG (JP (ho c) (cg c) (ha c) (hb c) (hc c) hm FR s σ H _ I (R4 h)) (λv s1 ⟨x,H1,I1,r1,b,e,q⟩=>⟨x,H1,I1,r1,q⟩) λ_ _ z=>z
def KF(t:Ev->PH->Rs Bool):Ev->PH->Rs Bool:=λδ h=>(t δ h).bind λb h1=>.ok (!b) h1
def nO(ta tb:Ev->PH->Rs Bool):Ev->PH->Rs Bool:=λδ h=>(ta δ h).bind λb h1=>match b with
 |true=>tb δ h1
 |false=>.ok false h1
def CA(ta tb:Ev->PH->Rs Bool):Ev->PH->Rs Bool:=λδ h=>(ta δ h).bind λb h1=>match b with
 |true=>.ok true h1
 |false=>tb δ h1
theorem cX.imp{r:Rs Bool}{Q Q':Bool->Hp->Prop}(h:cX C φ H r Q)(i:∀v H',Q v H'->Q' v H'):cX C φ H r Q':=by
 cases r with
 |ok a h'=>exact λφ' H' p t rh=>i a H' (h φ' H' p t rh)
 |exc a h'=>exact h
 |bad=>exact h
theorem To(h:ST C k X e ta):ST C k X (.UnaryOp .Not e pos) (KF ta):=λc=>(Qe (h c)).imp λσ H Q q=>by let⟨φ,δ,h,rh,re,p⟩:=q;refine⟨φ,δ,h,rh,re,(cX.bindB p).imp ?_⟩;rintro b H1 ⟨φ1,h1,p1,t1,ab,q1⟩;show q1.val ab
def SW(C:MC)(k:Nat)(X:Cx)(e:t_)(m:Ev->PH->Rs Bool):Prop:=q0n X->PW X e (rdB C m)
theorem SW.t(h:SW C k X e ta):ST C k X e ta:=λc=>(h c).pt
theorem PW.imp{t t':TT}(h:PW X e t)(i:∀σ H Q,t' σ H Q->t σ H Q):PW X e t':=λw FR s σ H Q I q=>h w FR s σ H Q I (i σ H Q q)
theorem Af(ha:ST C k X a ta):SW C k X (.BoolOp .And [a] pos) ta:=λc=>Nd (ha c)
theorem PK(ha:ST C k X a ta):SW C k X (.BoolOp .Or [a] pos) ta:=λc=>Qc (ha c)
theorem w_and{rest:ve t_}(ha:ST C k X a ta)(hb:SW C k X (.BoolOp .And (b::rest) pos) tb):SW C k X (.BoolOp .And (a::b::rest) pos) (nO ta tb):=λc=>PW.imp (Qd (ha c) (hb c)) λσ H Q q=>by
 let⟨φ,δ,h,rh,re,p⟩:=q;refine⟨φ,δ,h,rh,re,(cX.bindB p).imp ?_⟩;rintro b H1 ⟨φ1,h1,p1,t1,ab,q1⟩;cases b with
 |true=>exact Ir ⟨φ1,δ,h1,ab,q0h 0,q1⟩
 |false=>exact Iq (q1.val ab)
theorem w_or{rest:ve t_}(ha:ST C k X a ta)(hb:SW C k X (.BoolOp .Or (b::rest) pos) tb):SW C k X (.BoolOp .Or (a::b::rest) pos) (CA ta tb):=λc=>PW.imp (Su (ha c) (hb c)) λσ H Q q=>by
 let⟨φ,δ,h,rh,re,p⟩:=q;refine⟨φ,δ,h,rh,re,(cX.bindB p).imp ?_⟩;rintro b H1 ⟨φ1,h1,p1,t1,ab,q1⟩;cases b with
 |true=>exact Ir (q1.val ab)
 |false=>exact Iq ⟨φ1,δ,h1,ab,q0h 0,q1⟩
def Hi(ma mb:Me):Me:=λδ h=>(ma δ h).bind λx h1=>match x with
 |.bl true=>mb δ h1
 |.bl false=>.ok (.bl false) h1
 |_=>.bad
def Hj(ma:Me):Me:=λδ h=>(ma δ h).bind λx h1=>match x with
 |.bl b=>.ok (.bl (!b)) h1
 |_=>.bad
theorem Tp{op}(h:G_ a ma):G_ (.BoolOp op [a] pos) ma:=λc=>Qf (h c)
theorem Tq{rest:ve t_}(ha:G_ a ma)(hb:G_ (.BoolOp .And (b::rest) pos) mb):G_ (.BoolOp .And (a::b::rest) pos) (Hi ma mb):=λc=>(NU (ha c) (hb c)).imp λσ H Q q=>by
 let⟨φ,δ,h,rh,re,p⟩:=q;refine⟨φ,δ,h,rh,re,(post.bind p).imp ?_⟩;rintro v H1 ⟨φ1,x,h1,p1,t1,ab,rv,q1⟩;cases x with
 |bl b=>
  cases rv
  cases b with
  |true=>exact Ir ⟨φ1,δ,h1,ab,q0h 0,q1⟩
  |false=>exact Iq (q1.val ab rfl)
 |_=>exact q1.elim
theorem Tr(ha:G_ a ma):G_ (.UnaryOp .Not a pos) (Hj ma):=λc=>(NV (ha c)).imp λσ H Q q=>by
 let⟨φ,δ,h,rh,re,p⟩:=q;refine⟨φ,δ,h,rh,re,(post.bind p).imp ?_⟩;rintro v H1 ⟨φ1,x,h1,p1,t1,ab,rv,q1⟩;cases x with
 |bl b=>cases rv;show q1.val ab rfl
 |_=>exact q1.elim
end
theorem RVs.atI{vs:ve V}{i:Int}{x:PV}(r:C_ xs vs)(e:L2.atI xs i=a_ x):∃v,L2.atI vs i=a_ v/\y_ x v:=by
 unfold L2.atI at e⊢;rw[<-r.length];cases q:ixN xs.length i with
 |none=>rw[q]at e;cases e
 |some j=>rw[q]at e;show r.at e
def ofO(o:v_ PV)(h:PH):Rs PV:=match o with
 |some p=>.ok p h
 |none=>.bad
def vIx:PV->PV->PH->Rs PV:=λx y h=>match x with
 |.str z=>(match y with
  |.int i=>if z.length<=X5 then ofO ((atI z.cps.toList i).map λc=>.str ⟨#[c]⟩) h else .bad
  |_=>.bad)
 |.tup xs=>(match y with
  |.int i=>ofO (atI xs i) h
  |_=>.bad)
 |.fl xs=>(match y with
  |.int i=>ofO (atI xs i) h
  |_=>.bad)
 |.ref n=>(match aV h n with
  |some xs=>(match y with
   |.int i=>ofO (atI xs i) h
   |_=>.bad)
  |none=>(match IV h n y with
   |some o=>ofO o h
   |none=>.bad))
 |_=>.bad
theorem post.ofO{o:v_ PV}{Q:VK}(q:Q_ (ofO o h) Q):∃p,o=a_ p/\Q_ (.ok p h) Q:=by
 cases o with
 |none=>exact q.elim
 |some b=>exact⟨b,rfl,q⟩
theorem Ts{x y:V}{Q:VK}(h:r2 C vIx x y H Q):T8 C.K x y H Q:=by
 let⟨φ,h,p,q,rh,rx,ry,po⟩:=h;unfold vIx at po;cases p with
 |str z=>
  cases rx
  cases q with
  |int i=>
   cases ry
   let⟨hz,po⟩:=po.ite;let⟨p,e,po⟩:=po.ofO;cases e':atI z.cps.toList i with
   |none=>rw[e']at e;cases e
   |some c=>rw[e']at e;cases e;show⟨hz,c,e',M_ rfl⟩
  |_=>exact po.elim
 |tup xs=>
  let⟨a,vs,rfl,sa,ra⟩:=rx;cases q with
  |int i=>
   cases ry
   let⟨p,e,po⟩:=po.ofO;let⟨v,hv,rv⟩:=ra.atI e;show .inl ⟨vs,i,v,rfl,.inr sa,hv,M_ rv⟩
  |_=>exact po.elim
 |fl xs=>
  let⟨a,vs,rfl,sa,ra⟩:=rx;cases q with
  |int i=>
   cases ry
   let⟨p,e,po⟩:=po.ofO;let⟨v,hv,rv⟩:=ra.atI e;show .inl ⟨vs,i,v,rfl,.inl sa.sq,hv,M_ rv⟩
  |_=>exact po.elim
 |ref n=>
  let⟨a,rfl,ha⟩:=rx;dsimp only at po;cases e:aV h n with
  |some xs=>
   rw[e]at po;let⟨a2,vs,aq,sa,ra⟩:=cJ rh e;rw[ha]at aq;cases aq;cases q with
   |int i=>
    cases ry
    let⟨p,e,po⟩:=po.ofO;let⟨v,hv,rv⟩:=ra.atI e;show .inl ⟨vs,i,v,rfl,.inl sa,hv,M_ rv⟩
   |_=>exact po.elim
  |none=>
   rw[e]at po;dsimp only at po;cases e':IV h n q with
   |none=>rw[e']at po;show po.elim
   |some o=>rw[e']at po;let⟨p,eo,po⟩:=po.ofO;let⟨o',g,_,hp⟩:=Ac rh ha ry e';let⟨w,rfl,cf⟩:=hp p eo;show .inr ⟨w,g,M_ cf⟩
 |_=>exact po.elim
variable{hi:v_ Int}{items:q0p 0}{vl vu:n_}
theorem rV{t sl:o_}{lo:v_ Int}(ht:IsTup s.heap t items)(hs:s.heap.IsSliceOf sl vl vu .none)(pl:IsPart vl lo)(pu:IsPart vu hi)(hw:HT.sIx items.size 0 lo=0/\HT.sIx items.size items.size hi=items.size)(h:Q (.ref t) s):x_ (getItem (.ref t) (.ref sl)) Q E s:=by
 let⟨os,i9,r9,ju⟩:=id hs;let ui:s.TypeIs (.ref sl) "slice" := ⟨os,i9,r9⟩;unfold getItem
 try with_reducible refine YZ ?_
 first|refine XJ (XM ?_)|skip
 refine XJ (wpAny_sequenceKey ht.typeIs nofun ?_);refine XJ (YT (name:=Zj "__getitem__") ht.typeIs Zg
  (Y1 Zg ht.typeIs entry_tuple_getitem ?_ (args_tuple_getitem _ _)))
 change z_ (y1N (.ref t) >>= _) _ _ s
 refine XJ (tupleItemsOf_ ht ?_);refine XJ (y1v ui ?_);rw[if_pos nofun];refine XJ (HT.sliceApplied_gen hs pl pu ?_);let iu:((((HT.sIx items.size 0 lo:Nat):Int) == 0&&(1:Int) == 1&&(HT.sIx items.size items.size hi-HT.sIx items.size 0 lo) == items.size)=true):=by rw[hw.1,hw.2];simp
 change z_ (if(((HT.sIx items.size 0 lo:Nat):Int) == 0&&(1:Int) == 1&&(HT.sIx items.size items.size hi-HT.sIx items.size 0 lo) == items.size)=true then _ else _) _ _ s
 rw[if_pos iu];refine XJ ?_;unfold Builtin.Tuple.tupleIsExact;refine XJ (y1v ht.typeIs (XM ?_));rw[if_pos nofun];refine XJ (y0f ?_);show XM ⟨_,rfl,XM h⟩
variable{C:MC}{k:Nat}{X:Cx}
def oO{α:Type}(xs:ve α)(lo hi:v_ Int):ve α:=(xs.drop (q0b 0 lo)).take (q0b xs.length hi-q0b 0 lo)
theorem RVs.cut{vs:ve V}(r:C_ xs vs)(lo hi:v_ Int):C_ (oO xs lo hi) (DP vs lo hi):=by unfold oO DP;rw[<-r.length];show(r.drop _).take _
def vSl:PV->v_ Int->v_ Int->PH->Rs PV:=λx lo hi h=>match x with
 |.str z=>if z.length<=X5 then .ok (.str (y1S z lo hi)) h else .bad
 |.tup xs=>.ok (.tup (oO xs lo hi)) h
 |.ref n=>match aV h n with
  |some xs=>.ok (.ref h.length) (h++[.lst (oO xs lo hi)])
  |none=>.bad
 |.fl xs=>.ok (.ref h.length) (h++[.lst (oO xs lo hi)])
 |_=>.bad
def Tt(K:XQ):V->v_ Int->v_ Int->Hp->VK->Prop:=λx lo hi H Q=>∃a xs,x=.ref a/\q1b a xs/\(q0b 0 lo=0/\q0b xs.length hi=xs.length)/\Q (.ref a) H
theorem KG:SlR X (Tt X.K):=by
 intro FR s σ H x v vl vu lo hi sl Q I rx hs pl pu h;let⟨a,xs,rfl,hx,hw,q⟩:=h;cases rx
 let⟨its,r,ht,hz⟩:=I.tuple hx;let hlen:its.toArray.size=xs.length:=by rw[X3];show r.length.symm
 refine⟨"tuple",_,Zg.lookup,ht.typeIs,?_⟩;show rV ht hs pl pu (by rw[hlen];show hw) ⟨.ref a,H,I,rfl,q⟩
theorem SlR.imp{r r':V->v_ Int->v_ Int->Hp->VK->Prop}(h:SlR X r)(i:∀x lo hi H Q,r' x lo hi H Q->r x lo hi H Q):SlR X r':=λFR s σ H x v vl vu lo hi sl Q I rx hs pl pu q=>q0t x v vl vu lo hi sl Q I rx hs pl pu (i x lo hi H Q q)
def r3(C:MC)(g:PV->v_ Int->v_ Int->PH->Rs PV):V->v_ Int->v_ Int->Hp->VK->Prop:=λx lo hi H Q=>∃φ h p,H_ h/\y_ p x/\Q_ (g p lo hi h) Q
theorem G8(hK:X.K=C.K):SlR X (r3 C vSl):=by
 let e:SlR X (λx lo hi H Q=>T6 x lo hi H Q\/SM C.K x lo hi H Q\/SR C.K x lo hi H Q\/Tt C.K x lo hi H Q):=by rw[<-hK];show QQ.or (QC.or (Ny.or KG))
 refine e.imp λx lo hi H Q h=>?_;let⟨φ,h,p,rh,rv,po⟩:=h;unfold vSl at po;cases p with
 |str z=>cases rv;show .inl ⟨z,rfl,po.ite.1,po.ite.2.val rh rfl⟩
 |tup xs=>
  let⟨a,vs,rfl,sa,ra⟩:=rv;by_cases hw:HT.sIx vs.length 0 lo=0/\HT.sIx vs.length vs.length hi=vs.length
  ·refine .inr (.inr (.inr ⟨a,vs,rfl,sa,hw,M_ ⟨a,vs,rfl,sa,?_⟩⟩));let e:oO xs lo hi=xs:=by unfold oO;rw[ra.length,hw.1,hw.2,Y0,y0v,<-ra.length,y1l]
   rw[e];show ra
  ·show .inr (.inl ⟨a,vs,rfl,sa,hw,λp hp=>po.tnew rh (ra.cut lo hi) hp⟩)
 |ref n=>
  let⟨a,rfl,ha⟩:=rv;dsimp only at po;cases e:aV h n with
  |none=>rw[e]at po;show po.elim
  |some xs=>rw[e]at po;let⟨a2,vs,aq,sa,ra⟩:=cJ rh e;rw[ha]at aq;cases aq;show .inr (.inr (.inl ⟨a,vs,rfl,sa,λp hp=>po.lnew rh (ra.cut lo hi) hp⟩))
 |fl xs=>let⟨a,vs,rfl,sa,ra⟩:=rv;show .inr (.inr (.inl ⟨a,vs,rfl,sa.sq,λp hp=>po.lnew rh (ra.cut lo hi) hp⟩))
 |_=>exact po.elim
abbrev Mo:=Ev->PH->Rs (v_ Int)
def xV(C:MC)(φ:ve o_)(H:Hp)(r:Rs (v_ Int))(Q:v_ Int->Hp->Prop):Prop:=match r with
 |.ok b h=>∀φ' H',φ<+:φ'->Kp H H'->q0H h->Q b H'
 |.exc x h=>∀φ' H',φ<+:φ'->Kp H H'->q0H h->C.ex φ' H' x
 |.bad=>False
def rdO(C:MC)(m:Mo):TO:=λσ H Q=>∃φ δ h,H_ h/\q0v 0/\xV C φ H (m δ h) Q
def SO(C:MC)(k:Nat)(X:Cx)(e:v_ t_)(m:Mo):Prop:=q0n X->PO X e (rdO C m)
def fD:Mo:=λ_ h=>.ok b_ h
def mP(m:Me):Mo:=λδ h=>(m δ h).bind λx h1=>match x with
 |.int i=>.ok (a_ i) h1
 |_=>.bad
theorem gM:SO C k X b_ fD:=λc FR s σ H Q I h=>by let⟨φ,δ,h,rh,re,p⟩:=h;show Nv FR s σ H Q I (p φ H X0 (Kp.refl H) rh)
theorem cR{m:Me}(h:G_ e m):SO C k X (a_ e) (mP m):=λc FR s σ H Q I q=>by
 refine Kj (h c) FR s σ H Q I ?_;let⟨φ,δ,h,rh,re,p⟩:=q;refine⟨φ,δ,h,rh,re,?_⟩;unfold mP at p;cases e':m δ h with
 |ok x h1=>
  rw[e']at p;intro φ' v H' p' t' dk aw;cases x with
  |int i=>cases aw;show p φ' H' p' t' dk
  |_=>exact p.elim
 |exc x h1=>rw[e']at p;show p
 |bad=>rw[e']at p;show p
def mSl(me:Me)(ml mh:Mo):Me:=λδ h=>(me δ h).bind λx h1=>(ml δ h1).bind λl h2=>(mh δ h2).bind λu h3=>vSl x l u h3
theorem xV.bind{r:Rs (v_ Int)}{f:v_ Int->PH->Rs PV}{Q:VK}(h:Q_ (r.bind f) Q):xV C φ H r λb H1=>∃φ1 h1,φ<+:φ1/\Kp H H1/\q0G 0/\post C φ1 H1 (f b h1) Q:=by
 cases r with
 |ok a h'=>exact λφ' H' p t rh=>⟨φ',h',p,t,rh,post.weak p t h⟩
 |exc a h'=>exact h
 |bad=>exact h
variable{Q':v_ Int->Hp->Prop}
theorem xV.imp{r:Rs (v_ Int)}{Q:v_ Int->Hp->Prop}(h:xV C φ H r Q)(i:∀v H',Q v H'->Q' v H'):xV C φ H r Q':=by
 cases r with
 |ok a h'=>exact λφ' H' p t rh=>i a H' (h φ' H' p t rh)
 |exc a h'=>exact h
 |bad=>exact h
variable{me:Me}{mh ml:Mo}{p2:Pos}
theorem oP{lo hi:v_ t_}(he:G_ e me)(hl:SO C k X lo ml)(hh:SO C k X hi mh):G_ (.Subscript e (.Slice lo hi b_ p2) pos) (mSl me ml mh):=λc=>(JZ (G8 c.K) (he c) (hl c) (hh c)).imp λσ H Q h=>by let⟨φ,δ,h,rh,re,p⟩:=h;refine⟨φ,δ,h,rh,re,(post.bind p).imp ?_⟩;rintro v H1 ⟨φ1,x,h1,p1,t1,ab,ae,q1⟩;refine⟨φ1,δ,h1,ab,q0h 0,(xV.bind q1).imp ?_⟩;rintro l H2 ⟨φ2,h2,p2,t2,ar,q2⟩;refine⟨φ2,δ,h2,ar,re.mono (p1.trans p2) (t1.trans t2),(xV.bind q2).imp ?_⟩;rintro u H3 ⟨φ3,h3,p3,t3,ft,q3⟩;show⟨φ3,h3,x,ft,ae.mono (p2.trans p3) (t2.trans t3),q3⟩
abbrev Ma:=Ev->PH->Rs (ve PV)
def aE:Ma:=λ_ h=>.ok [] h
def aB(m:Me)(ms:Ma):Ma:=λδ h=>(m δ h).bind λx h1=>(ms δ h1).bind λxs h2=>.ok (x::xs) h2
theorem PA.imp{t t':TA}(h:PA X es t)(i:∀σ H Q,t' σ H Q->t σ H Q):PA X es t':=λpos FR s σ H Q I q=>h pos FR s σ H Q I (i σ H Q q)
theorem aH:SA C k X [] aE:=λc=>Cd.imp λσ H Q h=>by let⟨φ,δ,h,rh,re,p⟩:=h;show p φ [] H X0 (Kp.refl H) rh trivial
theorem postA.imp{Q Q':ve V->Hp->Prop}(h:postA C φ H r Q)(i:∀v H',Q v H'->Q' v H'):postA C φ H r Q':=by
 cases r with
 |ok a h'=>exact λφ' v H' p t rh rv=>i v H' (h φ' v H' p t rh rv)
 |exc a h'=>exact h
 |bad=>exact h
variable{ms:Ma}
theorem aC{m:Me}(he:G_ e m)(hs:SA C k X es ms)(hh:Yr (e::es) X.env=(false,q0j 0)::q0i 0:=by rfl):SA C k X (e::es) (aB m ms):=λc=>(yX (he c) (hs c) hh).imp λσ H Q h=>by let⟨φ,δ,h,rh,re,p⟩:=h;refine⟨φ,δ,h,rh,re,(post.bindA p).imp ?_⟩;rintro v H1 ⟨φ1,x,h1,p1,t1,ab,ae,q1⟩;refine⟨φ1,δ,h1,ab,q0h 0,(postA.bindA q1).imp ?_⟩;rintro vs H2 ⟨φ2,xs,h2,p2,t2,ar,b8,q2⟩;show q2 φ2 (v::vs) H2 X0 (Kp.refl H2) ar ⟨ae.mono p2 t2,b8⟩
def cO(ms:Ma):Me:=λδ h=>(ms δ h).bind λxs h1=>if xs.length<=X5 then .ok (.tup xs) h1 else .bad
def iS(ms:Ma):Me:=λδ h=>(ms δ h).bind λxs h1=>if xs.length<=X5 then .ok (.ref h1.length) (h1++[.lst xs]) else .bad
theorem cL{x1}(hs:SA C k X es ms):G_ (.Tuple es x1 pos) (cO ms):=λc=>(Qz (hs c)).imp λσ H Q h=>by let⟨φ,δ,h,rh,re,p⟩:=h;refine⟨φ,δ,h,rh,re,(postA.bind p).imp ?_⟩;rintro vs H1 ⟨φ1,xs,h1,p1,t1,ab,ae,q1⟩;show⟨by rw[<-ae.length];show q1.ite.1,λp hp=>q1.ite.2.tnew ab ae hp⟩
theorem mG(hs:SA C k X es ms):G_ (.List es pos) (iS ms):=λc=>(QA (hs c)).imp λσ H Q h=>by let⟨φ,δ,h,rh,re,p⟩:=h;refine⟨φ,δ,h,rh,re,(postA.bind p).imp ?_⟩;rintro vs H1 ⟨φ1,xs,h1,p1,t1,ab,ae,q1⟩;show⟨by rw[<-ae.length];show q1.ite.1,λp hp=>q1.ite.2.lnew ab ae hp⟩
def Ag:Me:=λ_ h=>.ok (.ref h.length) (h++[.dK []])
theorem CB:G_ (.Dict [] [] pos) Ag:=λc=>K7.imp λσ H Q h=>by let⟨φ,δ,h,rh,re,p⟩:=h;intro a ha;show p (φ++[a]) (.ref a) _ (Zu _ _) (Kp.new ha) (rh.new ha ⟨[],bH,.nil⟩) ⟨a,rfl,by rw[<-rh.len];simp⟩
def mCB(g:ve PV->PH->Rs PV)(ms:Ma):Me:=λδ h=>(ms δ h).bind g
theorem PL{g:ve PV->PH->Rs PV}{σ:St}{Q:VK}(h:rd C (mCB g ms) σ H Q):tCB (rL C g) (rdA C ms) σ H Q:=by let⟨φ,δ,h,rh,re,p⟩:=h;refine⟨φ,δ,h,rh,re,(postA.bind p).imp ?_⟩;rintro vs H1 ⟨φ1,xs,h1,p1,t1,ab,ae,q1⟩;show⟨φ1,h1,xs,ab,ae,q1⟩
theorem cY{p:Pos}{id:String}{g:ve PV->PH->Rs PV}(hc:uE C k X (.builtin id) g)(hv:y09 x=a_ (.builtin id))(ha:SA C k X (e::es) ms)(hb:x∈C.bs:=by decide)(hg:Gl X x:=by rfl)(hn:x≠"__name__" := by decide)(c8:(x == ("__debug__" : Str))=false:=by decide)(he:Yr (e::es) X.env=(false,q0j 0)::q0i 0:=by rfl)(bz:(q0Q (q0i 0)).any (·.1)=false:=by rfl):G_ (.Call (.Name x p) (e::es) [] pos) (mCB g ms):=λc=>(DO (hc c) hg (c.bn x hb) hv (ha c) hn c8 he bz).imp λσ H Q h=>PL h
variable{T:String}
theorem Ah{p:Pos}{g:ve PV->PH->Rs PV}(hc:uE C k X (.type T) g)(hv:y09 x=a_ (.type T))(ha:SA C k X (e::es) ms)(hb:x∈C.bs:=by decide)(hg:Gl X x:=by rfl)(hn:x≠"__name__" := by decide)(c8:(x == ("__debug__" : Str))=false:=by decide)(he:Yr (e::es) X.env=(false,q0j 0)::q0i 0:=by rfl)(bz:(q0Q (q0i 0)).any (·.1)=false:=by rfl):G_ (.Call (.Name x p) (e::es) [] pos) (mCB g ms):=λc=>(BB (hc c) hg (c.bn x hb) hv (ha c) hn c8 he bz).imp λσ H Q h=>PL h
def spM(C:MC)(n:Nat)(f:Fn):Sp:=λvs H Q _=>∃φ h ps,H_ h/\C_ ps vs/\ps.length=n/\Q_ (f ps h) Q
def bS(n:Nat)(f:Fn)(ms:Ma):Me:=λδ h=>(ms δ h).bind λps h1=>if ps.length=n then f ps h1 else .bad
theorem s_call{p:Pos}{st:u_}{f:Fn}(D:Def C.K X.mg x st a fd ps)(G:q0d a fd ps (spM C n f))(ha:SA C k X (e::es) ms)(hj:j<=k:=by decide)(hg:Gl X x:=by rfl)(c8:(x == ("__debug__" : Str))=false:=by decide)(he:Yr (e::es) X.env=(false,q0j 0)::q0i 0:=by rfl)(bz:(q0Q (q0i 0)).any (·.1)=false:=by rfl):
  G_ (.Call (.Name x p) (e::es) [] pos) (bS n f ms):=λc=>by
 let e1:=c.K;let D':Def X.K X.mg x st a fd ps:=by rw[e1];show D
 let G':T_ CX0 j a fd ps (spM C n f):=by rw[e1];show G
 refine(Td D' G' (c.room.mono hj) (ha c) hg c8 he bz).imp λσ H Q h=>?_;let⟨φ,δ,h,rh,re,p⟩:=h;refine⟨φ,δ,h,rh,re,(postA.bind p).imp ?_⟩;rintro vs H1 ⟨φ1,xs,h1,p1,t1,ab,ae,q1⟩;refine⟨φ1,h1,xs,ab,by rw[YY];show ae,q1.ite.1,q1.ite.2⟩
def dN:ve PV->PH->Rs PV:=λxs h=>match xs with
 |[.str y]=>if y.length<=X5 then .ok (.int y.length) h else .bad
 |[.tup ys]=>.ok (.int ys.length) h
 |[.fl ys]=>.ok (.int ys.length) h
 |[.ref n]=>match aV h n with
  |some ys=>.ok (.int ys.length) h
  |none=>match h[n]? with
   |some (.dK kvs)=>.ok (.int kvs.length) h
   |_=>.bad
 |_=>.bad
theorem RVs.one{x:PV}{vs:ve V}(r:C_ [x] vs):∃v,vs=[v]/\y_ x v:=by
 match vs,r with
 |[v],⟨h,_⟩=>exact⟨v,rfl,h⟩
 |[],h=>exact h.elim
 |_::_::_,⟨_,h⟩=>exact h.elim
variable{y:PV}
theorem RVs.two{x:PV}{vs:ve V}(r:C_ [x,y] vs):∃v w,vs=[v,w]/\y_ x v/\y_ y w:=by
 match vs,r with
 |[v,w],⟨h,h',_⟩=>exact⟨v,w,rfl,h,h'⟩
 |[],h=>exact h.elim
 |[_],⟨_,h⟩=>exact h.elim
 |_::_::_::_,⟨_,_,h⟩=>exact h.elim
theorem kZ:uE C k X (.builtin "len") dN:=λc=>(IG C.K c.K).imp λvs H Q h=>by
 let⟨φ,h,ps,rh,rv,po⟩:=h;unfold dN at po;split at po
 ·let⟨v,rfl,rx⟩:=rv.one;cases rx
  show⟨po.ite.1,po.ite.2.val rh rfl⟩
 ·let⟨v,rfl,rx⟩:=rv.one;let⟨a,vs,rfl,sa,ra⟩:=rx;show .inl ⟨vs,.inr sa,by rw[<-ra.length];show M_ rfl⟩
 ·let⟨v,rfl,rx⟩:=rv.one;let⟨a,vs,rfl,sa,ra⟩:=rx;show .inl ⟨vs,.inl sa.sq,by rw[<-ra.length];show M_ rfl⟩
 ·rename_i n;let⟨v,rfl,rx⟩:=rv.one;let⟨a,rfl,ha⟩:=rx;split at po
  ·rename_i ys e;let⟨a2,vs,aq,sa,ra⟩:=cJ rh e;rw[ha]at aq;cases aq;show .inl ⟨vs,.inl sa,by rw[<-ra.length];show M_ rfl⟩
  ·split at po
   ·rename_i kvs hk;let⟨ks,hH,rk⟩:=q0l hk;refine .inr ⟨ks,hH,?_⟩;have:ks.length=kvs.length:=(YV rk).symm;rw[this];show M_ rfl
   ·show po.elim
 ·show po.elim
def sO:ve PV->PH->Rs PV:=λxs h=>match xs with
 |[.tup ys]=>.ok (.tup ys) h
 |[.fl ys]=>.ok (.tup ys) h
 |[.ref n]=>match aV h n with
  |some ys=>.ok (.tup ys) h
  |none=>.bad
 |_=>.bad
theorem O5:uE C k X (.type "tuple") sO:=λc=>(Ec C.K c.K).imp λvs H Q h=>by
 let⟨φ,h,ps,rh,rv,po⟩:=h;unfold sO at po;split at po
 ·let⟨v,rfl,rx⟩:=rv.one;let⟨a,vs,rfl,sa,ra⟩:=rx;show⟨a,vs,rfl,.inr ⟨sa,M_ ⟨a,vs,rfl,sa,ra⟩⟩⟩
 ·let⟨v,rfl,rx⟩:=rv.one;let⟨a,vs,rfl,sa,ra⟩:=rx;show⟨a,vs,rfl,.inl ⟨sa.sq,λp hp=>po.tnew rh ra hp⟩⟩
 ·rename_i n;let⟨v,rfl,rx⟩:=rv.one;let⟨a,rfl,ha⟩:=rx;split at po
  ·rename_i ys e;let⟨a2,vs,aq,sa,ra⟩:=cJ rh e;rw[ha]at aq;cases aq;show⟨a,vs,rfl,.inl ⟨sa,λp hp=>po.tnew rh ra hp⟩⟩
  ·show po.elim
 ·show po.elim
def Hk:ve PV->PH->Rs PV:=λxs h=>match xs with
 |[.tup ys]=>.ok (.ref h.length) (h++[.lst ys])
 |[.fl ys]=>.ok (.ref h.length) (h++[.lst ys])
 |[.ref n]=>match aV h n with
  |some ys=>.ok (.ref h.length) (h++[.lst ys])
  |none=>.bad
 |_=>.bad
theorem R5:uE C k X (.type "list") Hk:=λc=>(FW C.K c.K).imp λvs H Q h=>by
 let⟨φ,h,ps,rh,rv,po⟩:=h;unfold Hk at po;split at po
 ·let⟨v,rfl,rx⟩:=rv.one;let⟨a,vs,rfl,sa,ra⟩:=rx;show⟨a,vs,rfl,.inr sa,λp hp=>po.lnew rh ra hp⟩
 ·let⟨v,rfl,rx⟩:=rv.one;let⟨a,vs,rfl,sa,ra⟩:=rx;show⟨a,vs,rfl,.inl sa.sq,λp hp=>po.lnew rh ra hp⟩
 ·rename_i n;let⟨v,rfl,rx⟩:=rv.one;let⟨a,rfl,ha⟩:=rx;split at po
  ·rename_i ys e;let⟨a2,vs,aq,sa,ra⟩:=cJ rh e;rw[ha]at aq;cases aq;show⟨a,vs,rfl,.inl sa,λp hp=>po.lnew rh ra hp⟩
  ·show po.elim
 ·show po.elim
def Vk:ve PV->PH->Rs PV:=λxs h=>match xs with
 |[.int i,.int j]=>.ok (.int (if j>i then j else i)) h
 |_=>.bad
variable{C:MC}{k:Nat}{X:Cx}
def Rs.fl{α:Type}(r:Rs α)(f:α->PH->Fl):Fl:=match r with
 |.ok a h=>f a h
 |.exc x h=>.exc x h
 |.bad=>.bad
@[simp]theorem Rs.fl_ok{α:Type}(a:α)(h:PH)(f:α->PH->Fl):(Rs.ok a h).fl f=f a h:=(rfl)
theorem post.fl{r:Rs PV}{f:PV->PH->Fl}{D:Ends}(h:dM C φ H (r.fl f) D):Q_ r λv H1=>∃φ1 p h1,φ<+:φ1/\Kp H H1/\q0G 0/\RV C φ1 H1 p v/\dM C φ1 H1 (f p h1) D:=by
 cases r with
 |ok a h'=>exact λφ' v H' p t rh rv=>⟨φ',a,h',p,t,rh,rv,dM.weak p t h⟩
 |exc a h'=>exact h
 |bad=>exact h
theorem cX.fl{r:Rs Bool}{f:Bool->PH->Fl}{D:Ends}(h:dM C φ H (r.fl f) D):cX C φ H r λb H1=>∃φ1 h1,φ<+:φ1/\Kp H H1/\q0G 0/\dM C φ1 H1 (f b h1) D:=by
 cases r with
 |ok a h'=>exact λφ' H' p t rh=>⟨φ',h',p,t,rh,dM.weak p t h⟩
 |exc a h'=>exact h
 |bad=>exact h
theorem dM.nx{D:Ends}{σ:St}(q:dM C φ H (.nx δ h) D)(rh:H_ h)(re:q0v 0):D.nx σ H:=q φ σ H X0 (Kp.refl H) rh re
theorem dM.rt{D:Ends}{v:V}(q:dM C φ H (.rt p h) D)(rh:H_ h)(rv:y_ p v):D.rt v H:=q φ v H X0 (Kp.refl H) rh rv
abbrev Mg:=PV->Ev->v_ Ev
abbrev Mgs:=ve PV->Ev->v_ Ev
def rdG(C:MC)(t:Mg):TG:=λv σ H Q=>∃φ δ h p δ',H_ h/\q0v 0/\y_ p v/\t p δ=a_ δ'/\∀σ',RE C φ H δ' σ'->Q σ' H
def Vl(C:MC)(t:Mgs):TGs:=λvs σ H Q=>∃φ δ h ps δ',H_ h/\q0v 0/\C_ ps vs/\t ps δ=a_ δ'/\∀σ',RE C φ H δ' σ'->Q σ' H
def SG(C:MC)(k:Nat)(X:Cx)(e:t_)(t:Mg):Prop:=q0n X->PG X e (rdG C t)
def SGs(C:MC)(k:Nat)(X:Cx)(es:ve t_)(t:Mgs):Prop:=q0n X->PGs X es (Vl C t)
def gN(i:Nat):Mg:=λp δ=>a_ (δ.set i (a_ p))
def gNl:Mgs:=λps δ=>match ps with
 |[]=>a_ δ
 |_::_=>b_
def gCn(t:Mg)(u:Mgs):Mgs:=λps δ=>match ps with
 |p::r=>(t p δ).bind (u r)
 |[]=>b_
def gTp(n:Nat)(u:Mgs):Mg:=λp δ=>match p with
 |.tup ps=>if ps.length=n then u ps δ else b_
 |_=>b_
theorem PG.imp{t t':TG}(h:PG X e t)(i:∀v σ H Q,t' v σ H Q->t v σ H Q):PG X e t':=λFR s σ H v u Q I r q=>q0t v u Q I r (i v σ H Q q)
theorem PGs.imp{t t':TGs}(h:PGs X es t)(i:∀v σ H Q,t' v σ H Q->t v σ H Q):PGs X es t':=λFR s σ H v u Q I r q=>q0t v u Q I r (i v σ H Q q)
theorem aT(hN:X.N.Nodup)(hi:X.N[i]?=a_ x:=by rfl)(hx:Loc X.env.scope x:=by first|exact Or.inl rfl|exact Or.inr rfl)(hf:X.fn x=true\/q0c 0=a_ .local:=by first|exact .inl rfl|exact .inr rfl):SG C k X (.Name x pos) (gN i):=λc=>
 (Ni hN hi hx hf).imp λv σ H Q h=>by
  let⟨φ,δ,h,p,δ',rh,re,rv,e,q⟩:=h;cases e
  show q _ (re.set rv i)
theorem lH:SGs C k X [] gNl:=λc=>Nj.imp λv σ H Q h=>by
 let⟨φ,δ,h,ps,δ',rh,re,rv,e,q⟩:=h;cases ps with
 |nil=>
  cases e
  cases v with
  |nil=>exact⟨rfl,q σ re⟩
  |cons=>exact rv.elim
 |cons=>cases e
theorem bI{t:Mg}{u:Mgs}(h1:SG C k X e t)(h2:SGs C k X es u)(hs:(y0L (e::es) X.env).map (·.2)=assign e X.env::(y0L es X.env).map (·.2):=by rfl):SGs C k X (e::es) (gCn t u):=λc=>
 (JK (h1 c) (h2 c) hs).imp λvs σ H Q h=>by
  let⟨φ,δ,h,ps,δ',rh,re,rv,e,q⟩:=h;cases ps with
  |nil=>cases e
  |cons p r=>
   cases vs with
   |nil=>exact rv.elim
   |cons v vs=>
    let⟨δ1,e1,e2⟩:=Option.bind_eq_some_iff.mp (show(t p δ).bind (u r)=a_ δ' from e)
    show⟨v,vs,rfl,φ,δ,h,p,δ1,rh,re,rv.1,e1,λσ' se=>⟨φ,δ1,h,r,δ',rh,se,rv.2,e2,q⟩⟩
theorem lI{u:Mgs}(h:SGs C k X es u)(hn:(y0L es X.env).length=n:=by rfl)(b9:(y0L es X.env).findIdx? (·.1)=b_:=by rfl):SG C k X (.Tuple es j pos) (gTp n u):=λc=>
 (gT C.K c.K c.calm (h c) hn b9).imp λv σ H Q h=>by
  let⟨φ,δ,h,p,δ',rh,re,rv,e,q⟩:=h;cases p with
  |tup ps=>
   let⟨a,vs,rfl,sa,ra⟩:=rv;by_cases hl:ps.length=n
   ·let e':u ps δ=a_ δ':=by have:(if ps.length=n then u ps δ else b_)=a_ δ':=e;rw[if_pos hl]at this;show this
    show⟨a,vs,rfl,sa,by rw[<-ra.length];show hl,φ,δ,h,ps,δ',rh,re,ra,e',q⟩
   ·have:(if ps.length=n then u ps δ else b_)=a_ δ':=e;rw[if_neg hl]at this;cases this
  |_=>cases e
theorem PS.imp{st:u_}{t t':TS}(h:PS X st t)(i:∀D σ H,t' D σ H->t D σ H):PS X st t':=λFR s σ H D I q=>q0t D I (i D σ H q)
theorem PSs.imp{st:ve u_}{t t':TS}(h:PSs X st t)(i:∀D σ H,t' D σ H->t D σ H):PSs X st t':=λFR s σ H D I q=>q0t D I (i D σ H q)
def aO(a b:Ms):Ms:=λδ h=>match a δ h with
 |.nx δ1 h1=>b δ1 h1
 |r=>r
def fE:Ms:=λδ h=>.nx δ h
def aZ(i:Nat)(m:Me):Ms:=λδ h=>(m δ h).fl λp h1=>.nx (δ.set i (a_ p)) h1
def yP(m:Me)(t:Mg):Ms:=λδ h=>(m δ h).fl λp h1=>match t p δ with
 |some δ'=>.nx δ' h1
 |none=>.bad
def pZ(m:Me):Ms:=λδ h=>(m δ h).fl λ_ h1=>.nx δ h1
def bY(m:Me):Ms:=λδ h=>(m δ h).fl λp h1=>.rt p h1
def cZ(t:Ev->PH->Rs Bool)(a b:Ms):Ms:=λδ h=>(t δ h).fl λc h1=>match c with
 |true=>a δ h1
 |false=>b δ h1
variable{xp:t_}
section
variable{st:u_}{rest:ve u_}{a b:Ms}{m:Me}
theorem dO:SSs C k X [] fE:=λc=>Nf.imp λD σ H h=>by let⟨φ,δ,h,rh,re,p⟩:=h;show p.nx rh re
theorem R6{r:Fl}{b:Ms}{D:Ends}(h:dM C φ H (match r with|.nx δ1 h1=>b δ1 h1|r=>r) D):dM C φ H r { D with nx:=rdS C b D}:=by
 cases r with
 |nx δ h'=>exact λφ' σ H' p t rh re=>⟨φ',δ,h',rh,re,dM.weak p t h⟩
 |rt p h'=>exact h
 |bk δ h'=>exact h
 |ct δ h'=>exact h
 |exc x h'=>exact h
 |bad=>exact h
theorem aF(h1:SSt C k X st a)(h2:SSs C k X rest b):SSs C k X (st::rest) (aO a b):=λc=>(JI (h1 c) (h2 c)).imp λD σ H h=>by let⟨φ,δ,h,rh,re,p⟩:=h;show⟨φ,δ,h,rh,re,R6 p⟩
theorem aK(h1:SSt C k X st a):SSs C k X [st] a:=λc=>Ng (h1 c)
theorem bF(hN:X.N.Nodup)(he:G_ e m)(hi:X.N[i]?=a_ x:=by rfl)(hx:Loc X.env.scope x:=by first|exact Or.inl rfl|exact Or.inr rfl)(hs:swapsWith e (a_ (.Name x pos')) pos.line X.env=pure false:=by rfl)(hf:X.fn x=true\/q0c 0=a_ .local:=by first|exact .inl rfl|exact .inr rfl):SSt C k X (.Assign [.Name x pos'] e pos) (aZ i m):=λc=>(Qm hN hi hx (he c) hs hf).imp λD σ H h=>by let⟨φ,δ,h,rh,re,p⟩:=h;refine⟨φ,δ,h,rh,re,(post.fl p).imp ?_⟩;rintro v H1 ⟨φ1,x,h1,p1,t1,ab,ae,q1⟩;show q1.nx ab ((q0h 0).set ae i)
theorem xW{t:Mg}(he:G_ e m)(hg:SG C k X tg t)(hs:swapsWithSole [tg] e pos.line X.env=pure false:=by rfl)(hw:swappedStores [tg] e X.env=pure b_:=by rfl)(h1:(y0L [tg] X.env).map (·.2)=[assign tg X.env]:=by rfl):SSt C k X (.Assign [tg] e pos) (yP m t):=λc=>(Ql (he c) (hg c) hs hw h1).imp λD σ H h=>by
 let⟨φ,δ,h,rh,re,p⟩:=h;refine⟨φ,δ,h,rh,re,(post.fl p).imp ?_⟩;rintro v H1 ⟨φ1,x,h1,p1,t1,ab,ae,q1⟩;cases et:t x δ with
 |none=>rw[et]at q1;show q1.elim
 |some δ'=>rw[et]at q1;show⟨φ1,δ,h1,x,δ',ab,q0h 0,ae,et,λσ' se=>q1.nx ab se⟩
theorem mH(he:G_ e m)(hs:swapsWith e b_ pos.line X.env=pure false:=by rfl):SSt C k X (.Expr e pos) (pZ m):=λc=>(Nh (he c) hs).imp λD σ H h=>by let⟨φ,δ,h,rh,re,p⟩:=h;refine⟨φ,δ,h,rh,re,(post.fl p).imp ?_⟩;rintro v H1 ⟨φ1,x,h1,p1,t1,ab,ae,q1⟩;show q1.nx ab (q0h 0)
theorem cD(he:G_ e m):SSt C k X (.Return (a_ e) pos) (bY m):=λc=>(Qi (he c)).imp λD σ H h=>by let⟨φ,δ,h,rh,re,p⟩:=h;refine⟨φ,δ,h,rh,re,(post.fl p).imp ?_⟩;rintro v H1 ⟨φ1,x,h1,p1,t1,ab,ae,q1⟩;show q1.rt ab ae
theorem iT{as bs:ve u_}{t:Ev->PH->Rs Bool}(hc:ST C k X xp t)(ha:SSs C k X as a)(hb:SSs C k X bs b):SSt C k X (.If xp as bs pos) (cZ t a b):=λc=>(Sx (hc c) (ha c) (hb c)).imp λD σ H h=>by
 let⟨φ,δ,h,rh,re,p⟩:=h;refine⟨φ,δ,h,rh,re,(cX.fl p).imp ?_⟩;rintro d H1 ⟨φ1,h1,p1,t1,ab,q1⟩;cases d with
 |true=>exact Ir ⟨φ1,δ,h1,ab,q0h 0,q1⟩
 |false=>exact Iq ⟨φ1,δ,h1,ab,q0h 0,q1⟩
end
structure Wk where
 xs:ve PV
 g:PH->Bool
def IY(C:MC)(J:It)(w:Wk)(φ0:ve o_)(H0:Hp):Prop:=∀φ H h,φ0<+:φ->Kp H0 H->H_ h->w.g h=true->∀i:Nat,
 (i<w.xs.length->J.go i H/\∀x H',J.yld i H x H'->(∃p,w.xs[i]?=a_ p/\RV C φ H' p x)/\Kp H H'/\RH C φ H' h)/\(w.xs.length<=i->J.stop i H)
abbrev Mi:=Ev->PH->Rs Wk
def kB(C:MC)(φ:ve o_)(H:Hp)(r:Rs Wk)(R:It->Hp->Prop):Prop:=match r with
 |.ok w h=>∀φ' H' J,φ<+:φ'->Kp H H'->q0H h->IY C J w φ' H'->R J H'
 |.exc x h=>∀φ' H',φ<+:φ'->Kp H H'->q0H h->C.ex φ' H' x
 |.bad=>False
def rdI(C:MC)(m:Mi):TI:=λσ H R=>∃φ δ h,H_ h/\q0v 0/\kB C φ H (m δ h) R
def SI(C:MC)(k:Nat)(X:Cx)(tg iter:t_)(m:Mi):Prop:=q0n X->PI X tg iter (rdI C m)
def uF(n:Nat)(xs:ve PV)(h':PH):Bool:=match aV h' n with
 |some ys=>PV.beqs ys xs
 |none=>false
def ofSeq(x:PV)(h:PH):Rs Wk:=match x with
 |.tup xs=>.ok ⟨xs,λ_=>true⟩ h
 |.ref n=>match aV h n with
  |some xs=>.ok ⟨xs,uF n xs⟩ h
  |none=>.bad
 |.fl xs=>.ok ⟨xs,λ_=>true⟩ h
 |_=>.bad
def bZ(m:Me):Mi:=λδ h=>(m δ h).bind ofSeq
theorem lJ{m:Me}(h:G_ iter m):SI C k X tg iter (bZ m):=λc=>by
 intro FR s σ H R I q;let⟨φ,δ,hh,rh,re,p⟩:=q;let key:rd C m σ H λv H1=>∃φ1 x h1,φ<+:φ1/\Kp H H1/\q0G 0/\RV C φ1 H1 x v/\kB C φ1 H1 (ofSeq x h1) R:=by
  refine⟨φ,δ,hh,rh,re,?_⟩;unfold bZ at p;cases e:m δ hh with
  |ok x h1=>
   rw[e]at p;intro φ' v H' p' t' dk aw;refine⟨φ',x,h1,p',t',dk,aw,?_⟩
   change kB C φ' H' (ofSeq x h1) R
   let p0:kB C φ H (ofSeq x h1) R:=p;cases e2:ofSeq x h1 with
   |ok w h2=>rw[e2]at p0;show λφ2 H2 J p2 t2=>p0 φ2 H2 J (p'.trans p2) (t'.trans t2)
   |exc z h2=>rw[e2]at p0;show λφ2 H2 p2 t2=>p0 φ2 H2 (p'.trans p2) (t'.trans t2)
   |bad=>rw[e2]at p0;show p0
  |exc x h1=>rw[e]at p;show p
  |bad=>rw[e]at p;show p
 refine thn (h c FR s σ H _ I key) λv s1 hz=>?_;let⟨x,H1,I1,r1,φ1,x',h1,p1,t1,ab,ae,q1⟩:=hz;unfold ofSeq at q1;cases x' with
 |tup xs=>
  let⟨a,vs,rfl,sa,ra⟩:=ae;cases r1
  rw[<-c.K]at sa;let⟨its,rv,p,hz⟩:=I1.tuple sa;refine wpAny_pyIter_tuple (show s1.heap.IsTuple a its.toArray from p) ?_
  refine⟨(c_ s1),[(c_ s1)],_,_,H1,rfl,I1.kept (t':=s1.toks) λb o e=>XO _ e,Fx a _,⟨_,q0O 0,rfl,rfl⟩,λb hb=>?_,?_⟩
  ·let e:b=(c_ s1):=by simpa using hb
   subst e;show I1.fpOk (X1 _) (I1.hok.fresh (X1 _))
  ·refine q1 φ1 H1 (Itt X.K a) X0 (Kp.refl H1) ab λφ2 H2 h2 p2 t2 ar _ i=>⟨λhi=>?_,λhi=>⟨vs,t2.sq sa,by rw[<-ra.length];show hi⟩⟩;let bf:i<vs.length:=by rw[<-ra.length];show hi
   refine⟨⟨vs,vs[i],t2.sq sa,by simp[bf]⟩,λx H' y=>?_⟩;let⟨e,y⟩:=y;subst e;let⟨x2,e2,r2⟩:=ra.get (y vs (t2.sq sa));show⟨⟨x2,e2,r2.mono p2 t2⟩,Kp.refl _,ar⟩
 |ref n=>
  let⟨a,rfl,ha⟩:=ae;cases r1
  dsimp only at q1;cases e:aV h1 n with
  |none=>rw[e]at q1;show q1.elim
  |some xs=>
   rw[e]at q1;let⟨a2,vs,aq,sa,ra⟩:=cJ ab e;rw[ha]at aq;cases aq;let lj:SqL X.K H1 a vs:=by rw[c.K];show sa
   let⟨its,rv,p,hz⟩:=I1.list lj;refine y1M p.isList ?_;refine⟨(c_ s1),[(c_ s1)],_,_,H1,rfl,I1.kept (t':=s1.toks) λb o e=>XO _ e,Bw a _,⟨_,q0O 0,rfl,rfl⟩,λb hb=>?_,?_⟩
   ·let e:b=(c_ s1):=by simpa using hb
    subst e;show I1.fpOk (X1 _) (I1.hok.fresh (X1 _))
   ·refine q1 φ1 H1 (Itl X.K a) X0 (Kp.refl H1) ab λφ2 H2 h2 p2 t2 ar hg i=>?_;let hg:(match aV h2 n with|some ys=>PV.beqs ys xs|none=>false)=true:=hg
    cases e2:aV h2 n with
    |none=>rw[e2]at hg;cases hg
    |some ys=>
     rw[e2]at hg;let j8:=PV.beqs_eq hg;subst j8;let⟨a3,us,jo,su,ru⟩:=cJ ar e2;rw[kF p2 ha]at jo;cases jo;rw[<-c.K]at su;refine⟨λhi=>?_,λhi=>⟨us,su,by rw[<-ru.length];show hi⟩⟩;let bf:i<us.length:=by rw[<-ru.length];show hi
     refine⟨⟨us,us[i],su,by simp[bf]⟩,λx H' y=>?_⟩;let⟨e,y⟩:=y;subst e;let⟨x2,e2,r2⟩:=ru.get (y us su);show⟨⟨x2,e2,r2⟩,Kp.refl _,ar⟩
 |fl xs=>
  let⟨a,vs,rfl,sa,ra⟩:=ae;cases r1
  rw[<-c.K]at sa;let⟨its,rv,p,hz⟩:=I1.list sa.sq;refine y1M p.isList ?_;refine⟨(c_ s1),[(c_ s1)],_,_,H1,rfl,I1.kept (t':=s1.toks) λb o e=>XO _ e,Bw a _,⟨_,q0O 0,rfl,rfl⟩,λb hb=>?_,?_⟩
  ·let e:b=(c_ s1):=by simpa using hb
   subst e;show I1.fpOk (X1 _) (I1.hok.fresh (X1 _))
  ·refine q1 φ1 H1 (Itl X.K a) X0 (Kp.refl H1) ab λφ2 H2 h2 p2 t2 ar _ i=>⟨λhi=>?_,λhi=>⟨vs,(t2.sf sa).sq,by rw[<-ra.length];show hi⟩⟩;let bf:i<vs.length:=by rw[<-ra.length];show hi
   refine⟨⟨vs,vs[i],(t2.sf sa).sq,by simp[bf]⟩,λx H' y=>?_⟩;let⟨e,y⟩:=y;subst e;let⟨x2,e2,r2⟩:=ra.get (y vs (t2.sf sa).sq);show⟨⟨x2,e2,r2.mono p2 t2⟩,Kp.refl _,ar⟩
 |_=>exact q1.elim
def upTo(lo:Int):Nat->ve PV
 |0=>[]
 |n+1=>.int lo::upTo (lo+1) n
theorem fF:∀(n:Nat)(lo:Int),(upTo lo n).length=n
 |0,_=>rfl
 |n+1,lo=>by simp[upTo,fF n]
theorem uG:∀(n:Nat)(lo:Int)(i:Nat),i<n->(upTo lo n)[i]?=cx (lo+i)
 |0,_,_,h=>by omega
 |n+1,lo,0,_=>by simp[upTo]
 |n+1,lo,i+1,h=>by
  simp only[upTo,Y4];rw[uG n (lo+1) i ⋯];congr 2;omega
open Classical in
noncomputable def KH:ve PV->PH->Rs Wk:=λxs h=>match xs with
 |[.int j]=>if -(2 ^ 62)<=j/\j<2 ^ 62 then .ok ⟨upTo 0 j.toNat,λ_=>true⟩ h else .bad
 |_=>.bad
open Classical in
noncomputable def KI:ve PV->PH->Rs Wk:=λxs h=>match xs with
 |[.int i,.int j]=>if -(2 ^ 62)<=i/\i<2 ^ 62/\-(2 ^ 62)<=j/\j<2 ^ 62 then .ok ⟨upTo i (j-i).toNat,λ_=>true⟩ h else .bad
 |_=>.bad
noncomputable def Hl(ms:Ma):Mi:=λδ h=>(ms δ h).bind KH
noncomputable def Em(ms:Ma):Mi:=λδ h=>(ms δ h).bind KI
theorem KJ(lo:Int)(n:Nat)(φ:ve o_)(H:Hp):IY C (Itr lo n) ⟨upTo lo n,λ_=>true⟩ φ H:=λφ2 H2 h2 p2 t2 ar _ i=>by
 refine⟨λhi=>?_,λhi=>?_⟩
 ·let bf:i<n:=by rw[<-fF n lo];show hi
  refine⟨bf,λx H' y=>?_⟩;let⟨e,y⟩:=y;subst e y;show⟨⟨.int (lo+i),uG n lo i bf,rfl⟩,Kp.refl _,ar⟩
 ·have:(upTo lo n).length<=i:=hi;rw[fF]at this;show this
theorem postA.bindI{f:ve PV->PH->Rs Wk}{R:It->Hp->Prop}(h:kB C φ H (r.bind f) R):postA C φ H r λvs H1=>∃φ1 ps h1,φ<+:φ1/\Kp H H1/\q0G 0/\RVs C φ1 H1 ps vs/\kB C φ1 H1 (f ps h1) R:=by
 cases r with
 |ok a h'=>
  intro φ' v H' p' t' rh rv;refine⟨φ',a,h',p',t',rh,rv,?_⟩;let p0:kB C φ H (f a h') R:=h;cases e2:f a h' with
  |ok w h2=>rw[e2]at p0;show λφ2 H2 J p2 t2=>p0 φ2 H2 J (p'.trans p2) (t'.trans t2)
  |exc z h2=>rw[e2]at p0;show λφ2 H2 p2 t2=>p0 φ2 H2 (p'.trans p2) (t'.trans t2)
  |bad=>rw[e2]at p0;show p0
 |exc a h'=>exact h
 |bad=>exact h
theorem PI.imp{t t':TI}(h:PI X tg iter t)(i:∀σ H R,t' σ H R->t σ H R):PI X tg iter t':=λFR s σ H R I q=>q0t R I (i σ H R q)
theorem R7{x:t_}{p:Pos}(ha:SA C k X [x] ms)(hb:("range" : Str)∈C.bs:=by decide)(hg:Gl X "range" := by rfl)(hs:Yr [x] X.env=[(false,eval x X.env)]:=by rfl):SI C k X tg (.Call (.Name "range" p) [x] [] pos) (Hl ms):=λc=>
 (pr1 hg (c.bn _ hb) (ha c) hs).imp λσ H R h=>by
  let⟨φ,δ,h,rh,re,p⟩:=h;refine⟨φ,δ,h,rh,re,(postA.bindI p).imp ?_⟩;rintro vs H1 ⟨φ1,xs,h1,p1,t1,ab,ae,q1⟩;unfold KH at q1;split at q1
  ·let⟨v,rfl,rx⟩:=ae.one;cases rx
   rename_i j;by_cases hj:-(2 ^ 62)<=j/\j<2 ^ 62
   ·rw[if_pos hj]at q1;show⟨hj,q1 φ1 H1 _ X0 (Kp.refl _) ab (KJ 0 j.toNat φ1 H1)⟩
   ·rw[if_neg hj]at q1;show q1.elim
  ·show q1.elim
theorem KL{x y:t_}{p:Pos}(ha:SA C k X [x,y] ms)(hb:("range" : Str)∈C.bs:=by decide)(hg:Gl X "range" := by rfl)(hs:Yr [x,y] X.env=[(false,eval x X.env),(false,eval y X.env)]:=by rfl)(dj:Yr [y] X.env=[(false,eval y X.env)]:=by rfl):
  SI C k X tg (.Call (.Name "range" p) [x,y] [] pos) (Em ms):=λc=>
 (pr2 hg (c.bn _ hb) (ha c) hs dj).imp λσ H R h=>by
  let⟨φ,δ,h,rh,re,p⟩:=h;refine⟨φ,δ,h,rh,re,(postA.bindI p).imp ?_⟩;rintro vs H1 ⟨φ1,xs,h1,p1,t1,ab,ae,q1⟩;unfold KI at q1;split at q1
  ·let⟨v,w,rfl,rx,ry⟩:=ae.two;cases rx;cases ry;rename_i i j;by_cases hj:-(2 ^ 62)<=i/\i<2 ^ 62/\-(2 ^ 62)<=j/\j<2 ^ 62
   ·rw[if_pos hj]at q1;show⟨hj,q1 φ1 H1 _ X0 (Kp.refl _) ab (KJ i (j-i).toNat φ1 H1)⟩
   ·rw[if_neg hj]at q1;show q1.elim
  ·show q1.elim
def kC(g:PH->Bool)(tg:Mg)(body:Ms):ve PV->Ev->PH->Fl
 |[],δ,h=>if g h=true then .nx δ h else .bad
 |x::xs,δ,h=>if g h=true then(match tg x δ with
  |none=>.bad
  |some δ1=>match body δ1 h with
   |.nx δ2 h2=>kC g tg body xs δ2 h2
   |.ct δ2 h2=>kC g tg body xs δ2 h2
   |.bk δ2 h2=>.nx δ2 h2
   |r=>r) else .bad
def kH(mi:Mi)(tg:Mg)(body:Ms):Ms:=λδ h=>(mi δ h).fl λw h1=>kC w.g tg body w.xs δ h1
theorem kB.fl{r:Rs Wk}{f:Wk->PH->Fl}{D:Ends}(h:dM C φ H (r.fl f) D):kB C φ H r λJ H1=>∃φ1 w h1,φ<+:φ1/\Kp H H1/\q0G 0/\IY C J w φ1 H1/\dM C φ1 H1 (f w h1) D:=by
 cases r with
 |ok a h'=>exact λφ' H' J p t rh wk=>⟨φ',a,h',p,t,rh,wk,dM.weak p t h⟩
 |exc a h'=>exact h
 |bad=>exact h
theorem kB.imp{r:Rs Wk}{Q Q':It->Hp->Prop}(h:kB C φ H r Q)(i:∀v H',Q v H'->Q' v H'):kB C φ H r Q':=by
 cases r with
 |ok a h'=>exact λφ' H' J p t rh wk=>i J H' (h φ' H' J p t rh wk)
 |exc a h'=>exact h
 |bad=>exact h
theorem drop_cons{α:Type}{xs:ve α}{p:α}(h:xs[i]?=a_ p):xs.drop i=p::xs.drop (i+1):=by let⟨h1,h2⟩:=XN.mp h;rw[Y5 h1,h2]
variable{H0:Hp}{J:It}{body:Ms}{φ0:ve o_}
theorem O6{w:Wk}{tg:Mg}{D:Ends}{σ:St}(wk:IY C J w φ0 H0)(rh:RH C φ0 H0 h)(re:RE C φ0 H0 δ σ)(p:dM C φ0 H0 (kC w.g tg body w.xs δ h) D):
  ∃W:Nat->Nat->St->Hp->Prop,(∃m,W 0 m σ H0)/\∀i m σ H,W i m σ H->
   (J.stop i H/\D.nx σ H)\/(J.go i H/\∃N:St->Hp->Prop,(∀σ' H',N σ' H'->∃m',m'<m/\W (i+1) m' σ' H')/\∀x H',J.yld i H x H'->rdG C tg x σ H' λσ2 H2=>rdS C body { D with nx:=N,ct:=N,bk:=D.nx} σ2 H2):=by
 refine⟨λi m σ H=>m=w.xs.length-i/\i<=w.xs.length/\∃φ δ h,φ0<+:φ/\Kp H0 H/\H_ h/\q0v 0/\dM C φ H (kC w.g tg body (w.xs.drop i) δ h) D,
  ⟨w.xs.length,by simp,YE _,φ0,δ,h,X0,Kp.refl _,rh,re,by rw[Y0];show p⟩,?_⟩
 rintro i m σ H ⟨rfl,hi,φ,δ,h,pp,tt,rh,re,p⟩;by_cases ao:i<w.xs.length
 ·let hd:w.xs.drop i=w.xs[i]::w.xs.drop (i+1):=drop_cons (by simp[ao]);rw[hd]at p;unfold kC at p;by_cases hg:w.g h=true
  ·rw[if_pos hg]at p;let⟨go,step⟩:=(wk φ H h pp tt rh hg i).1 ao;refine .inr ⟨go,λσ' H'=>∃φ δ h,φ0<+:φ/\Kp H0 H'/\RH C φ H' h/\RE C φ H' δ σ'/\dM C φ H' (kC w.g tg body (w.xs.drop (i+1)) δ h) D,λσ' H' ⟨φ',δ',h',q⟩=>⟨w.xs.length-(i+1),⋯,rfl,ao,φ',δ',h',q⟩,λx H' y=>?_⟩;let⟨⟨q,eq,rv⟩,t1,ab⟩:=step x H' y;let vo:w.xs[i]=q:=by
    have:w.xs[i]?=a_ w.xs[i]:=by simp[ao]
    rw[this]at eq;show Yp eq
   rw[vo]at p;cases et:tg q δ with
   |none=>rw[et]at p;show p.elim
   |some δ1=>
    rw[et]at p;dsimp only at p;refine⟨φ,δ,h,q,δ1,ab,re.mono X0 t1,rv,et,λσ2 r6=>⟨φ,δ1,h,ab,r6,?_⟩⟩;let p:=dM.weak X0 t1 p;cases eb:body δ1 h with
    |nx δ2 h2=>rw[eb]at p;show λφ3 σ3 H3 p3 t3 ft uy=>⟨φ3,δ2,h2,pp.trans p3,(tt.trans t1).trans t3,ft,uy,dM.weak p3 t3 p⟩
    |ct δ2 h2=>rw[eb]at p;show λφ3 σ3 H3 p3 t3 ft uy=>⟨φ3,δ2,h2,pp.trans p3,(tt.trans t1).trans t3,ft,uy,dM.weak p3 t3 p⟩
    |bk δ2 h2=>rw[eb]at p;show p
    |rt z h2=>rw[eb]at p;show p
    |exc z h2=>rw[eb]at p;show p
    |bad=>rw[eb]at p;show p
  ·rw[if_neg hg]at p;show p.elim
 ·let e:i=w.xs.length:=⋯;subst e;rw[List.drop_length]at p;unfold kC at p;by_cases hg:w.g h=true
  ·rw[if_pos hg]at p;show .inl ⟨(wk φ H h pp tt rh hg _).2 (X1 _),p.nx rh re⟩
  ·rw[if_neg hg]at p;show p.elim
variable{mi:Mi}
theorem sD{body:ve u_}{t:Mg}{mb:Ms}(hi:SI C k X tg iter mi)(hg:SG C k X tg t)(hb:SSs C k X body mb)(hp:PassesOwn (fI X) X.A X.env X.xe:=by show PassesOwn.never)(hs:∀x,y0z iter X.env x=pure x:=by intro _;rfl):SSt C k X (.For tg iter body [] pos) (kH mi t mb):=λc=>(Qn hp c.calm (hi c) (hg c) (hb c) hs).imp λD σ H h=>by let⟨φ,δ,h,rh,re,p⟩:=h;refine⟨φ,δ,h,rh,re,(kB.fl p).imp ?_⟩;rintro J H1 ⟨φ1,w,h1,p1,t1,ab,wk,q1⟩;show O6 wk ab (q0h 0) q1
variable{C:MC}{k:Nat}{X:Cx}
def jU(js:ve (v_ Nat))(δ:Ev):Ev:=js.map λo=>match o with
 |none=>b_
 |some j=>q0T j
theorem Hm:∀{σ:St}{i:Nat}{v:V},σ[i]?=a_ (a_ v)->FU σ i=a_ v
 |[],_,_,h=>by simp at h
 |x::_,0,v,h=>by
  have:x=a_ v:=by simpa using h
  show this
 |_::r,n+1,v,h=>Hm (σ:=r) (i:=n) (i_ h)
theorem RE.cap{σ:St}(re:q0v 0)(js:ve (v_ Nat)):RE C φ H (jU js δ) (oH js σ):=by
 refine⟨by simp[jU,oH],λi p e=>?_⟩;unfold jU at e;unfold oH;rw[XT]at e⊢;cases q:js[i]? with
 |none=>rw[q]at e;cases e
 |some o=>
  rw[q]at e;cases o with
  |none=>cases e
  |some j=>let⟨v,hv,rv⟩:=re.2 j p (A7 (Yp e));show⟨v,by change a_ (FU σ j)=_;rw[Hm hv],rv⟩
def pR(g:PH->Bool)(tg:Mg)(tst:Ev->PH->Rs Bool)(elt:Me)(δ0:Ev)(n:Nat):ve PV->PH->Rs PV
 |[],h=>if g h=true then .ok (.ref n) h else .bad
 |x::xs,h=>if g h=true then(match tg x δ0 with
  |none=>.bad
  |some δ1=>(tst δ1 h).bind λb h1=>match b with
   |false=>pR g tg tst elt δ0 n xs h1
   |true=>(elt δ1 h1).bind λp h2=>match dU h2 n with
    |some ys=>if ys.length<X5 then pR g tg tst elt δ0 n xs (h2.set n (.lst (ys++[p]))) else .bad
    |none=>.bad) else .bad
def cS(js:ve (v_ Nat))(mi:Mi)(tg:Mg)(tst:Ev->PH->Rs Bool)(elt:Me):Me:=λδ h=>(mi δ h).bind λw h1=>pR w.g tg tst elt (jU js δ) h1.length w.xs (h1++[.lst []])
def iU:Ev->PH->Rs Bool:=λ_ h=>.ok true h
def STs(C:MC)(k:Nat)(X:Cx)(es:ve t_)(m:Ev->PH->Rs Bool):Prop:=q0n X->PTs X es (rdB C m)
theorem oQ:STs C k X [] iU:=λc FR s σ H Q I h=>by let⟨φ,δ,h,rh,re,p⟩:=h;show NM FR s σ H Q I (p.val rh)
theorem R8{m:Ev->PH->Rs Bool}(h:ST C k X e m):STs C k X [e] m:=λc=>NN (h c)
theorem kB.bind{r:Rs Wk}{f:Wk->PH->Rs PV}{Q:VK}(h:Q_ (r.bind f) Q):kB C φ H r λJ H1=>∃φ1 w h1,φ<+:φ1/\Kp H H1/\q0G 0/\IY C J w φ1 H1/\post C φ1 H1 (f w h1) Q:=by
 cases r with
 |ok a h'=>exact λφ' H' J p t rh wk=>⟨φ',a,h',p,t,rh,wk,post.weak p t h⟩
 |exc a h'=>exact h
 |bad=>exact h
variable{elt:Me}{tst:Ev->PH->Rs Bool}
theorem KM{w:Wk}{tg:Mg}{Q:VK}{σ:St}(wk:IY C J w φ0 H0)(rh:RH C φ0 H0 h)(re:RE C φ0 H0 δ σ)(p:post C φ0 H0 (pR w.g tg tst elt (jU js δ) h.length w.xs (h++[.lst []])) Q)(acc:o_)(ah:H0 acc=b_):
  ∃W:Nat->Nat->Hp->Prop,(∃m,W 0 m (upd H0 acc (.lst [])))/\∀i m H2,W i m H2->
   (J.stop i H2/\Q (.ref acc) H2)\/(J.go i H2/\∃N:Hp->Prop,(∀H',N H'->∃m',m'<m/\W (i+1) m' H')/\∀x H3,J.yld i H2 x H3->PB js (rdG C tg) (rdB C tst) (rd C elt) σ acc x H3 N):=by
 let hlen:(φ0++[acc])[h.length]?=a_ acc:=by rw[<-rh.len];simp
 refine⟨λi m H=>m=w.xs.length-i/\i<=w.xs.length/\∃φ h',(φ0++[acc])<+:φ/\Kp H0 H/\H_ h'/\Q_ (pR w.g tg tst elt (jU js δ) h.length (w.xs.drop i) h') Q,
  ⟨w.xs.length,by simp,YE _,φ0++[acc],h++[.lst []],X0,Kp.new ah,rh.new (o:=.lst []) ah ⟨[],bH,trivial⟩,by rw[Y0];show post.weak (Zu _ _) (Kp.new ah) p⟩,?_⟩
 rintro i m H ⟨rfl,hi,φ,h',pp,tt,dk,p⟩;let u5:φ0<+:φ:=(Zu _ _).trans pp;by_cases ao:i<w.xs.length
 ·let hd:w.xs.drop i=w.xs[i]::w.xs.drop (i+1):=drop_cons (by simp[ao]);rw[hd]at p;unfold pR at p;by_cases hg:w.g h'=true
  ·rw[if_pos hg]at p;let⟨go,step⟩:=(wk φ H h' u5 tt dk hg i).1 ao;refine .inr ⟨go,λH'=>∃φ h',(φ0++[acc])<+:φ/\Kp H0 H'/\RH C φ H' h'/\post C φ H' (pR w.g tg tst elt (jU js δ) h.length (w.xs.drop (i+1)) h') Q,λH' ⟨φ',h',q⟩=>⟨w.xs.length-(i+1),⋯,rfl,ao,φ',h',q⟩,λx H' y=>?_⟩;let⟨⟨q,eq,rv⟩,t1,ab⟩:=step x H' y;let vo:w.xs[i]=q:=by
    have:w.xs[i]?=a_ w.xs[i]:=by simp[ao]
    rw[this]at eq;show Yp eq
   rw[vo]at p;cases et:tg q (jU js δ) with
   |none=>rw[et]at p;show p.elim
   |some δ1=>
    rw[et]at p;let WU:RE C φ H' (jU js δ) (oH js σ):=(re.mono u5 (tt.trans t1)).cap js;refine⟨φ,jU js δ,h',q,δ1,ab,WU,rv,et,λσ2 r6=>⟨φ,δ1,h',ab,r6,(cX.bind (post.weak X0 t1 p)).imp ?_⟩⟩;rintro b H5 ⟨φ5,h5,p5,t5,rh5,q5⟩;cases b with
    |false=>exact Iq ⟨φ5,h5,pp.trans p5,(tt.trans t1).trans t5,rh5,q5⟩
    |true=>
     refine Ir ⟨φ5,δ1,h5,rh5,r6.mono p5 t5,(post.bind q5).imp ?_⟩;rintro v H6 ⟨φ6,z,h6,p6,t6,rh6,rv6,q6⟩;cases e6:dU h6 h.length with
     |none=>rw[e6]at q6;show q6.elim
     |some ys=>
      rw[e6]at q6;let⟨hz,q6⟩:=q6.ite;let hφ:φ6[h.length]?=a_ acc:=kF ((pp.trans p5).trans p6) hlen;let⟨vs,hH,gq⟩:=rh6.at' h.length acc _ hφ (kU e6);refine⟨vs,hH,by rw[<-gq.length];show hz,φ6,h6.set h.length (.lst (ys++[z])),(pp.trans p5).trans p6,(((tt.trans t1).trans t5).trans t6).trans (Kp.lst hH),
       rh6.write hφ (by rw[hH];trivial) ⟨vs++[v],bH,(gq.snoc rv6).mono X0 (Kp.lst hH)⟩,post.weak X0 (Kp.lst hH) q6⟩
  ·rw[if_neg hg]at p;show p.elim
 ·let e:i=w.xs.length:=⋯;subst e;rw[List.drop_length]at p;unfold pR at p;by_cases hg:w.g h'=true
  ·rw[if_pos hg]at p;show .inl ⟨(wk φ H h' u5 tt dk hg _).2 (X1 _),p.val dk ⟨acc,rfl,kF pp hlen⟩⟩
  ·rw[if_neg hg]at p;show p.elim
theorem Hn{tg:Mg}{σ:St}{Q:VK}(h:rd C (cS js mi tg tst elt) σ H Q):Hf js (rdI C mi) (rdG C tg) (rdB C tst) (rd C elt) σ H Q:=by let⟨φ,δ,h,rh,re,p⟩:=h;refine⟨φ,δ,h,rh,re,(kB.bind p).imp ?_⟩;rintro J H1 ⟨φ1,w,h1,p1,t1,ab,wk,q1⟩;intro acc ah;show KM wk ab (q0h 0) q1 acc ah
variable{tt:Ev->PH->Rs Bool}
theorem qG{elt:t_}{g:Mg}(gp:X.env.scope=os)(i7:X.N=oN)(ok:sJ os oN sc N js=true)(hi:SI C k X tg iter mi)(hg:∀C' fp s₀ H₀,SG C k (U_ C' fp s₀ H₀) tg g)(ht:∀C' fp s₀ H₀,STs C k (U_ C' fp s₀ H₀) ifs tt)(he:∀C' fp s₀ H₀,SE C k (U_ C' fp s₀ H₀) elt me)(hs:∀x,y0z iter X.env x=pure x:=by intro _;rfl):G_ (.ListComp elt [⟨tg,iter,ifs,0⟩] sc pos) (cS js mi g tt me):=λc=>(NO c.calm gp i7 ok (hi c) (λa b s H=>hg a b s H (c.comp sc N a b s H)) (λa b s H=>ht a b s H (c.comp sc N a b s H)) (λa b s H=>he a b s H (c.comp sc N a b s H)) hs).imp λσ H Q h=>Hn h
theorem BQ{elt:t_}{g:Mg}(hN:X.N.Nodup)(az:X.N[i]?=a_ x)(iy:q0c 0=a_ .local)(gp:X.env.scope=os)(i7:X.N=oN)(ok:sJ os oN sc N js=true)(hi:SI C k X tg iter mi)(hg:∀C' fp s₀ H₀,SG C k (U_ C' fp s₀ H₀) tg g)(ht:∀C' fp s₀ H₀,STs C k (U_ C' fp s₀ H₀) ifs tt)(he:∀C' fp s₀ H₀,SE C k (U_ C' fp s₀ H₀) elt me)(uo:swapsWith (.ListComp elt [⟨tg,iter,ifs,0⟩] sc pos) (a_ (.Name x pos')) gm.line X.env=pure true:=by rfl)(hs:∀x,y0z iter X.env x=pure x:=by intro _;rfl):SSt C k X (.Assign [.Name x pos'] (.ListComp elt [⟨tg,iter,ifs,0⟩] sc pos) gm) (aZ i (cS js mi g tt me)):=λc=>(FV hN az iy c.calm gp i7 ok (hi c) (λa b s H=>hg a b s H (c.comp sc N a b s H)) (λa b s H=>ht a b s H (c.comp sc N a b s H)) (λa b s H=>he a b s H (c.comp sc N a b s H)) uo hs).imp λD σ H h=>by let⟨φ,δ,h,rh,re,p⟩:=h;refine Hn ⟨φ,δ,h,rh,re,(post.fl p).imp ?_⟩;rintro v H1 ⟨φ1,x,h1,p1,t1,ab,ae,q1⟩;show q1.nx ab ((q0h 0).set ae i)
def mFn(N:Nat)(body:Ms):Fn:=λargs h=>match body (args.map a_++X4 (N-args.length) b_) h with
 |.nx _ h'=>.ok .non h'
 |.rt p h'=>.ok p h'
 |.exc x h'=>.exc x h'
 |_=>.bad
theorem RE.start{ps:ve PV}{vs:ve V}(r:C_ ps vs)(N:ve Str):RE C φ H (ps.map a_++X4 (N.length-ps.length) b_) (start N vs):=by
 unfold L2.start;refine⟨by simp[r.length],λi p e=>?_⟩;by_cases hi:i<ps.length
 ·rw[Yb (i_ hi),XT]at e;rw[Yb (by simpa[<-r.length] using hi),XT]
  cases q:ps[i]? with
  |none=>rw[q]at e;cases e
  |some x=>
   rw[q]at e;cases e
   let⟨v,hv,rv⟩:=r.at q;show⟨v,by rw[hv];rfl,rv⟩
 ·rw[XX (i_ hi)]at e;rw[y0q]at e;split at e
  ·cases e
  ·cases e
theorem dA{st:u_}{f:o_}(hex:∀φ H x,¬ C.ex φ H x)(hbn:∀x∈C.bs,mg x=b_)(F:Fun C.K x qual st f fd)(S:aX N ps (aL st))(hb:∀(cdv:n_)(A:q_)(outer:ve Env)(s:oa)(H:Hp)(E:XK),SSs C k (FI CX0 P C.w C.K mg base N qual (aL st) f cdv A outer s H E).nox (fL st) body):
  bD P C.w C.K mg base CX0 (k+1) f fd ps (spM C ps.length (mFn N.length body)):=by
 refine F.ok S (λvs H Q E h=>?_) (λcdv A outer s H vs Q E hr h=>?_)
 ·let⟨φ,h,xs,rh,rv,hl,_⟩:=h;rw[<-rv.length];show hl
 ·let⟨φ,h,xs,rh,rv,hl,p⟩:=h;refine⟨_,hb cdv A outer s H E ⟨rfl,rfl,hr,hbn,rfl⟩,φ,xs.map a_++X4 (N.length-xs.length) b_,h,rh,RE.start rv N,?_⟩;unfold mFn at p;cases e:body (xs.map a_++X4 (N.length-xs.length) b_) h with
  |nx δ h'=>rw[e]at p;show λφ' σ' H' pp tt dk se=>p φ' .non H' pp tt dk rfl
  |rt z h'=>rw[e]at p;show p
  |exc z h'=>rw[e]at p;show λφ' H' pp tt dk=>(hex _ _ _ (p φ' H' pp tt dk)).elim
  |bk δ h'=>rw[e]at p;show p.elim
  |ct δ h'=>rw[e]at p;show p.elim
  |bad=>rw[e]at p;show p.elim
theorem R9{f:Fn}{Q:VK}{E:XK}{ns:ve Int}(hO:K3 H)(ho:SqL C.K H a (ns.map V.int))(hf:∃h,f [.fl (q0w 0)] []=.ok (.bl true) h)(hQ:∀H',Q (.bl true) H'):spM C 1 f [.ref a] H Q E:=by
 let r0:∀ns:ve Int,RVs C [] H (q0w 0) (ns.map V.int):=by
  intro ns
  induction ns with
  |nil=>trivial
  |cons n ns ih=>exact⟨rfl,ih⟩
 let hs:SqF C.K H a (ns.map V.int):=by
  rcases ho with(h|⟨o,h⟩)|h
  ·rcases hO a with z|⟨o,xs,z⟩
   ·rw[z]at h;cases h
   ·rw[z]at h;cases h
  ·show .inl ⟨o,h⟩
  ·show .inr h
 refine⟨[],[],[.fl (q0w 0)],⟨rfl,by simp,λn b ob h1 h2=>by simp at h1⟩,⟨⟨a,_,rfl,hs,r0 ns⟩,trivial⟩,rfl,?_⟩;let⟨h,e⟩:=hf;rw[e];intro φ' v H' _ _ _ rv;cases rv
 show hQ H'
variable{C:MC}{k:Nat}{X:Cx}
def tyN(x:PV)(h:PH):v_ String:=match x with
 |.non=>a_ "NoneType"
 |.bl _=>a_ "bool"
 |.int _=>a_ "int"
 |.str _=>a_ "str"
 |.tup _=>a_ "tuple"
 |.fl _=>a_ "list"
 |.ref n=>match h[n]? with
  |some (.lst _)=>a_ "list"
  |some (.dK _)=>a_ "dict"
  |_=>b_
 |.ty _=>b_
def Tu(t c:String):Bool:=t == c || (t == "bool" && c == "int")
def known:ve String:=["int","str","bool","list","tuple","dict"]
def VP:ve PV->PH->Rs PV:=λxs h=>match xs with
 |[x,.ty c]=>match tyN x h with
  |some t=>if c∈known then .ok (.bl (Tu t c)) h else .bad
  |none=>.bad
 |_=>.bad
def O7:ve PV->PH->Rs PV:=λxs h=>match xs with
 |[.int i,.int j]=>.ok (.int (if j<i then j else i)) h
 |_=>.bad
theorem Tv:uE C k X (.builtin "min") O7:=λc=>(Ie c.calm).imp λvs H Q h=>by
 let⟨φ,h,ps,rh,rv,po⟩:=h;unfold O7 at po;split at po
 ·let⟨v,w,rfl,rx,ry⟩:=rv.two;cases rx;cases ry;show⟨_,_,rfl,M_ rfl⟩
 ·show po.elim
def mMt(ty:PV->PH->Bool)(g:PV->ve PV->PH->Rs PV)(mo:Me)(ms:Ma):Me:=λδ h=>(mo δ h).bind λx h1=>if ty x h1=true then(ms δ h1).bind λps h2=>g x ps h2 else .bad
def O8(ty:PV->PH->Bool)(g:PV->ve PV->PH->Rs PV)(mo:Me):Me:=λδ h=>(mo δ h).bind λx h1=>if ty x h1=true then g x [] h1 else .bad
def rM(C:MC)(g:PV->ve PV->PH->Rs PV):V->ve V->Hp->VK->Prop:=λx xs H Q=>∃φ h p ps,H_ h/\y_ p x/\C_ ps xs/\Q_ (g p ps h) Q
def MtS(C:MC)(k:Nat)(X:Cx)(T:String)(ty:PV->PH->Bool)(id:String)(g:PV->ve PV->PH->Rs PV):Prop:=q0n X->MtR X id (rM C g)/\∀φ H h p x,H_ h->y_ p x->ty p h=true->tyV C.K T x H
variable{aj apos:Pos}{mo:Me}{name:Str}{ty:PV->PH->Bool}
theorem KN{o:t_}{id:String}{g:PV->ve PV->PH->Rs PV}(pa:PlainAttrs T)(slot:Slot T name id)(j4:typeOf (.builtin id)=pure (.type "method_descriptor"))(hm:MtS C k X T ty id g)(ho:G_ o mo)(ha:SA C k X (e::es) ms)(br:y1I o name X.env (eval o X.env)=eval o X.env:=by rfl)(gf:((backTo aj (Yr (e::es) X.env)).all (λx=>!x.1)&&(backToKw aj (keywordEach [] X.env)).all (λx=>x.1.isSome)
   && decide ((e::es).length+([]:ve Keyword).length+(if([]:ve Keyword).isEmpty then 0 else 1)<30))=true:=by rfl)(bw:(apos.endLine == aj.line)=true:=by rfl)(hs:Yr (e::es) X.env=(false,q0j 0)::q0i 0:=by rfl)(bq:(backTo aj (q0i 0)).any (·.1)=false:=by rfl):
  G_ (.Call (.Attribute o name apos) (e::es) [] aj) (mMt ty g mo ms):=λc=>(SS pa slot j4 (hm c).1 (ho c) (ha c) br gf bw hs bq).imp λσ H Q h=>by
 let⟨φ,δ,h,rh,re,p⟩:=h;refine⟨φ,δ,h,rh,re,(post.bind p).imp ?_⟩;rintro v H1 ⟨φ1,x,h1,p1,t1,ab,ae,q1⟩;let⟨ht,q1⟩:=q1.ite;refine⟨by rw[c.K];show(hm c).2 φ1 H1 h1 x v ab ae ht,φ1,δ,h1,ab,q0h 0,(postA.bind q1).imp ?_⟩;rintro vs H2 ⟨φ2,xs,h2,p2,t2,ar,b8,q2⟩;show⟨φ2,h2,x,xs,ar,ae.mono p2 t2,b8,q2⟩
theorem MtR.imp{id:String}{r r':V->ve V->Hp->VK->Prop}(h:MtR X id r)(i:∀x xs H Q,r' x xs H Q->r x xs H Q):MtR X id r':=λFR s σ H x xs v us Q I rx rs q=>q0t x xs v us Q I rx rs (i x xs H Q q)
def isL(x:PV)(h:PH):Bool:=match x with
 |.ref n=>(dU h n).isSome
 |_=>false
theorem Ra{x:V}(rh:H_ h)(rv:y_ p x)(e:isL p h=true):tyV C.K "list" x H:=by
 cases p with
 |ref n=>
  let⟨a,rfl,ha⟩:=rv;let⟨xs,hx⟩:=y03.mp (show(dU h n).isSome=true from e)
  let⟨vs,hH,ra⟩:=q0l (kU hx);show .inl ⟨rfl,vs,SqL.of hH⟩
 |_=>cases e
def onL(f:ve PV->ve PV->v_ (PV×ve PV)):PV->ve PV->PH->Rs PV:=λx ps h=>match x with
 |.ref n=>match dU h n with
  |some xs=>match f xs ps with
   |some (r,ys)=>.ok r (h.set n (.lst ys))
   |none=>.bad
  |none=>.bad
 |_=>.bad
theorem Rb{f:ve PV->ve PV->v_ (PV×ve PV)}{x:V}{xs:ve V}{Q:VK}(h:rM C (onL f) x xs H Q):∃φ l ps ys vs r zs,x=.ref l/\H l=a_ (.lst vs)/\C_ ys vs/\C_ ps xs/\f ys ps=a_ (r,zs)/\
  ∀(v:V)(ws:ve V),y_ r v->C_ zs ws->Q v (q0r l (.lst ws)):=by
 let⟨φ,h,p,ps,rh,rx,rs,po⟩:=h;unfold onL at po;cases p with
 |ref n=>
  let⟨a,rfl,ha⟩:=rx;dsimp only at po;cases e:dU h n with
  |none=>rw[e]at po;show po.elim
  |some ys=>
   rw[e]at po;dsimp only at po;let⟨vs,hH,ra⟩:=q0l (kU e);cases ef:f ys ps with
   |none=>rw[ef]at po;show po.elim
   |some rz=>rw[ef]at po;let⟨r,zs⟩:=rz;show⟨φ,a,ps,ys,vs,r,zs,rfl,hH,ra,rs,ef,λv ws rv cf=>po.lset rh ha hH cf rv⟩
 |_=>exact po.elim
def gK:ve PV->ve PV->v_ (PV×ve PV):=λxs ps=>match ps with
 |[p]=>if xs.length<X5 then a_ (.non,xs++[p]) else b_
 |_=>b_
theorem IZ:MtR X "list.append" (rM C (onL gK)):=MtR.imp (show MtR X "list.append" GY from BC) λx xs H Q h=>by
 let⟨φ,l,ps,ys,vs,r,zs,rfl,hH,ra,rs,ef,q⟩:=Rb h;unfold gK at ef;split at ef
 ·split at ef
  ·rename_i hz;cases ef
   let⟨v,rfl,rx⟩:=rs.one;show⟨l,vs,v,rfl,rfl,hH,by rw[<-ra.length];show hz,q .non _ rfl (ra.snoc rx)⟩
  ·cases ef
 ·cases ef
theorem qH:MtS C k X "list" isL "list.append" (onL gK):=λc=>⟨IZ,λφ H h p x rh rv e=>Ra rh rv e⟩
def Tw(K:XQ):R2:=λx y H Q=>∃a b ys,x=.ref a/\y=.ref b/\q1b a []/\q1b b ys/\Q (.ref b) H
theorem O9:q0J (ZQ .Add) (Tw X.K):=by
 intro FR s σ H x y v u Q I rx ry h;let⟨a,b,ys,rfl,rfl,ha,hb,q⟩:=h;cases rx
 cases ry
 let⟨its,r1,p1,_⟩:=I.tuple ha;let⟨gi,r2,p2,_⟩:=I.tuple hb;cases r1
 let⟨⟨cls,dd,data,sl⟩,ho,hc,n,hd⟩:=id p1;let⟨⟨ka,dd2,data2,iw⟩,fc,c9,n2,hd2⟩:=id p2;simp only at hc hd c9 hd2;subst hc hd c9 hd2;show concat_meets ⟨_,ho,rfl⟩ ⟨_,fc,rfl⟩ noFill_tuple_add seq_tuple_add PySem.F.slot_tuple_add PySem.F.entry_tuple_add (PySem.F.args_tuple_add_2 _ _)
   (tuple_addW0 a b ([]:ve n_).toArray gi.toArray n n2 dd dd2 sl iw (by simp)) ⟨ho,fc,⟨.ref b,H,I,rfl,q⟩⟩
def aR:PV->PV->PH->Rs PV:=λx y h=>match x,y with
 |.tup [],.tup ys=>.ok (.tup ys) h
 |x,y=>Kw x y h
theorem bN:q0k (ZQ .Add) aR:=λc=>((Th c).or (by have:=O9 (X:=X);rw[c.K]at this;show this)).imp λx y H Q h=>by
 let⟨φ,h,p,q,rh,rx,ry,po⟩:=h;unfold aR at po;split at po
 ·let⟨a,vs,rfl,sa,ra⟩:=rx;let⟨b,us,rfl,sb,rb⟩:=ry;have:vs=[]:=by cases vs <;> first|rfl|exact ra.elim
  subst this;show .inr ⟨a,b,us,rfl,rfl,sa,sb,M_ ⟨b,us,rfl,sb,rb⟩⟩
 ·show .inl ⟨φ,h,p,q,rh,rx,ry,po⟩
variable{C:MC}{k:Nat}{X:Cx}
theorem En:UnS C k X (unaryOp .USub) wA:=λc=>by
 let h:UnR X (unaryOp .USub) (rU λi=>.int (-i)):=Qu;intro FR s σ H x v Q I rx q;refine q0t x v Q I rx ?_;let⟨φ,h,p,rh,rv,po⟩:=q;unfold wA at po;cases p with
 |int i=>cases rv;show⟨i,rfl,M_ rfl⟩
 |_=>exact po.elim
open PySem
@[irreducible]def Rs.W{α:Type}(r:Rs α)(Q:α->PH->Prop):Prop:=match r with
 |.ok a h=>Q a h
 |_=>False
structure FE where
 nx:Ev->PH->Prop
 rt:PV->PH->Prop
 bk:Ev->PH->Prop:=λ_ _=>False
 ct:Ev->PH->Prop:=λ_ _=>False
@[irreducible]def Fl.W(r:Fl)(E:FE):Prop:=match r with
 |.nx δ h=>E.nx δ h
 |.rt p h=>E.rt p h
 |.bk δ h=>E.bk δ h
 |.ct δ h=>E.ct δ h
 |_=>False
@[irreducible]def Lt(b:Ms)(E:FE)(δ:Ev)(h:PH):Prop:=(b δ h).W E
variable{ys:ve PV}{h1:PH}{args:ve PV}
section
unseal Rs.W Fl.W Lt
variable{α β:Type}{Q:α->PH->Prop}{E:FE}
@[simp]theorem jV{a:α}:(Rs.ok a h).W Q=Q a h:=(rfl)
@[simp]theorem VQ:(Fl.nx δ h).W E=E.nx δ h:=(rfl)
@[simp]theorem VR:(Fl.rt p h).W E=E.rt p h:=(rfl)
@[simp]theorem G9{Q:β->PH->Prop}{r:Rs α}{f:α->PH->Rs β}:(r.bind f).W Q=r.W λa h=>(f a h).W Q:=by cases r <;> rfl
@[simp]theorem J1{r:Rs α}{f:α->PH->Fl}:(r.fl f).W E=r.W λa h=>(f a h).W E:=by cases r <;> rfl
theorem KO{Q':α->PH->Prop}{r:Rs α}(h:r.W Q)(i:∀a h,Q a h->Q' a h):r.W Q':=by cases r <;> first|exact i _ _ h|exact h
@[simp]theorem VG{c:Prop}[Decidable c]{x y:Rs α}:(if c then x else y).W Q=if c then x.W Q else y.W Q:=by split <;> rfl
@[simp]theorem VH:(Rs.bad:Rs α).W Q=False:=(rfl)
@[simp]theorem Vm:Fl.bad.W E=False:=(rfl)
theorem iC{r:Rs α}(w:r.W Q):∃a h,r=.ok a h/\Q a h:=by
 cases r with
 |ok a h=>exact⟨a,h,rfl,w⟩
 |exc=>exact w.elim
 |bad=>exact w.elim
variable{a b:Ms}{m:Me}{t ta tb:Ev->PH->Rs Bool}{g g':PV->PV->PH->Rs PV}
theorem CC:(aO a b δ h).W E=(a δ h).W { E with nx:=λδ h=>(b δ h).W E}:=by
 change(match a δ h with|.nx δ1 h1=>b δ1 h1|r=>r).W E=_
 cases a δ h <;> rfl
theorem aQ:(aO a b δ h).W E=(a δ h).W { E with nx:=Lt b E}:=by
 change(match a δ h with|.nx δ1 h1=>b δ1 h1|r=>r).W E=_
 cases a δ h <;> rfl
theorem now{b:Ms}(w:(b δ h).W E):Lt b E δ h:=w
@[simp]theorem VI:(fE δ h).W E=E.nx δ h:=(rfl)
@[simp]theorem sE:(aZ i m δ h).W E=(m δ h).W λp h=>E.nx (δ.set i (a_ p)) h:=by simp[aZ]
@[simp]theorem VJ{t:Mg}:(yP m t δ h).W E=(m δ h).W λp h=>∃δ',t p δ=a_ δ'/\E.nx δ' h:=by
 unfold yP;cases m δ h with
 |ok p h1=>
  change(match t p δ with|some δ'=>Fl.nx δ' h1|none=>.bad).W E=∃δ',t p δ=a_ δ'/\E.nx δ' h1
  cases t p δ <;> simp[Fl.W]
 |exc=>rfl
 |bad=>rfl
@[simp]theorem KQ:(pZ m δ h).W E=(m δ h).W λ_ h=>E.nx δ h:=by simp[pZ]
@[simp]theorem Eo:(bY m δ h).W E=(m δ h).W E.rt:=by simp[bY]
@[simp]theorem fG:(cZ t a b δ h).W E=(t δ h).W λc h=>if c=true then(a δ h).W E else(b δ h).W E:=by
 unfold cZ;rw[J1];congr;funext c h;cases c <;> simp
@[simp]theorem VL:mV i δ h=match q0T i with|some p=>.ok p h|none=>.bad:=(rfl)
@[simp]theorem Tx:mC p δ h=.ok p h:=(rfl)
@[simp]theorem fN:aD g ma mb δ h=(ma δ h).bind λx h1=>(mb δ h1).bind λy h2=>g x y h2:=(rfl)
@[simp]theorem Vn{g:PV->PH->Rs PV}:mUn g ma δ h=(ma δ h).bind g:=(rfl)
@[simp]theorem uH:bP m δ h=(m δ h).bind tru:=(rfl)
@[simp]theorem Tz:KF t δ h=(t δ h).bind λb h1=>.ok (!b) h1:=(rfl)
@[simp]theorem KR:nO ta tb δ h=(ta δ h).bind λb h1=>if b=true then tb δ h1 else .ok false h1:=by unfold nO;congr 1;funext b h1;cases b <;> simp
@[simp]theorem Oa:CA ta tb δ h=(ta δ h).bind λb h1=>if b=true then .ok true h1 else tb δ h1:=by unfold CA;congr 1;funext b h1;cases b <;> simp
def bl2(x:PV)(f g:Rs PV):Rs PV:=match x with
 |.bl true=>f
 |.bl false=>g
 |_=>.bad
@[simp]theorem Vo{b:Bool}{f g:Rs PV}:bl2 (.bl b) f g=if b=true then f else g:=by cases b <;> simp[bl2]
@[simp]theorem TB:Hi ma mb δ h=(ma δ h).bind λx h1=>bl2 x (mb δ h1) (.ok (.bl false) h1):=by unfold Hi;first|rfl|(congr 1;funext x h1;cases x <;> first|rfl|(rename_i b;cases b <;> rfl))
@[simp]theorem TC:Hj ma δ h=(ma δ h).bind λx h1=>bl2 x (.ok (.bl false) h1) (.ok (.bl true) h1):=by unfold Hj;congr 1;funext x h1;cases x <;> first|rfl|(rename_i b;cases b <;> rfl)
@[simp]theorem Uu:IX g g' ma mb mc δ h=(ma δ h).bind λx h1=>(mb δ h1).bind λy h2=>(g x y h2).bind λz h3=>bl2 z ((mc δ h3).bind λw h4=>(g' y w h4).bind KD) (.ok (.bl false) h3):=by unfold IX;first|rfl|(congr 1;funext x h1;congr 1;funext y h2;congr 1;funext z h3;cases z <;> first|rfl|(rename_i b;cases b <;> rfl))
@[simp]theorem TF{b:Bool}:KD (.bl b) h=.ok (.bl b) h:=(rfl)
@[simp]theorem Uv:cO ms δ h=(ms δ h).bind λxs h1=>if xs.length<=X5 then .ok (.tup xs) h1 else .bad:=(rfl)
@[simp]theorem Uw:iS ms δ h=(ms δ h).bind λxs h1=>if xs.length<=X5 then .ok (.ref h1.length) (h1++[.lst xs]) else .bad:=(rfl)
@[simp]theorem Sl:Ag δ h=.ok (.ref h.length) (h++[.dK []]):=(rfl)
@[simp]theorem mI:aE δ h=.ok [] h:=(rfl)
@[simp]theorem KS:aB m ms δ h=(m δ h).bind λx h1=>(ms δ h1).bind λxs h2=>.ok (x::xs) h2:=(rfl)
@[simp]theorem Rc{g:ve PV->PH->Rs PV}:mCB g ms δ h=(ms δ h).bind g:=(rfl)
@[simp]theorem TH{f:Fn}:bS n f ms δ h=(ms δ h).bind λps h1=>if ps.length=n then f ps h1 else .bad:=(rfl)
@[simp]theorem Ux:fD δ h=.ok b_ h:=(rfl)
def KU(x:PV)(h:PH):Rs (v_ Int):=match x with
 |.int i=>.ok (a_ i) h
 |_=>.bad
@[simp]theorem Re{i:Int}:KU (.int i) h=.ok (a_ i) h:=(rfl)
@[simp]theorem VM:mP m δ h=(m δ h).bind KU:=(rfl)
@[simp]theorem Vp:mSl m ml mh δ h=(m δ h).bind λx h1=>(ml δ h1).bind λl h2=>(mh δ h2).bind λu h3=>vSl x l u h3:=(rfl)
@[simp]theorem Vq{g:PV->ve PV->PH->Rs PV}:mMt ty g m ms δ h=(m δ h).bind λx h1=>if ty x h1=true then(ms δ h1).bind λps h2=>g x ps h2 else .bad:=(rfl)
@[simp]theorem Uy{g:PV->ve PV->PH->Rs PV}:O8 ty g m δ h=(m δ h).bind λx h1=>if ty x h1=true then g x [] h1 else .bad:=(rfl)
@[simp]theorem kI:X5=16777216:=by rw[YL]
theorem Ob{i j:Int}(c:(-18446744073709551616<i/\i<18446744073709551616)\/(-18446744073709551616<j/\j<18446744073709551616)):IS (.int i) (.int j) h=.ok (.int (i*j)) h:=by
 change(if DL i j then _ else _)=_
 show if_pos c
@[simp]theorem TJ{i j:Int}(c:(-18446744073709551616<i/\i<18446744073709551616)\/(-18446744073709551616<j/\j<18446744073709551616)):vInt DL (λi j=>i*j) (.int i) (.int j) h=.ok (.int (i*j)) h:=Ob c
@[simp]theorem Uz{i j:Int}(c:0<j/\j<1073741824):vInt JM (λi j=>i/j) (.int i) (.int j) h=.ok (.int (i/j)) h:=if_pos c
@[simp]theorem UA{i j:Int}(c:0<j):vInt (λ_ j=>0<j) (λi j=>i%j) (.int i) (.int j) h=.ok (.int (i%j)) h:=if_pos c
@[simp]theorem UB{i j:Int}:kG (.int i) (.int j) h=.ok (.int (i-j)) h:=(rfl)
@[simp]theorem UC{i:Int}:wA (.int i) h=.ok (.int (-i)) h:=(rfl)
@[simp]theorem Sm{i j:Int}:aR (.int i) (.int j) h=.ok (.int (i+j)) h:=(rfl)
@[simp]theorem Sn{y:Str}(c:x.length+y.length<=16777216):aR (.str x) (.str y) h=.ok (.str (x++y)) h:=if_pos c
@[simp]theorem So(c:xs.length+ys.length<=16777216):aR (.tup xs) (.tup ys) h=.ok (.tup (xs++ys)) h:=by
 cases xs with
 |nil=>rfl
 |cons x xs=>exact if_pos ⟨rfl,c⟩
@[simp]theorem TK{f:Int->Int->Bool}{g:W_ 0->W_ 0->Bool}{i j:Int}:IT f g (.int i) (.int j) h=.ok (.bl (f i j)) h:=(rfl)
@[simp]theorem Vr{b:Bool}:tru (.bl b) h=.ok b h:=(rfl)
@[simp]theorem TL:ofO (a_ p) h=.ok p h:=(rfl)
@[simp]theorem UD{i:Int}:vIx (.tup xs) (.int i) h=ofO (atI xs i) h:=(rfl)
@[simp]theorem Vs{i:Int}:vIx (.fl xs) (.int i) h=ofO (atI xs i) h:=(rfl)
theorem mJ{i:Int}(e:h[n]?=a_ (.lst xs)):vIx (.ref n) (.int i) h=ofO (atI xs i) h:=by simp[vIx,aV,e]
@[simp]theorem UE{z:Str}{i:Int}(c:z.length<=16777216):vIx (.str z) (.int i) h=ofO ((atI z.cps.toList i).map λc=>.str ⟨#[c]⟩) h:=if_pos c
@[simp]theorem TM:dN [.tup xs] h=.ok (.int xs.length) h:=(rfl)
@[simp]theorem UF:dN [.fl xs] h=.ok (.int xs.length) h:=(rfl)
@[simp]theorem TN(c:x.length<=16777216):dN [.str x] h=.ok (.int x.length) h:=if_pos c
theorem iD(e:h[n]?=a_ (.lst xs)):dN [.ref n] h=.ok (.int xs.length) h:=by simp[dN,aV,e]
@[simp]theorem UG{i j:Int}:O7 [.int i,.int j] h=.ok (.int (if j<i then j else i)) h:=(rfl)
theorem uI(e:h[n]?=a_ (.lst xs)):isL (.ref n) h=true:=by simp[isL,dU,e]
theorem lK(e:h[n]?=a_ (.lst xs))(c:xs.length<16777216):onL gK (.ref n) [p] h=.ok .non (h.set n (.lst (xs++[p]))):=by simp[onL,dU,e,gK,c]
theorem Oc{α:Type}{xs:ve α}{i:Int}(h0:0<=i)(h1:i<xs.length):atI xs i=xs[i.toNat]?:=by unfold atI ixN;rw[if_pos h0,if_pos h1];rfl
theorem wC{g:PH->Bool}{tg:Mg}{body:Ms}{E:FE}(I:Nat->Ev->PH->Prop):∀(xs:ve PV)(k:Nat)(δ:Ev)(h:PH),I k δ h->
  (∀i x δ h,k<=i->xs[i-k]?=a_ x->I i δ h->g h=true/\∃δ1,tg x δ=a_ δ1/\(body δ1 h).W { nx:=I (i+1),ct:=I (i+1),rt:=E.rt,bk:=E.nx})->
  (∀δ h,I (k+xs.length) δ h->g h=true/\E.nx δ h)->(kC g tg body xs δ h).W E
 |[],k,δ,h,i0,_,fin=>by let⟨h1,h2⟩:=fin δ h i0;simp[kC,h1,h2]
 |x::xs,k,δ,h,i0,step,fin=>by
  let⟨h1,δ1,h2,h3⟩:=step k x δ h (X1 _) (by simp) i0;let go:∀δ2 h2,I (k+1) δ2 h2->(kC g tg body xs δ2 h2).W E:=λδ2 h2 i2=>
   wC I xs (k+1) δ2 h2 i2 (λi y δ h hk hy=>step i y δ h ⋯ (by
    have:i-k=(i-(k+1))+1:=⋯;rw[this,Y4];show hy)) (λδ h hi=>fin δ h (by
    let e:k+(x::xs).length=k+1+xs.length:=by simp;omega
    rw[e];show hi))
  unfold kC;rw[if_pos h1,h2]
  change Fl.W (match body δ1 h with|.nx δ2 h2=>kC g tg body xs δ2 h2|.ct δ2 h2=>kC g tg body xs δ2 h2|.bk δ2 h2=>.nx δ2 h2|r=>r) E
  cases e:body δ1 h with
  |nx δ2 h2=>rw[e]at h3;show go δ2 h2 h3
  |ct δ2 h2=>rw[e]at h3;show go δ2 h2 h3
  |bk δ2 h2=>rw[e]at h3;show h3
  |rt p h2=>rw[e]at h3;show h3
  |exc=>rw[e]at h3;show h3
  |bad=>rw[e]at h3;show h3
theorem Rf{j:Int}(I:Nat->Ev->PH->Prop)(e:ms δ h=.ok [.int j] h)(hj:-4611686018427387904<=j/\j<4611686018427387904)(h0:I 0 δ h)(step:∀(q:Nat) δ h,(q:Int)<j->I q δ h->(body (δ.set i (cx q)) h).W { nx:=I (q+1),ct:=I (q+1),rt:=E.rt,bk:=E.nx})(fin:∀δ h,I j.toNat δ h->E.nx δ h):(kH (Hl ms) (gN i) body δ h).W E:=by
 unfold kH Hl;rw[e];let uw:-(2 ^ 62)<=j/\j<2 ^ 62:=hj;simp only[Rs.bind_ok,KH,if_pos uw,Rs.fl_ok];refine wC I _ 0 δ h h0 (λq x δ h _ hx hi=>?_) (λδ h hi=>⟨rfl,fin δ h (by rw[fF,Z9]at hi;show hi)⟩);let hq:q<j.toNat:=by have:=(XN.mp hx).1;rw[fF]at this;omega
 rw[y0v,uG _ _ _ hq]at hx;cases hx
 refine⟨rfl,_,rfl,?_⟩;rw[Int.zero_add];show step q δ h ⋯ hi
theorem KW{lo j:Int}(I:Nat->Ev->PH->Prop)(e:ms δ h=.ok [.int lo,.int j] h)(hj:-4611686018427387904<=lo/\lo<4611686018427387904/\-4611686018427387904<=j/\j<4611686018427387904)(h0:I 0 δ h)(step:∀(q:Nat) δ h,lo+(q:Int)<j->I q δ h->(body (δ.set i (cx (lo+q))) h).W { nx:=I (q+1),ct:=I (q+1),rt:=E.rt,bk:=E.nx})(fin:∀δ h,I (j-lo).toNat δ h->E.nx δ h):(kH (Em ms) (gN i) body δ h).W E:=by
 unfold kH Em;rw[e];let uw:-(2 ^ 62)<=lo/\lo<2 ^ 62/\-(2 ^ 62)<=j/\j<2 ^ 62:=hj;simp only[Rs.bind_ok,KI,if_pos uw,Rs.fl_ok];refine wC I _ 0 δ h h0 (λq x δ h _ hx hi=>?_) (λδ h hi=>⟨rfl,fin δ h (by rw[fF,Z9]at hi;show hi)⟩);let hq:q<(j-lo).toNat:=by have:=(XN.mp hx).1;rw[fF]at this;omega
 rw[y0v,uG _ _ _ hq]at hx;cases hx
 show⟨rfl,_,rfl,step q δ h ⋯ hi⟩
theorem Ri{m:Me}{tg:Mg}(I:Nat->Ev->PH->Prop)(e:m δ h=.ok (.tup xs) h\/m δ h=.ok (.fl xs) h)(h0:I 0 δ h)(step:∀(q:Nat) x δ h,xs[q]?=a_ x->I q δ h->∃δ1,tg x δ=a_ δ1/\(body δ1 h).W { nx:=I (q+1),ct:=I (q+1),rt:=E.rt,bk:=E.nx})(fin:∀δ h,I xs.length δ h->E.nx δ h):(kH (bZ m) tg body δ h).W E:=by
 let go:(kC (λ_=>true) tg body xs δ h).W E:=wC I _ 0 δ h h0 (λq x δ h _ hx hi=>⟨rfl,step q x δ h (i_ hx) hi⟩) (λδ h hi=>⟨rfl,fin δ h (i_ hi)⟩);unfold kH bZ;rcases e with e|e <;> rw[e] <;> exact go
theorem Ai{m:Me}{tg:Mg}(I:Nat->Ev->PH->Prop)(e:m δ h=.ok (.ref n) h1)(hn:h1[n]?=a_ (.lst xs))(h0:I 0 δ h1)(keep:∀q δ h,q<=xs.length->I q δ h->h[n]?=a_ (.lst xs))(step:∀(q:Nat) x δ h,xs[q]?=a_ x->I q δ h->∃δ1,tg x δ=a_ δ1/\(body δ1 h).W { nx:=I (q+1),ct:=I (q+1),rt:=E.rt,bk:=E.nx})(fin:∀δ h,I xs.length δ h->E.nx δ h):(kH (bZ m) tg body δ h).W E:=by
 let hk:∀{h:PH},h[n]?=a_ (.lst xs)->uF n xs h=true:=λ{h} e=>by
  let e3:aV h n=a_ xs:=by unfold aV;rw[e]
  unfold uF;rw[e3];show PV.beqs_self xs
 unfold kH bZ;rw[e];let e2:ofSeq (.ref n) h1=.ok ⟨xs,uF n xs⟩ h1:=by
  let e3:aV h1 n=a_ xs:=by unfold aV;rw[hn]
  unfold ofSeq;simp only[e3]
 rw[Rs.bind_ok,e2,Rs.fl_ok];refine wC I _ 0 δ h1 h0 (λq x δ h _ hx hi=>?_) (λδ h hi=>?_)
 ·let az:xs[q]?=a_ x:=by simpa using hx
  have:=(XN.mp az).1;show⟨hk (keep q δ h ⋯ hi),step q x δ h az hi⟩
 ·let bf:I xs.length δ h:=by simpa using hi
  show⟨hk (keep _ δ h (X1 _) bf),fin δ h bf⟩
theorem hW{N:Nat}{Q:PV->PH->Prop}(w:(body (args.map a_++X4 (N-args.length) b_) h).W { nx:=λ_ h=>Q .non h,rt:=Q}):(mFn N body args h).W Q:=by
 unfold mFn;cases e:body (args.map a_++X4 (N-args.length) b_) h with
 |nx δ h'=>rw[e]at w;show w
 |rt p h'=>rw[e]at w;show w
 |_=>rw[e]at w;show w.elim
@[simp]theorem VN:gN i p δ=a_ (δ.set i (a_ p)):=(rfl)
@[simp]theorem Vt{u:Mgs}{ps:ve PV}:gTp n u (.tup ps) δ=if ps.length=n then u ps δ else b_:=(rfl)
@[simp]theorem Vu{t:Mg}{u:Mgs}{r:ve PV}:gCn t u (p::r) δ=(t p δ).bind (u r):=(rfl)
@[simp]theorem Vv:gNl [] δ=a_ δ:=(rfl)
end
def Ext(h h':PH):Prop:=∀(n:Nat)(o:MO),h[n]?=a_ o->h'[n]?=a_ o
theorem Ext.refl(h:PH):Ext h h:=λ_ _ e=>e
theorem Ext.trans{h2:PH}(a:Ext h h1)(b:Ext h1 h2):Ext h h2:=λn o e=>b n o (a n o e)
theorem Ext.app(h g:PH):Ext h (h++g):=λn o e=>by rw[Yb (XN.mp e).1];show e
theorem Ext.len{h':PH}(e:q0x 0):h.length<=h'.length:=by
 rcases Nat.lt_or_ge h'.length h.length with z|z
 ·have:h[h'.length]?=a_ h[h'.length]:=by simp[z]
  have:=(XN.mp (e _ _ this)).1;omega
 ·show z
theorem aM{o:MO}:(h++[o])[h.length]?=a_ o:=by simp
theorem lL{o o':MO}(e:h[n]?=a_ o):(h.set n o')[n]?=a_ o':=ZZ (XN.mp e).1
def PV.pl:Nat->PV->Bool
 |_,.non=>true
 |_,.int _=>true
 |_,.str _=>true
 |n+1,.tup xs=>xs.all (PV.pl n)
 |_,_=>false
theorem Ho{x:PV}{d:D}{ds:ve D}(h1:x.d=a_ d)(h2:PV.ds xs=a_ ds):PV.ds (x::xs)=a_ (d::ds):=by simp[PV.ds,h1,h2]
theorem TQ{ds:ve D}(h:PV.ds xs=a_ ds):(PV.tup xs).d=a_ (.tup ds):=by simp[PV.d,h]
theorem cF{d:D}(h:(PV.tup xs).d=a_ d):∃ds,PV.ds xs=a_ ds/\d=.tup ds:=by
 unfold PV.d at h;split at h
 ·rename_i ds e;cases h;show⟨ds,e,rfl⟩
 ·cases h
theorem dW{x:PV}{ds:ve D}(h:PV.ds (x::xs)=a_ ds):∃d r,x.d=a_ d/\PV.ds xs=a_ r/\ds=d::r:=by
 unfold PV.ds at h;split at h
 ·rename_i d r e1 e2;cases h;show⟨d,r,e1,e2,rfl⟩
 ·cases h
theorem mS:∀(n:Nat)(x:PV),x.pl n=true->∃d,x.d=a_ d/\d.depth<=n:=by
 intro n
 induction n with
 |zero=>intro x h;cases x <;> first|exact⟨_,rfl,X1 _⟩|(simp[PV.pl]at h)
 |succ n ih=>
  intro x h;cases x with
  |tup xs=>
   let h:xs.all (PV.pl n)=true:=h;let many:∀(xs:ve PV),xs.all (PV.pl n)=true->∃ds,PV.ds xs=a_ ds/\R_ 0<=n:=by
    intro xs
    induction xs with
    |nil=>intro _;show⟨[],rfl,YE _⟩
    |cons x xs ihx=>
     intro h;simp only[y0r,YU]at h;let⟨d,h1,h2⟩:=ih x h.1;let⟨ds,h3,h4⟩:=ihx h.2;refine⟨d::ds,Ho h1 h3,?_⟩
     change max d.depth (R_ 0)<=n
     omega
   let⟨ds,h1,h2⟩:=many xs h;refine⟨.tup ds,TQ h1,?_⟩
   change R_ 0+1<=n+1
   omega
  |_=>first|exact⟨_,rfl,YE _⟩|(simp[PV.pl]at h)
theorem Ep:∀(n:Nat)(x y:PV)(d e:D),x.pl n=true->y.pl n=true->x.d=a_ d->y.d=a_ e->eqD d e=decide (x=y):=by
 intro n
 induction n with
 |zero=>
  intro x y d e hx hy h1 h2;cases x <;> first|(simp[PV.pl]at hx;done)|skip
  all_goals cases h1
  all_goals cases y <;> first|(simp[PV.pl]at hy;done)|skip
  all_goals cases h2
  all_goals simp only[eqD]
  all_goals rw[Y3]
  all_goals simp
 |succ n ih=>
  intro x y d e hx hy h1 h2;let lists:∀(xs ys:ve PV)(ds es:ve D),xs.all (PV.pl n)=true->ys.all (PV.pl n)=true->PV.ds xs=a_ ds->PV.ds ys=a_ es->iQ ds es=decide (xs=ys):=by
   intro xs
   induction xs with
   |nil=>
    intro ys ds es _ _ h1 h2;cases h1
    cases ys with
    |nil=>cases h2;rfl
    |cons y ys=>let⟨d,r,_,_,rfl⟩:=dW h2;simp[iQ]
   |cons x xs ihx=>
    intro ys ds es hx hy h1 h2;let⟨d,r,g1,g2,rfl⟩:=dW h1;simp only[y0r,YU]at hx;cases ys with
    |nil=>cases h2;simp[iQ]
    |cons y ys=>let⟨e,q,g3,g4,rfl⟩:=dW h2;simp only[y0r,YU]at hy;simp only[iQ,ih x y d e hx.1 hy.1 g1 g3,ihx ys r q hx.2 hy.2 g2 g4];rw[Y3];simp
  cases x with
  |tup xs=>
   let⟨ds,g1,rfl⟩:=cF h1;cases y with
   |tup ys=>let⟨es,g2,rfl⟩:=cF h2;simp only[eqD,lists xs ys ds es hx hy g1 g2];rw[Y3];simp
   |non=>cases h2;simp[eqD]
   |int j=>cases h2;simp[eqD]
   |str j=>cases h2;simp[eqD]
   |_=>simp[PV.pl]at hy
  |non=>
   cases h1
   cases y with
   |tup ys=>let⟨es,g2,rfl⟩:=cF h2;simp[eqD]
   |non=>cases h2;simp[eqD]
   |int j=>cases h2;simp[eqD]
   |str j=>cases h2;simp[eqD]
   |_=>simp[PV.pl]at hy
  |int i=>
   cases h1
   cases y with
   |tup ys=>let⟨es,g2,rfl⟩:=cF h2;simp[eqD]
   |non=>cases h2;simp[eqD]
   |int j=>cases h2;simp only[eqD];rw[Y3];simp
   |str j=>cases h2;simp[eqD]
   |_=>simp[PV.pl]at hy
  |str i=>
   cases h1
   cases y with
   |tup ys=>let⟨es,g2,rfl⟩:=cF h2;simp[eqD]
   |non=>cases h2;simp[eqD]
   |int j=>cases h2;simp[eqD]
   |str j=>cases h2;simp only[eqD];rw[Y3];simp
   |_=>simp[PV.pl]at hy
  |_=>simp[PV.pl]at hx
theorem zA{x:PV}(hx:x.pl 40=true)(hy:y.pl 40=true):kY x y h=a_ (decide (x=y)):=by let⟨d,h1,h2⟩:=mS 40 x hx;let⟨e,h3,h4⟩:=mS 40 y hy;unfold kY;rw[h1,h3];simp only[h2,if_true,Ep 40 x y d e hx hy h1 h3]
theorem CD{x:PV}(hx:x.pl 40=true)(hy:y.pl 40=true):vEq x y h=.ok (.bl (decide (x=y))) h:=by unfold vEq;rw[zA hx hy];rfl
theorem KY{x:PV}(hx:x.pl 40=true)(hy:y.pl 40=true):vNe x y h=.ok (.bl (!decide (x=y))) h:=by unfold vNe;rw[zA hx hy];rfl
@[simp]theorem UH{i j:Int}:vEq (.int i) (.int j) h=.ok (.bl (decide (i=j))) h:=by rw[CD rfl rfl];congr 2;simp
@[simp]theorem UI{i j:Int}:vNe (.int i) (.int j) h=.ok (.bl (!decide (i=j))) h:=by rw[KY rfl rfl];congr 3;simp
@[simp]theorem UJ{i j:Str}:vEq (.str i) (.str j) h=.ok (.bl (decide (i=j))) h:=by rw[CD rfl rfl];congr 2;simp
@[simp]theorem UK{i j:Str}:vNe (.str i) (.str j) h=.ok (.bl (!decide (i=j))) h:=by rw[KY rfl rfl];congr 3;simp
theorem Er{x:PV}(hx:x.pl 39=true)(hy:ys.all (PV.pl 39)=true):Aa x ys=a_ (decide (x∈ys)):=by
 let key:∀ys:ve PV,ys.all (PV.pl 39)=true->∃ds,PV.ds ys=a_ ds/\R_ 0<=39/\∀d,x.d=a_ d->(ds.any λe=>eqD e d)=decide (x∈ys):=by
  intro ys
  induction ys with
  |nil=>intro _;show⟨[],rfl,YE _,λ_ _=>by simp⟩
  |cons y ys ih=>
   intro h;simp only[y0r,YU]at h;let⟨e,h1,h2⟩:=mS 39 y h.1;let⟨ds,h3,h4,h5⟩:=ih h.2;refine⟨e::ds,Ho h1 h3,?_,λd hd=>?_⟩
   ·change max e.depth (R_ 0)<=39
    omega
   ·rw[y1d,h5 d hd,Ep 39 y x e d h.1 hx h1 hd,Y3];simp only[Bool.or_eq_true,decide_eq_true_eq,Yf];constructor
    ·rintro(h|h)
     ·show .inl h.symm
     ·show .inr h
    ·rintro(h|h)
     ·show .inl h.symm
     ·show .inr h
 let⟨d,h1,h2⟩:=mS 39 x hx;let⟨ds,h3,h4,h5⟩:=key ys hy;unfold Aa;rw[h1,h3];simp only[show R_ 0<=40 by omega,if_true,h5 d h1]
theorem Od{x:PV}(e:h[n]?=a_ (.lst ys))(hx:x.pl 39=true)(hy:ys.all (PV.pl 39)=true):vIn x (.ref n) h=.ok (.bl (decide (x∈ys))) h:=by
 let e3:aV h n=a_ ys:=by unfold aV;rw[e]
 unfold vIn G6;simp only[e3,Er hx hy];rfl
theorem Ga{x:PV}(e:h[n]?=a_ (.lst ys))(hx:x.pl 39=true)(hy:ys.all (PV.pl 39)=true):Ab x (.ref n) h=.ok (.bl (!decide (x∈ys))) h:=by
 let e3:aV h n=a_ ys:=by unfold aV;rw[e]
 unfold Ab G6;simp only[e3,Er hx hy];rfl
theorem uJ(e1:h[n]?=a_ (.lst xs))(e2:h[m]?=a_ (.lst ys))(hx:xs.all (PV.pl 39)=true)(hy:ys.all (PV.pl 39)=true):kY (.ref n) (.ref m) h=a_ (decide (xs=ys)):=by
 let e3:gG (.ref n) h=a_ xs:=by unfold gG aV;simp only[e1]
 let e4:gG (.ref m) h=a_ ys:=by unfold gG aV;simp only[e2]
 let az:(PV.tup xs).pl 40=true:=hx;let d0:(PV.tup ys).pl 40=true:=hy;let⟨d,h1,h2⟩:=mS 40 _ az;let⟨e,h3,h4⟩:=mS 40 _ d0;let⟨ds,g1,rfl⟩:=cF h1;let⟨es,g2,rfl⟩:=cF h3;let h5:=Ep 40 _ _ _ _ az d0 h1 h3;let cy:R_ 0+1<=40:=h2;let WW:iQ ds es=decide (xs=ys):=by have:iQ ds es=decide (PV.tup xs=PV.tup ys):=h5;rw[this,Y3];simp
 unfold kY;let n1:(PV.ref n).d=b_:=rfl;rw[n1];simp only[e3,e4,g1,g2,show R_ 0<=40 by omega,if_true,WW]
theorem zB(e1:h[n]?=a_ (.lst xs))(e2:h[m]?=a_ (.lst ys))(hx:xs.all (PV.pl 39)=true)(hy:ys.all (PV.pl 39)=true):vEq (.ref n) (.ref m) h=.ok (.bl (decide (xs=ys))) h:=by unfold vEq;rw[uJ e1 e2 hx hy];rfl
theorem Oe(e1:h[n]?=a_ (.lst xs))(e2:h[m]?=a_ (.lst ys))(hx:xs.all (PV.pl 39)=true)(hy:ys.all (PV.pl 39)=true):vNe (.ref n) (.ref m) h=.ok (.bl (!decide (xs=ys))) h:=by unfold vNe;rw[uJ e1 e2 hx hy];rfl
section
variable{α:Type}{a b c d e f g:α}{r:ve α}
theorem uK{xs:ve α}{v:α}(i:Nat)(h:xs[i]?=a_ v):atI xs (i:Int)=a_ v:=vW h
@[simp]theorem VS:atI (a::r) 0=a_ a:=uK 0 rfl
@[simp]theorem VT:atI (a::b::r) 1=a_ b:=uK 1 rfl
@[simp]theorem VU:atI (a::b::c::r) 2=a_ c:=uK 2 rfl
@[simp]theorem VV:atI (a::b::c::d::r) 3=a_ d:=uK 3 rfl
@[simp]theorem VW:atI (a::b::c::d::e::r) 4=a_ e:=uK 4 rfl
end
open PySem.SeqAt
open PySem.AutoSeq1 (wpAny_loadPart')
open PySem.MeetsSeq PySem.MeetsSeq2 PySem.MeetsSeq3
def KZ(A:q_)(s:oa)(v u:n_)(b:Bool):Prop:=∀(prog:td)(w:s_)(E:d_ 0)(Q:d_ 0),Q (.bool b) s->x_ (richCompare .Lt v u) Q E s
def TR(A:q_)(s:oa)(v u:n_)(d e:D):Prop:=EqAt A s v u (eqD d e)/\(eqD d e=false->∀b,ltD d e=a_ b->KZ A s v u b)
abbrev BR(A:q_)(s:oa):ve n_->ve n_->ve D->ve D->Prop:=λvs us ds es=>vs.length=ds.length/\us.length=es.length/\∀(j:Nat) v u d e,vs[j]?=a_ v->us[j]?=a_ u->ds[j]?=a_ d->es[j]?=a_ e->TR A s v u d e
variable{us:ve n_}
theorem BR.tail{d e:D}{ds es:ve D}(h:BR A s (v::vs) (u::us) (d::ds) (e::es)):TR A s v u d e/\BR A s vs us ds es:=⟨h.2.2 0 v u d e rfl rfl rfl rfl,by have:=h.1;simpa using this,by have:=h.2.1;simpa using this,λj v u d e h1 h2 h3 h4=>h.2.2 (j+1) v u d e (i_ h1) (i_ h2) (i_ h3) (i_ h4)⟩
theorem uL(l b:o_)(items ax:q0p 0)(n n2:Nat)(dd dd2:v_ o_)(sl iw:j_ 0)(ds es:ve D)(c:Bool)(hc:sL ds es=a_ c):
  Meets (Builtin.«tuple.__lt__» ⟨[.ref l,.ref b],[]⟩)
   (λA R s=>s.heap.get? l=a_ {cls:=.type "tuple",dict:=dd,data:=.seq items n,slots:=sl}/\I_ 0=a_ {cls:=.type "tuple",dict:=dd2,data:=.seq ax n2,slots:=iw}/\
    BR A.in1 s items.toList ax.toList ds es/\R (.ok (.ret (.bool c))) s):=
 .of_wp λprog w A R s h=>by
  let⟨hp,g,d,tk,os⟩:=s;let⟨hl,hb,hit,h⟩:=h;let f2:=AutoSeq1.sub_tuple_tuple;let z1:items.size=ds.length:=by rw[<-hit.1];simp
  let z2:ax.size=es.length:=by rw[<-hit.2.1];simp
  wp_walk using wpAny_loadPart' hl,wpAny_loadPart' hb,wpAny_forIn_list _ (λrest b s'=>b.1=b_/\s'=⟨hp,g,d,tk,os⟩/\∃(vs ws:ve n_)(i5 f6:ve D),rest=vs.zip ws/\
   BR A.in1 ⟨hp,g,d,tk,os⟩ vs ws i5 f6/\i5.length+ax.size=f6.length+items.size/\sL i5 f6=a_ c) _
  case turn=>
   rintro⟨y,x⟩ rest b s' ⟨hb',rfl,vs,ws,i5,f6,hz,hvi,hlen,hR⟩;cases vs with
   |nil=>rw[List.zip_nil_left]at hz;cases hz
   |cons v vs=>
    cases ws with
    |nil=>rw[List.zip_nil_right]at hz;cases hz
    |cons u ws=>
     rw[List.zip_cons_cons]at hz;injection hz with hyx hrest;injection hyx with hy hx;subst hy hx;cases i5 with
     |nil=>have:=hvi.1;simp at this
     |cons a i5=>
      cases f6 with
      |nil=>have:=hvi.2.1;simp at this
      |cons e f6=>
       let⟨⟨h1,h2⟩,ht⟩:=BR.tail hvi;simp only[YM]at hlen;simp only[sL]at hR;refine XJ (h1 prog w _ _ ?_);cases q:eqD a e with
       |true=>
        rw[q,q0s 0]at hR
        wp_walk
        show⟨rfl,rfl,_,_,_,_,hrest,ht,⋯,hR⟩
       |false=>
        rw[q,if_neg Yg]at hR;let WQ:=h2 q c hR prog w
        wp_walk using WQ
        show⟨_,rfl,i_ h⟩
  case fin=>
   rintro⟨b1,b2⟩ s' ⟨hb',rfl,vs,ws,i5,f6,hz,hvi,hlen,hR⟩;simp only at hb';subst hb';let hv:c=decide (items.size<ax.size):=by
    cases i5 with
    |nil=>
     cases f6 with
     |nil=>
      simp only[List.length_nil]at hlen;simp only[sL]at hR;cases hR
      show(decide_eq_false ⋯).symm
     |cons e f6=>
      simp only[List.length_nil,YM]at hlen;simp only[sL]at hR;cases hR
      show(decide_eq_true ⋯).symm
    |cons a i5=>
     cases f6 with
     |nil=>
      simp only[List.length_nil,YM]at hlen;simp only[sL]at hR;cases hR
      show(decide_eq_false ⋯).symm
     |cons e f6=>
      exfalso;cases vs with
      |nil=>have:=hvi.1;simp at this
      |cons v vs=>
       cases ws with
       |nil=>have:=hvi.2.1;simp at this
       |cons u ws=>rw[List.zip_cons_cons]at hz;cases hz
   rw[hv]at h
   wp_walk
   show⟨_,rfl,by simpa[Builtin.Tuple.tupleCompareSizes] using h⟩
  case h=>exact⟨rfl,rfl,items.toList,ax.toList,ds,es,rfl,hit,⋯,hc⟩
section
variable{σ:St}
theorem Vw(I:P_ s):∀(n:Nat)(d e:D)(A:q_)(x y:V)(v u:n_)(b:Bool),d.depth<=n->A.units+n<cLine->Rep X.K H d x->Rep X.K H e y->q1f v->RelV y u->ltD d e=a_ b->KZ A s v u b:=by
 intro n
 induction n with
 |zero=>
  intro d e A x y v u b hd hu hx hy rx ry hb;cases d with
  |tup ds=>exact absurd hd (by change ¬ R_ 0+1<=0;omega)
  |int i=>
   cases e with
   |int j=>
    cases hx;cases hy;let⟨t,rfl⟩:=rx;let⟨t',rfl⟩:=ry;simp only[ltD]at hb;cases hb
    show λprog w E Q q=>(PyProof.Rows.lt_int q:x_ (YD .Lt _ _) Q E s)
   |_=>simp[ltD]at hb
  |str i=>
   cases e with
   |str j=>
    cases hx;cases hy;let⟨t,rfl⟩:=rx;let⟨t',rfl⟩:=ry;simp only[ltD]at hb;cases hb
    show λprog w E Q q=>(PyProof.Rows.lt_str q:x_ (YD .Lt _ _) Q E s)
   |_=>simp[ltD]at hb
  |_=>cases e <;> simp[ltD]at hb
 |succ n ih=>
  intro d e A x y v u b hd hu hx hy rx ry hb;by_cases h0:d.depth<=n
  ·show ih d e A x y v u b h0 ⋯ hx hy rx ry hb
  ·cases d with
   |tup ds=>
    cases e with
    |tup es=>
     let ju:R_ 0<=n:=by have:R_ 0+1<=n+1:=hd;omega
     let⟨a,vs,rfl,q,r⟩:=hx;cases rx
     let⟨its,rv,p,_⟩:=I.tuple q;let⟨a',i3,rfl,q',r'⟩:=hy;cases ry
     let⟨its',aw,p',_⟩:=I.tuple q';let hb':sL ds es=a_ b:=by simpa[ltD] using hb
     let⟨⟨cls,dd,data,sl⟩,ho,hc,m,i6⟩:=id p;let⟨⟨ka,dd2,data2,iw⟩,fc,c9,m2,hd2⟩:=id p';simp only at hc i6 c9 hd2;subst hc i6 c9 hd2;intro prog w E Q hq;refine richCompare_meets_room (op:=.Lt) ⟨_,ho,rfl⟩ ⟨_,fc,rfl⟩ PySem.F.slot_tuple_lt PySem.F.entry_tuple_lt (PySem.F.args_tuple_lt_2 _ _) (uL a a' its.toArray its'.toArray m m2 dd dd2 sl iw ds es b hb')
      ⟨ho,fc,⟨?_,?_,?_⟩,show Value.bool b≠Value.notImplemented/\Q (.bool b) s from⟨(λx=>nomatch x),hq⟩⟩ ⋯
     ·let l1:=r.length;let l3:=rv.length
      change its.length=ds.length
      omega
     ·let l1:=r'.length;let l3:=aw.length
      change its'.length=es.length
      omega
     ·intro j v u d e h1 h2 h3 h4;let⟨xv,ko,ij⟩:=r.at h3;let⟨yv,j7,iz⟩:=r'.at h4;let⟨xu,jc,cw⟩:=rv.get ko;let⟨yu,jf,ba⟩:=aw.get j7;let e1:v=xu:=by have:its[j]?=a_ v:=h1;rw[jc]at this;show(Yp this).symm
      let e2:u=yu:=by have:its'[j]?=a_ u:=h2;rw[jf]at this;show(Yp this).symm
      subst e1 e2;let ug:=D.depths_le h3;refine⟨Kk I (n:=n) ⋯ ?_ ij iz cw ba,λ_ b hb=>ih d e _ xv yv v u b ⋯ ?_ ij iz cw ba hb⟩
      all_goals (show A.units+1+n<cLine;omega)
    |_=>simp[ltD]at hb
   |_=>exact absurd (YE n) h0
end
variable{C:MC}{k:Nat}{X:Cx}
def Rj(x y:PV):v_ Bool:=match x.d,y.d with
 |some d,a_ e=>if d.depth<=40 then ltD d e else b_
 |_,_=>b_
def mK:PV->PV->PH->Rs PV:=λx y h=>match x,y with
 |.tup xs,.tup ys=>ofB (Rj (.tup xs) (.tup ys)) h
 |x,y=>vLt x y h
theorem Rl(hu:X.A.units+64<cLine)(K:XQ)(hK:X.K=K):q0J (YD .Lt) (λx y H Q=>∃d e b,Rep K H d x/\Rep K H e y/\d.depth<=40/\ltD d e=a_ b/\Q (.bl b) H):=by subst hK;intro FR s σ H x y v u Q I rx ry h;let⟨d,e,b,hx,hy,hd,hb,q⟩:=h;show Vw I 40 d e X.A x y v u b hd ⋯ hx hy rx ry hb X.prog X.w X.xe _ ⟨.bl _,H,I,rfl,q⟩
theorem CF:q0k (YD .Lt) mK:=λc=>((Rl c.hu64 C.K c.K).or (Vi c)).imp λx y H Q h=>by
 let⟨φ,h,p,q,rh,rx,ry,po⟩:=h;unfold mK at po;split at po
 ·let⟨b,e,po⟩:=po.ofB;unfold Rj at e;split at e
  ·rename_i d e' h1 h2;split at e
   ·rename_i hd;show .inl ⟨d,e',b,rx.rep h1,ry.rep h2,hd,e,M_ rfl⟩
   ·cases e
  ·cases e
 ·show .inr ⟨φ,h,p,q,rh,rx,ry,po⟩
@[simp]theorem Sq{i j:Int}:mK (.int i) (.int j) h=.ok (.bl (decide (i<j))) h:=(rfl)
def ltL(f:PV->PV->v_ Bool):ve PV->ve PV->v_ Bool
 |[],[]=>a_ false
 |[],_::_=>a_ true
 |_::_,[]=>a_ false
 |x::xs,y::ys=>if x=y then ltL f xs ys else f x y
def ltP:Nat->PV->PV->v_ Bool
 |_,.int a,.int b=>a_ (decide (a<b))
 |_,.str a,.str b=>a_ (decide (a.cps.toList<b.cps.toList))
 |n+1,.tup xs,.tup ys=>ltL (ltP n) xs ys
 |_,_,_=>b_
theorem L0:∀(n:Nat)(x y:PV)(d e:D),x.pl n=true->y.pl n=true->x.d=a_ d->y.d=a_ e->ltD d e=ltP n x y:=by
 intro n
 induction n with
 |zero=>
  intro x y d e hx hy h1 h2;cases x <;> first|(simp[PV.pl]at hx;done)|skip
  all_goals cases h1
  all_goals cases y <;> first|(simp[PV.pl]at hy;done)|skip
  all_goals cases h2
  all_goals simp[ltD,ltP]
 |succ n ih=>
  intro x y d e hx hy h1 h2;let lists:∀(xs ys:ve PV)(ds es:ve D),xs.all (PV.pl n)=true->ys.all (PV.pl n)=true->PV.ds xs=a_ ds->PV.ds ys=a_ es->sL ds es=ltL (ltP n) xs ys:=by
   intro xs
   induction xs with
   |nil=>
    intro ys ds es _ _ h1 h2;cases h1
    cases ys with
    |nil=>cases h2;simp[sL,ltL]
    |cons y ys=>let⟨d,r,_,_,rfl⟩:=dW h2;simp[sL,ltL]
   |cons x xs ihx=>
    intro ys ds es hx hy h1 h2;let⟨d,r,g1,g2,rfl⟩:=dW h1;simp only[y0r,YU]at hx;cases ys with
    |nil=>cases h2;simp[sL,ltL]
    |cons y ys=>let⟨e,q,g3,g4,rfl⟩:=dW h2;simp only[y0r,YU]at hy;simp only[sL,ltL,Ep n x y d e hx.1 hy.1 g1 g3,ihx ys r q hx.2 hy.2 g2 g4,ih x y d e hx.1 hy.1 g1 g3,decide_eq_true_eq]
  cases x with
  |tup xs=>
   let⟨ds,g1,rfl⟩:=cF h1;cases y with
   |tup ys=>let⟨es,g2,rfl⟩:=cF h2;simp only[ltD,lists xs ys ds es hx hy g1 g2,ltP]
   |non=>cases h2;simp[ltD,ltP]
   |int j=>cases h2;simp[ltD,ltP]
   |str j=>cases h2;simp[ltD,ltP]
   |_=>simp[PV.pl]at hy
  |non=>cases h1;cases y <;> first|(simp[PV.pl]at hy;done)|(let⟨es,g2,rfl⟩:=cF h2;simp[ltD,ltP];done)|(cases h2;simp[ltD,ltP])
  |int i=>cases h1;cases y <;> first|(simp[PV.pl]at hy;done)|(let⟨es,g2,rfl⟩:=cF h2;simp[ltD,ltP];done)|(cases h2;simp[ltD,ltP])
  |str i=>cases h1;cases y <;> first|(simp[PV.pl]at hy;done)|(let⟨es,g2,rfl⟩:=cF h2;simp[ltD,ltP];done)|(cases h2;simp[ltD,ltP])
  |_=>simp[PV.pl]at hx
theorem L1(hx:(PV.tup xs).pl 40=true)(hy:(PV.tup ys).pl 40=true)(e:ltL (ltP 39) xs ys=a_ b):mK (.tup xs) (.tup ys) h=.ok (.bl b) h:=by let⟨d,h1,h2⟩:=mS 40 _ hx;let⟨d',h3,h4⟩:=mS 40 _ hy;have:=L0 40 _ _ d d' hx hy h1 h3;let e':ltP 40 (.tup xs) (.tup ys)=a_ b:=e;unfold mK Rj;simp only[h1,h3,h2,if_true,this,e'];rfl
variable{C:MC}{k:Nat}{X:Cx}
theorem Gb{M:td×s_}{l:o_}(hl:s.heap.IsList l items)(h:∀s₂:oa,s₂={s with heap:=s.heap.push {cls:=.type "list_iterator",data:=.fields #[.ref l,.int 0 0]} }->
   (s₂.heap.IsListIter (c_ s) l 0/\s₂.heap.IsList l items)->(∀b∈[(c_ s),l],b<s₂.heap.objs.size)->l≠(c_ s)->Q (.ref (c_ s)) s₂):
  wpAny (model M.1 M.2) A (pyIter (.ref l)) Q E s:=by
 let ao:l<(c_ s):=by let⟨_,e,_⟩:=hl;show XZ e
 refine y1M hl (h _ rfl ⟨⟨_,q0O 0,rfl,rfl⟩,hl.push _⟩ (λb hb=>?_) (Yj ao))
 change b<(s.heap.push _).objs.size
 rw[Zn];rcases Yf.mp hb with rfl|hb
 ·show y1i _
 ·rcases Yf.mp hb with rfl|hb
  ·show Nat.lt_succ_of_lt ao
  ·cases hb
theorem J3(hc:X.calm=true)(K:XQ)(hK:X.K=K):dJ X (.builtin "any") (λxs H Q=>∃(p:o_)(bs:ve Bool),xs=[.ref p]/\q0S p (bs.map V.bl)/\Q (.bl (bs.any id)) H):=by
 subst hK;intro FR s σ H xs us Q I r h;let⟨p,bs,rfl,hq,q⟩:=h;let⟨u,rfl,ru⟩:=vals1 r;cases ru
 let⟨its,rv,pl,hz⟩:=I.list hq;let hlen:=rv.length;rw[XR]at hlen;refine call_any_walk (Gb (M:=(X.prog,X.w)) pl.isList λs₂ e st hfp VZ=>?_);subst e;refine⟨_,_,_,_,_,_,λi=>(bs[i]?).getD true,rfl,Walks.list (A:=X.A.in1) (I.ok.hd hc) _ p VZ its.toArray,st,?_,λh' tk hk=>?_⟩
 ·intro i v s' Q' E' hP hQ;let zj:its[i]?=a_ v:=by simpa using hP
  let⟨hi,_⟩:=XN.mp zj;let hb:i<bs.length:=⋯;let⟨u,hu,ru⟩:=rv.get (show(bs.map V.bl)[i]?=a_ (.bl bs[i]) by simp[hb]);rw[zj]at hu;cases hu
  cases ru
  refine y0A ?_;have:(bs[i]?).getD true=bs[i]:=by simp[hb]
  rw[<-this];show hQ
 ·let e:((YN its.toArray.size).any λi=>(bs[i]?).getD true)=bs.any id:=by
   let hs:its.toArray.size=bs.length:=by simp[hlen]
   rw[hs,Y3,List.any_eq_true,List.any_eq_true];constructor
   ·rintro⟨i,hi,h⟩;let bf:=y1P.mp hi;show⟨bs[i],Yw bf,by simpa[bf] using h⟩
   ·rintro⟨b,hb,h⟩;let⟨i,hi,rfl⟩:=List.mem_iff_getElem.mp hb;show⟨i,y1P.mpr hi,by simpa[hi] using h⟩
  rw[e];show⟨.bl _,H,I.kept (old_kept hk),rfl,q⟩
def PN:ve PV->v_ (ve Int)
 |[]=>a_ []
 |.int i::r=>(PN r).map (i::·)
 |_::_=>b_
def J5:ve PV->v_ (ve Bool)
 |[]=>a_ []
 |.bl i::r=>(J5 r).map (i::·)
 |_::_=>b_
theorem L3{φ:ve o_}{H:Hp}:∀{xs:ve PV}{vs:ve V}{ns:ve Bool},C_ xs vs->J5 xs=a_ ns->vs=ns.map V.bl
 |[],[],_,_,e=>by cases e;rfl
 |x::xs,v::vs,ns,⟨h,r⟩,e=>by
  cases x with
  |bl i=>
   cases h
   simp only[J5,Yo]at e;let⟨m,e,rfl⟩:=e;rw[L3 r e];rfl
  |_=>cases e
 |[],_::_,_,h,_=>h.elim
 |_::_,[],_,h,_=>h.elim
theorem L4(ns:ve Bool):J5 (ns.map PV.bl)=a_ ns:=by
 induction ns with
 |nil=>rfl
 |cons n ns ih=>simp[J5,ih]
def L5:ve PV->PH->Rs PV:=λxs h=>match xs with
 |[x]=>match gG x h with
  |some ys=>match J5 ys with
   |some ns=>.ok (.bl (ns.any id)) h
   |none=>.bad
  |none=>.bad
 |_=>.bad
theorem TU:uE C k X (.builtin "any") L5:=λc=>(J3 c.calm C.K c.K).imp λvs H Q h=>by
 let⟨φ,h,ps,rh,rv,po⟩:=h;unfold L5 at po;split at po
 ·let⟨v,rfl,rx⟩:=rv.one;split at po
  ·rename_i ys e;split at po
   ·rename_i ns en;let⟨a,vs,rfl,sa,ra⟩:=kW rh rx e;rw[L3 ra en]at sa;show⟨a,ns,rfl,sa,M_ rfl⟩
   ·show po.elim
  ·show po.elim
 ·show po.elim
theorem L6{ns:ve Bool}(e:h[n]?=a_ (.lst (ns.map PV.bl))):L5 [.ref n] h=.ok (.bl (ns.any id)) h:=by
 let e1:gG (.ref n) h=a_ (ns.map PV.bl):=by unfold gG aV;simp only[e]
 unfold L5;simp only[e1,L4]
open PySem
@[simp]theorem UL{lo:v_ Int}{z:Str}(c:z.length<=16777216):vSl (.str z) lo hi h=.ok (.str (y1S z lo hi)) h:=if_pos c
@[simp]theorem Of{lo:v_ Int}:vSl (.tup xs) lo hi h=.ok (.tup (oO xs lo hi)) h:=(rfl)
@[simp]theorem Vx{lo:v_ Int}:vSl (.fl xs) lo hi h=.ok (.ref h.length) (h++[.lst (oO xs lo hi)]):=(rfl)
theorem uM{lo:v_ Int}(e:h[n]?=a_ (.lst xs)):vSl (.ref n) lo hi h=.ok (.ref h.length) (h++[.lst (oO xs lo hi)]):=by
 let e3:aV h n=a_ xs:=by unfold aV;rw[e]
 unfold vSl;simp only[e3]
@[simp]theorem UM{x:PV}:vIs x .non h=.ok (.bl (mR x)) h:=(rfl)
@[simp]theorem Rm{x:PV}:Ae x .non h=.ok (.bl (!mR x)) h:=(rfl)
theorem CG{d:Nat}{i:Int}(h0:0<=i):HT.sIx n d (a_ i)=min i.toNat n:=by
 change(if i<0 then(i+(n:Int)).toNat else min i.toNat n)=_
 rw[if_neg ⋯]
theorem L7{α:Type}{xs:ve α}{j:Int}(h0:0<=j):oO xs b_ (a_ j)=xs.take j.toNat:=by unfold oO;rw[CG h0];simp only[HT.sIx,Y0,y0v];rw[List.take_eq_take_iff];omega
section
variable{tg:Mg}{g:PH->Bool}
theorem zC{δ0:Ev}{Q:PV->PH->Prop}(I:Nat->PH->Prop):∀(xs:ve PV)(k:Nat)(h:PH),I k h->
  (∀i x h,k<=i->xs[i-k]?=a_ x->I i h->g h=true/\∃δ1,tg x δ0=a_ δ1/\(tst δ1 h).W λb h'=>if b=true then(elt δ1 h').W λp fu=>∃ys,fu[n]?=a_ (.lst ys)/\ys.length<16777216/\I (i+1) (fu.set n (.lst (ys++[p]))) else I (i+1) h')->
  (∀h,I (k+xs.length) h->g h=true/\Q (.ref n) h)->(pR g tg tst elt δ0 n xs h).W Q
 |[],k,h,i0,_,fin=>by let⟨h1,h2⟩:=fin h i0;simp[pR,h1,h2]
 |x::xs,k,h,i0,step,fin=>by
  let⟨h1,δ1,h2,h3⟩:=step k x h (X1 _) (by simp) i0;let go:∀h2,I (k+1) h2->(pR g tg tst elt δ0 n xs h2).W Q:=λh2 i2=>
   zC I xs (k+1) h2 i2 (λi y h hk hy=>step i y h ⋯ (by
    have:i-k=(i-(k+1))+1:=⋯;rw[this,Y4];show hy)) (λh hi=>fin h (by
    let e:k+(x::xs).length=k+1+xs.length:=by simp;omega
    rw[e];show hi))
  unfold pR;rw[if_pos h1,h2]
  change(Rs.bind (tst δ1 h) _).W Q
  rw[G9];refine KO h3 λb h' hb=>?_;cases b with
  |false=>exact go h' (i_ hb)
  |true=>
   change(Rs.bind (elt δ1 h') _).W Q
   rw[G9];refine KO (show(elt δ1 h').W _ from by simpa using hb) λp fu hp=>?_
   let⟨ys,e,hz,hi⟩:=hp;let e':dU fu n=a_ ys:=by unfold dU;rw[e]
   simp[e',hz];show go _ hi
theorem BS{α:Type}{ys:ve α}{emb:α->PV}(f:α->v_ PV)(e:mi δ h=.ok ⟨ys.map emb,g⟩ h1)(hg:∀h,Ext h1 h->g h=true)(hz:ys.length<=16777216)(step:∀y∈ys,∃δ1,tg (emb y) (jU js δ)=a_ δ1/\∀h,Ext h1 h->match f y with
   |none=>tst δ1 h=.ok false h
   |some p=>tst δ1 h=.ok true h/\elt δ1 h=.ok p h):cS js mi tg tst elt δ h=.ok (.ref h1.length) (h1++[.lst (ys.filterMap f)]):=by
 let w:(cS js mi tg tst elt δ h).W λp h'=>p=.ref h1.length/\h'=h1++[.lst (ys.filterMap f)]:=by
  unfold cS;rw[e,Rs.bind_ok];refine zC (λi h'=>h'=h1++[.lst ((ys.take i).filterMap f)]) (ys.map emb) 0 _ (by simp) (λi x h' _ hx hi=>?_) (λh' hi=>?_)
  ·subst hi;let hx:(ys.map emb)[i]?=a_ x:=by simpa using hx
   rw[XT]at hx;let⟨y,hy,rfl⟩:=Yo.mp hx;let mw:=(XN.mp hy).1;let⟨δ1,ht,hs⟩:=step y (Yv hy);let hs:=hs (h1++[.lst ((ys.take i).filterMap f)]) (O_ _);let dm:ys.take (i+1)=ys.take i++[y]:=by rw[y0C,hy];rfl
   refine⟨hg _ (O_ _),δ1,ht,?_⟩;cases ef:f y with
   |none=>rw[ef]at hs;rw[hs];simp[dm,ef]
   |some p=>rw[ef]at hs;rw[hs.1];simp[hs.2];refine⟨?_,by simp[dm,ef]⟩;have:=List.length_filterMap_le f (ys.take i);rw[X9]at this;omega
  ·subst hi;simp;show hg _ (O_ _)
 let⟨p,h',e,rfl,rfl⟩:=iC w;show e
theorem Aj{m:Me}(e:m δ h=.ok (.ref n) h1)(hn:h1[n]?=a_ (.lst xs)):bZ m δ h=.ok ⟨xs,uF n xs⟩ h1:=by
 unfold bZ;let e3:aV h1 n=a_ xs:=by unfold aV;rw[hn]
 rw[e,Rs.bind_ok];unfold ofSeq;simp only[e3]
theorem uN(hn:h1[n]?=a_ (.lst xs)):∀h,Ext h1 h->uF n xs h=true:=λh hx=>by
 let e3:aV h n=a_ xs:=by unfold aV;rw[hx _ _ hn]
 unfold uF;rw[e3];show PV.beqs_self xs
theorem nP{α:Type}{m:Me}{ys:ve α}{emb:α->PV}(f:α->v_ PV)(e:m δ h=.ok (.ref n) h1)(hn:h1[n]?=a_ (.lst (ys.map emb)))(hz:ys.length<=16777216)
  (step:∀y∈ys,∃δ1,tg (emb y) (jU js δ)=a_ δ1/\∀h,Ext h1 h->match f y with
   |none=>tst δ1 h=.ok false h
   |some p=>tst δ1 h=.ok true h/\elt δ1 h=.ok p h):cS js (bZ m) tg tst elt δ h=.ok (.ref h1.length) (h1++[.lst (ys.filterMap f)]):=
 BS f (Aj e hn) (uN hn) hz step
end
variable{kvs:ve (PV×PV)}
section
variable{σ:St}
mutual
theorem L8(I:P_ s)(hK:X.K=C.K):∀(n:Nat){p:PV}{v:V}{u:n_},p.ky n=true->y_ p v->RelV v u->q1t p u
 |_,.int i,v,u,_,r,ru=>by cases r;show ru
 |_,.str i,v,u,_,r,ru=>by cases r;show ru
 |n+1,.tup ps,v,u,hk,r,ru=>by
  let⟨a,vs,rfl,q,rs⟩:=r;cases ru
  rw[<-hK]at q;let⟨its,rv,p,_⟩:=I.tuple q;show⟨a,its,rfl,p,CH I hK n (Yy.mp hk) rs rv⟩
 |0,.tup _,_,_,hk,_,_=>by cases hk
 |n,.non,_,_,hk,_,_=>by cases n <;> cases hk
 |n,.bl _,_,_,hk,_,_=>by cases n <;> cases hk
 |n,.ref _,_,_,hk,_,_=>by cases n <;> cases hk
 |n,.ty _,_,_,hk,_,_=>by cases n <;> cases hk
 |n,.fl _,_,_,hk,_,_=>by cases n <;> cases hk
theorem CH(I:P_ s)(hK:X.K=C.K):∀(n:Nat){ps:ve PV}{vs:ve V}{us:ve n_},(∀p∈ps,p.ky n=true)->C_ ps vs->aW vs us->HRs s.heap ps us
 |_,[],[],us,_,_,ru=>by cases ru;trivial
 |n,p::ps,v::vs,us,hk,r,ru=>by
  cases ru with
  |cons h t=>exact⟨L8 I hK n (hk p XY) r.1 h,CH I hK n (λq hq=>hk q (XW _ hq)) r.2 t⟩
 |_,[],_::_,_,_,r,_=>r.elim
 |_,_::_,[],_,_,r,_=>r.elim
end
abbrev B':ve (PV×o_×V)->ve (PV×o_×n_)->Prop:=Paired λp q=>p.1=q.1/\p.2.1=q.2.1/\RelV p.2.2 q.2.2
def HD(C:MC)(φ:ve o_)(H:Hp)(X:Cx)(s:oa)(a:o_)(kvs:ve (PV×PV)):Prop:=
 ∃ks xs,q0V 0/\B' ks xs/\xs.length<=X5/\(a == Zf)=false/\s.heap.DictOfH (BP X.prog X.w) a xs
def bJ(h:PH)(n:Nat):v_ (ve (PV×PV)):=match h[n]? with
 |some (.dD kvs)=>a_ kvs
 |some (.dK [])=>a_ []
 |_=>b_
def PV.isKt:PV->Bool
 |.tup xs=>(PV.tup xs).ky 6
 |_=>false
theorem zD(h:p.isKt=true):p.ky 6=true:=by cases p <;> first|exact h|cases h
theorem rE{v:V}(h:p.isKt=true)(r:y_ p v):∃b,v=.ref b:=by cases p <;> first|(let⟨b,_,e,_⟩:=r;show⟨b,e⟩)|cases h
theorem uO(I:P_ s)(hK:X.K=C.K)(hw:X.w=C.w)(rh:H_ h)(ha:φ[n]?=a_ a)(e:bJ h n=a_ kvs):HD C φ H X s a kvs/\Mut (H a)/\Ed (H a):=by
 unfold bJ at e;split at e
 ·rename_i kv hk;cases e
  let⟨ks,hH,r⟩:=q0l hk;let hO:dZ X.prog X.w H s.heap a (dDO C.w a ks):=I.hok a _ hH;let⟨⟨hz,hm,xs,rx,o,es,ep,h1,h2,h3,h4,h5⟩,_⟩:=hO;refine⟨⟨ks,xs,r,rx,by rw[<-YV rx];show hz,hm,o,es,ep,h1,h2,h3,?_,?_,h5⟩,by rw[hH];show y0N,by rw[hH];show y0N⟩
  ·rw[h4,<-hw];rfl
  ·let all:∀{l:ve (PV×PV)}{m:ve (PV×o_×V)}{z:ve (PV×o_×n_)},RKd C φ H l m->B' m z->∀x∈z,(BP X.prog X.w).is s.heap x.1 x.2.1:=by
    intro l m z q;unfold RKd at q
    induction q generalizing z with
    |nil=>intro rz x hx;cases rz;cases hx
    |cons hq t ih=>
     intro rz x hx;cases rz with
     |cons hz' tz=>
      rcases Yf.mp hx with e|hx
      ·subst e;refine⟨?_,?_⟩
       ·rw[<-hz'.1,<-hq.1];show hq.2.1
       ·rw[<-hz'.1,<-hq.1,<-hz'.2.1];show L8 I hK 6 hq.2.1 hq.2.2.1 rfl
      ·show ih tz x hx
   show all r rx
 ·rename_i hk;cases e
  let⟨ks,hH,r⟩:=q0l hk;have:ks=[]:=by cases r;rfl
  subst this;let⟨z,hd,vs,rel,o,es,ep,h1,h2,h3,h4,h5,h6⟩:=BH I.hok hH;have:vs=[]:=by cases rel;rfl
  subst this;refine⟨⟨[],[],.nil,.nil,YE _,hd,o,es,ep,h1,h2,h3,?_,(λx hx=>nomatch hx),List.nodup_nil⟩,by rw[hH];show y0N,by rw[hH];show y0N⟩;cases he:es.toList with
  |nil=>rfl
  |cons y ys=>rw[he]at h5;cases h5
 ·cases e
theorem HD.val{a:o_}{ks:ve (PV×o_×V)}{xs:ve (PV×o_×n_)}(r:q0V 0)(rx:B' ks xs)(k:PV):match bR kvs k,(q1g k).map (·.2) with
  |some p,a_ u=>∃v,RelV v u/\y_ p v
  |none,b_=>True
  |_,_=>False:=by
 unfold RKd at r
 induction r generalizing xs with
 |nil=>cases rx;trivial
 | @cons p q ps qs h t ih=>
  cases rx with
  | @cons q' x qs' xs' hx tx=>
   let⟨pk,pv⟩:=p;by_cases e:pk=k
   ·let e':x.1=k:=hx.1.symm.trans (h.1.symm.trans e);let b:atKey (x::xs') k=a_ x.2:=by simp[atKey,y0H,e']
    rw[b];unfold bR;rw[if_pos e];show⟨_,hx.2.2,h.2.2.2⟩
   ·let e':¬ x.1=k:=λz=>e (h.1.trans (hx.1.trans z));let b:atKey (x::xs') k=atKey xs' k:=by simp[atKey,y0H,e']
    rw[b];unfold bR;rw[if_neg e];show ih tx
def kJ{κ:Type}[DecidableEq κ](kvs:ve (κ×PV))(k:κ)(p:PV):ve (κ×PV):=if(bR kvs k).isSome then kvs.map (λkv=>if kv.1=k then(kv.1,p) else kv) else kvs++[(k,p)]
theorem HD.replace{a:o_}{ks:ve (PV×o_×V)}{xs:ve (PV×o_×n_)}(r:q0V 0)(rx:B' ks xs)(k:PV){v:V}(rp:y_ p v)(ru:RelV v u):
  ∃ay,RKd C φ H (kvs.map λkv=>if kv.1=k then(kv.1,p) else kv) ay/\B' ay (xs.map (putAt k u)):=by
 unfold RKd at r
 induction r generalizing xs with
 |nil=>cases rx;show⟨[],.nil,.nil⟩
 | @cons pp q ps qs h t ih=>
  cases rx with
  | @cons q' x qs' xs' hx tx=>
   let⟨ay,r1,r2⟩:=ih tx;by_cases e:pp.1=k
   ·refine⟨(q.1,q.2.1,v)::ay,.cons ?_ r1,.cons ?_ r2⟩
    ·simp only[if_pos e];show⟨h.1,h.2.1,h.2.2.1,rp⟩
    ·unfold putAt;rw[if_pos (hx.1.symm.trans (h.1.symm.trans e))];show⟨hx.1,hx.2.1,ru⟩
   ·refine⟨q::ay,.cons ?_ r1,.cons ?_ r2⟩
    ·simp only[if_neg e];show h
    ·unfold putAt;rw[if_neg λz=>e (h.1.trans (hx.1.trans z))];show hx
theorem HD.put{a b:o_}{ks:ve (PV×o_×V)}{xs:ve (PV×o_×n_)}(r:q0V 0)(rx:B' ks xs){k:PV}(hk:k.ky 6=true)(rk:y_ k (.ref b)){v:V}(rp:y_ p v)(ru:RelV v u):
  ∃ay,RKd C φ H (kJ kvs k p) ay/\B' ay (storedH xs k b u):=by
 let hv:=HD.val (a:=b) r rx k;unfold kJ storedH;cases e1:bR kvs k with
 |some p0=>
  rw[e1]at hv;cases e2:q1g k with
  |none=>rw[e2]at hv;show hv.elim
  |some z=>exact HD.replace (a:=b) r rx k rp ru
 |none=>
  rw[e1]at hv;cases e2:q1g k with
  |some z=>rw[e2]at hv;show hv.elim
  |none=>exact⟨ks++[(k,b,v)],Paired.snoc r ⟨rfl,hk,rk,rp⟩,Paired.snoc rx ⟨rfl,rfl,ru⟩⟩
theorem HD.isSome{ks:ve (PV×o_×V)}{xs:ve (PV×o_×n_)}(r:q0V 0)(rx:B' ks xs)(k:PV):(q1g k).isSome=(bR kvs k).isSome:=by
 let hv:=HD.val (a:=0) r rx k;cases e1:bR kvs k with
 |some p0=>
  rw[e1]at hv;cases e2:q1g k with
  |none=>rw[e2]at hv;show hv.elim
  |some z=>rfl
 |none=>
  rw[e1]at hv;cases e2:q1g k with
  |some z=>rw[e2]at hv;show hv.elim
  |none=>rfl
theorem BU(I:P_ s)(hK:X.K=C.K){b:o_}(hk:p.isKt=true)(r:y_ p (.ref b)):(BP X.prog X.w).is s.heap p b:=⟨zD hk,L8 I hK 6 (zD hk) r rfl⟩
end
theorem Cxt.room6{k:Nat}(c:q0n X):(BP X.prog X.w).room X.A.in1:=by
 have:=c.hu64
 change X.A.units+1+6<cLine
 omega
def sP(x y:PV)(h:PH):v_ (v_ PV):=match y with
 |.ref n=>if x.isKt=true then(bJ h n).map λkvs=>bR kvs x else b_
 |_=>b_
def Hq(C:MC):V->V->Hp->(ve o_->v_ PV->Prop)->Prop:=λx y H R=>∃φ h p n a kvs,H_ h/\y_ p x/\y=.ref a/\φ[n]?=a_ a/\bJ h n=a_ kvs/\p.isKt=true/\R φ (bR kvs p)
theorem sQ{q:PV}{x y:V}{o:v_ PV}{R:ve o_->v_ PV->Prop}(rh:H_ h)(rx:y_ p x)(ry:y_ q y)(e:sP p q h=a_ o)(r:R φ o):Hq C x y H R:=by
 unfold sP at e;cases q with
 |ref n=>
  let⟨a,rfl,ha⟩:=ry;dsimp only at e;split at e
  ·rename_i hk;cases e1:bJ h n with
   |none=>rw[e1]at e;cases e
   |some kvs=>rw[e1]at e;cases e;show⟨φ,h,p,n,a,kvs,rh,rx,rfl,ha,e1,hk,r⟩
  ·cases e
 |_=>cases e
theorem Og{k:Nat}(c:q0n X):q0J (YD .In) (λx y H Q=>Hq C x y H λ_ o=>Q (.bl o.isSome) H):=λFR s σ H x y v u Q I rx ry h=>by
 let⟨φ,h,p,n,a,kvs,rh,rp,rfl,ha,ht,hk,q⟩:=h;cases ry
 let⟨b,rfl⟩:=rE hk rp;cases rx
 let⟨⟨ks,xs,r,bx,hz,hm,dd⟩,_⟩:=q0W 0;refine wpAny_in_heap c.room6 (BU I c.K hk rp) hm dd ?_;rw[HD.isSome r bx p];show⟨.bl _,H,I.tok _,rfl,q⟩
theorem Gc{k:Nat}(c:q0n X):q0J (YD .NotIn) (λx y H Q=>Hq C x y H λ_ o=>Q (.bl (!o.isSome)) H):=λFR s σ H x y v u Q I rx ry h=>by
 let⟨φ,h,p,n,a,kvs,rh,rp,rfl,ha,ht,hk,q⟩:=h;cases ry
 let⟨b,rfl⟩:=rE hk rp;cases rx
 let⟨⟨ks,xs,r,bx,hz,hm,dd⟩,_⟩:=q0W 0;refine wpAny_notIn_heap c.room6 (BU I c.K hk rp) hm dd ?_;rw[HD.isSome r bx p];show⟨.bl _,H,I.tok _,rfl,q⟩
def Ak:PV->PV->PH->Rs PV:=λx y h=>match sP x y h with
 |some o=>.ok (.bl o.isSome) h
 |none=>vIn x y h
def rG:PV->PV->PH->Rs PV:=λx y h=>match sP x y h with
 |some o=>.ok (.bl (!o.isSome)) h
 |none=>Ab x y h
theorem PP{k:Nat}:q0k (YD .In) Ak:=λc=>((Vj c).or (Og c)).imp λx y H Q h=>by
 let⟨φ,h,p,q,rh,rx,ry,po⟩:=h;unfold Ak at po;cases e:sP p q h with
 |none=>rw[e]at po;show .inl ⟨φ,h,p,q,rh,rx,ry,po⟩
 |some o=>rw[e]at po;show .inr (sQ rh rx ry e (M_ rfl))
theorem L9{k:Nat}:q0k (YD .NotIn) rG:=λc=>((O3 c).or (Gc c)).imp λx y H Q h=>by
 let⟨φ,h,p,q,rh,rx,ry,po⟩:=h;unfold rG at po;cases e:sP p q h with
 |none=>rw[e]at po;show .inl ⟨φ,h,p,q,rh,rx,ry,po⟩
 |some o=>rw[e]at po;show .inr (sQ rh rx ry e (M_ rfl))
theorem Vy{k:Nat}(c:q0n X):IxR X (λx y H Q=>Hq C y x H λφ o=>∃p,o=a_ p/\∀v:V,y_ p v->Q v H):=by
 intro value slice FR s σ H x y v u Q I rx ry h hs;let⟨φ,h,p,n,a,kvs,rh,rp,rfl,ha,ht,hk,p',ep,q⟩:=h;cases rx
 let⟨b,rfl⟩:=rE hk rp;cases ry
 let⟨⟨ks,xs,r,bx,hz,hm,dd⟩,_⟩:=q0W 0;let hT:=dd.typeIs;let hv:=HD.val (a:=a) r bx p;rw[ep]at hv;cases e2:q1g p with
 |none=>rw[e2]at hv;show hv.elim
 |some z=>
  rw[e2]at hv;let⟨v',ae,b8⟩:=hv;unfold subscriptTail;refine XJ ?_;rw[getitemInPython_of_ne hT.not_modules];refine XJ (y1y hT PySem.F.slot_dict_getitem.lookup ?_);let fin:wpAny (fI X) X.A (subscripted slice false (.ref a) (.ref b)) (λr s₃=>wpAny (fI X) X.A (letTemporaryGo value (.ref a) r >>= λ_=>pure r) (q0q Q) X.xe s₃) X.xe s:=by rw[hs];show wpAny_operating (wpAny_getItem_heap c.room6 (BU I c.K hk rp) dd e2 (XJ (wpAny_letTemporaryGo (XM ⟨v',H,I.tok _,ae,q v' b8⟩))))
  first
   |exact XM (XJ fin)
   |exact XJ (XM (XJ fin))
   |exact XJ fin
def vAt:PV->PV->PH->Rs PV:=λx y h=>match sP y x h with
 |some (a_ p)=>.ok p h
 |some b_=>.bad
 |none=>vIx x y h
theorem bW{k:Nat}{a b:t_}(ha:G_ a ma)(hb:G_ b mb)(hs:GX b:=by intro _ _;rfl):G_ (.Subscript a b pos) (F_ ma mb):=λc=>
 (SN ((ixC c.hu C.K c.K).or (Vy c)) (ha c) (hb c) hs).imp λσ H Q h=>by
  let⟨φ,δ,h,rh,re,p⟩:=Hg h;refine⟨φ,δ,h,rh,re,p.imp ?_⟩;rintro v H1 ⟨φ,δ,h,rh,re,p⟩;refine⟨φ,δ,h,rh,re,p.imp ?_⟩;rintro u H2 ⟨φ,h,p,q,rh,rx,ry,po⟩;unfold vAt at po;cases e:sP q p h with
  |none=>rw[e]at po;show .inl (Ts ⟨φ,h,p,q,rh,rx,ry,po⟩)
  |some o=>
   rw[e]at po;cases o with
   |none=>exact po.elim
   |some r=>exact .inr (sQ rh ry rx e ⟨r,rfl,λv' rv=>M_ rv⟩)
def Ge(x y v:PV)(h:PH):v_ PH:=match x with
 |.ref n=>match IU y,h[n]? with
  |some key,a_ (.dK kvs)=>if kvs.length<X5 then a_ (h.set n (.dK (kJ kvs key v))) else b_
  |some _,_=>b_
  |none,_=>if y.isKt=true then(match bJ h n with
   |some kvs=>if kvs.length<X5 then a_ (h.set n (.dD (kJ kvs y v))) else b_
   |none=>b_) else b_
 |_=>b_
theorem Gf{κ:Type}[DecidableEq κ]{kvs:ve (κ×PV)}{ks:ve (κ×V)}(r:q1e kvs ks)(a:κ):(bR kvs a).isSome=(nI ks a).isSome:=by
 have:=wB r a;cases e1:bR kvs a with
 |none=>
  cases e2:nI ks a with
  |none=>rfl
  |some v=>rw[e1,e2]at this;show this.elim
 |some p=>
  cases e2:nI ks a with
  |none=>rw[e1,e2]at this;show this.elim
  |some v=>rfl
theorem Es{κ:Type}[DecidableEq κ]{kvs:ve (κ×PV)}{ks:ve (κ×V)}(r:q1e kvs ks)(a:κ){v:V}(rp:y_ p v):q1e (kJ kvs a p) (putK ks a v):=by
 unfold kJ putK;rw[zV,Gf r a];split
 ·rename_i hx;clear hx;unfold RKv at r⊢
  induction r with
  |nil=>exact .nil
  | @cons p' q' ps qs h t ih=>
   refine .cons ?_ ih;by_cases e:p'.1=a
   ·let e':q'.1=a:=h.1.symm.trans e;simp only[if_pos e,if_pos e'];show⟨h.1,rp⟩
   ·let e':¬ q'.1=a:=λz=>e (h.1.trans z);simp only[if_neg e,if_neg e'];show h
 ·show Paired.snoc r ⟨rfl,rp⟩
variable{px py:PV}{xu yu:n_}
theorem BV{k:Nat}{h':PH}{pv:PV}{x y v:V}(c:q0n X)(rh:H_ h)(rx:y_ px x)(ry:y_ py y)(rv:y_ pv v)(e:Ge px py pv h=a_ h'){σ:St}{Q:g_ Unit}(I:P_ s)(k7:q1f xu)(dz:RelV y yu)(jz:RelV v vu)(q:∀s' H',f_ H' s'->Kp H H'->RH C φ H' h'->Q () s'):wpAny (fI X) X.A (setItem xu yu vu) Q X.xe s:=by
 unfold Ge at e;cases px with
 |ref n=>
  let⟨a,rfl,ha⟩:=rx;cases k7
  dsimp only at e;split at e
  ·rename_i key kvs ak hk;split at e
   ·rename_i hl;cases e
    let⟨ks,hH,rk⟩:=q0l hk;let ey:y=kV key:=G7 ry ak;subst ey;let bj:ks.length<X5:=by rw[<-YV rk];show hl
    refine Iv c.hu I (.k hH bj) dz jz λs' I'=>q s' _ I' (Kp.dK hH) ?_;refine rh.write ha (by rw[hH];show y0N) ⟨_,bH,?_⟩;show(Es rk key rv).mono X0 (Kp.dK hH)
   ·cases e
  ·cases e
  ·split at e
   ·rename_i hk;split at e
    ·rename_i kvs ht;split at e
     ·rename_i hl;cases e
      let⟨b,rfl⟩:=rE hk ry;cases dz
      let⟨⟨ks,xs,r,bx,hz,hm,dd⟩,mu,nt⟩:=q0W 0;refine wpAny_setItem_heap (hsz:=hz) c.room6 (BU I c.K hk ry) dd λh' fe hs=>?_;let⟨ay,r1,r2⟩:=HD.put (a:=a) r bx (zD hk) ry rv jz;let⟨o,es,ep,hq,h2,h3,h4,_,h5⟩:=fe;let cq:ay.length<=X5:=by
       let e1:=YV r1;let e2:(kJ kvs py pv).length<=kvs.length+1:=by
        unfold kJ;split
        ·rw[XR];omega
        ·simp
       omega
      refine q _ (q0r a (dDO C.w a ay)) (rB I mu hs ⟨o,hq⟩ ⟨⟨cq,hm,_,r2,o,es,ep,hq,h2,h3,?_,h5⟩,⟨o,hq⟩,?_⟩) (Kp.upd nt) ?_
      ·rw[h4,<-c.w];rfl
      ·rintro g1 g2 ⟨z1,z2,ws,z3,o',dg,gg,z4,z5⟩ keep;show⟨z1,z2,ws,z3,o',dg,gg,keep _ z4,z5⟩
      ·show rh.write ha nt ⟨ay,bH,RKd.mono X0 (Kp.upd nt) r1⟩
     ·cases e
    ·cases e
   ·cases e
 |_=>cases e
def MtG(C:MC)(k:Nat)(X:Cx)(T:String)(ty:PV->PH->Bool)(id:String)(g:PV->ve PV->PH->Rs PV):Prop:=q0n X->MtR X id (rM C g)/\
 ∀FR s σ H φ h p x v,P_ s->H_ h->y_ p x->q1f v->ty p h=true->s.TypeIs v T/\∀a,v=.ref a->∃ob,q0C 0=a_ ob/\ob.dict=b_
theorem Rp{k:Nat}{o:t_}{id:String}{g:PV->ve PV->PH->Rs PV}(pa:PlainAttrs T)(slot:Slot T name id)(j4:typeOf (.builtin id)=pure (.type "method_descriptor"))(hm:MtG C k X T ty id g)(ho:G_ o mo)(ha:SA C k X (e::es) ms)(br:y1I o name X.env (eval o X.env)=eval o X.env:=by rfl)(gf:((backTo aj (Yr (e::es) X.env)).all (λx=>!x.1)&&(backToKw aj (keywordEach [] X.env)).all (λx=>x.1.isSome)
   && decide ((e::es).length+([]:ve Keyword).length+(if([]:ve Keyword).isEmpty then 0 else 1)<30))=true:=by rfl)(bw:(apos.endLine == aj.line)=true:=by rfl)(hs:Yr (e::es) X.env=(false,q0j 0)::q0i 0:=by rfl)(bq:(backTo aj (q0i 0)).any (·.1)=false:=by rfl):
  G_ (.Call (.Attribute o name apos) (e::es) [] aj) (mMt ty g mo ms):=λc FR s σ H Q I ⟨φ,δ,h,rh,re,p⟩=>by
 refine wpAny_Call_method_late br gf bw rfl (thn (ho c FR s σ H _ I ⟨φ,δ,h,rh,re,post.bind p⟩) ?_);rintro v s1 ⟨x,H1,I1,r1,φ1,px,h1,p1,t1,ab,ae,q1⟩;let⟨ht,q1⟩:=q1.ite;let⟨g1,g2⟩:=(hm c).2 FR s1 σ H1 φ1 h1 px x v I1 ab ae r1 ht;refine⟨T,id,pa,slot,j4,g1,g2,?_⟩;let hA:=ha c aj FR s1 σ H1 _ I1 ⟨φ1,δ,h1,ab,q0h 0,postA.bind q1⟩;rw[hs]at hA⊢;refine Calls.callWith_builtin (show(false || (backTo aj (q0i 0)).any (·.1))=false by rw[bq];rfl) (Calls.evalArgs_plain (thn hA ?_));rintro us s2 ⟨vs,H2,I2,r2,φ2,ps,h2,p2,t2,ar,b8,q2⟩;show(hm c).1 FR s2 σ H2 x vs v us Q I2 r1 r2 ⟨φ2,h2,px,ps,ar,ae.mono p2 t2,b8,q2⟩
theorem TV{k:Nat}{o:t_}{id:String}{g:PV->ve PV->PH->Rs PV}(pa:PlainAttrs T)(slot:Slot T name id)(j4:typeOf (.builtin id)=pure (.type "method_descriptor"))(hm:MtG C k X T ty id g)(ho:G_ o mo)(br:y1I o name X.env (eval o X.env)=eval o X.env:=by rfl)(bw:(apos.endLine == aj.line)=true:=by rfl):G_ (.Call (.Attribute o name apos) [] [] aj) (O8 ty g mo):=λc FR s σ H Q I ⟨φ,δ,h,rh,re,p⟩=>by refine wpAny_Call_method0_late br bw (thn (ho c FR s σ H _ I ⟨φ,δ,h,rh,re,post.bind p⟩) ?_);rintro v s1 ⟨x,H1,I1,r1,φ1,px,h1,p1,t1,ab,ae,q1⟩;let⟨ht,q1⟩:=q1.ite;let⟨g1,g2⟩:=(hm c).2 FR s1 σ H1 φ1 h1 px x v I1 ab ae r1 ht;show⟨T,id,pa,slot,j4,g1,g2,Calls.callWith_builtin rfl (PySem.evalArgs_none ((hm c).1 FR s1 σ H1 x [] v [] Q I1 r1 .nil ⟨φ1,h1,px,[],ab,ae,trivial,q1⟩))⟩
def pS(x:PV)(h:PH):Bool:=match x with
 |.ref n=>match h[n]? with
  |some (.dK _)=>true
  |some (.dD _)=>true
  |_=>false
 |_=>false
theorem Al{k:Nat}(c:q0n X):∀FR s σ H φ h p x v,P_ s->H_ h->y_ p x->q1f v->pS p h=true->s.TypeIs v "dict" /\ ∀a,v=.ref a->∃ob,q0C 0=a_ ob/\ob.dict=b_:=by
 intro FR s σ H φ h p x v I rh rv r e;unfold pS at e;cases p with
 |ref n=>
  let⟨a,rfl,ha⟩:=rv;cases r
  dsimp only at e;split at e
  ·rename_i kvs hk;let⟨ks,hH,rk⟩:=q0l hk;let⟨z,hd,vs,rel,dd⟩:=BH I.hok hH;refine⟨dd.typeIs,λb eb=>?_⟩;cases eb
   let⟨ob,_,_,h1,h2,_⟩:=dd;show⟨ob,h1,h2.2.1⟩
  ·rename_i kvs hk;let ht:bJ h n=a_ kvs:=by unfold bJ;rw[hk]
   let⟨⟨ks,xs,r,bx,hz,hm,dd⟩,_⟩:=q0W 0;refine⟨dd.typeIs,λb eb=>?_⟩;cases eb
   let⟨ob,_,_,h1,h2,_⟩:=dd;show⟨ob,h1,h2.2.1⟩
  ·cases e
 |_=>cases e
def kP:Key->PV
 |.inl i=>.int i
 |.inr x=>.str x
section
variable{k:Nat}
theorem RH.same(r:H_ h)(s:zT H H1):RH C φ H1 h:=⟨r.len,r.nd,λn b ob h1 h2=>by let q:=r.at' n b ob h1 h2;let⟨u,hu⟩:=q.some;show q.stay X0 (Kp.same s) ((s _ _ hu).trans hu.symm)⟩
theorem CI{φ:ve o_}{H:Hp}:∀{ss:ve Str}{vs:ve V},C_ (ss.map PV.str) vs↔vs=ss.map V.str
 |[],[]=>by simp[RVs]
 |[],_::_=>by simp[RVs]
 |_::_,[]=>by simp[RVs]
 |x::ss,v::vs=>by simp only[YA,RVs,List.cons.injEq];show and_congr Iff.rfl CI
end
open PySem
@[simp]theorem TX{i:Int}:sP (.int i) y h=b_:=by cases y <;> rfl
theorem Et{x:PV}(e:h[n]?=a_ (.lst xs)):sP x (.ref n) h=b_:=by unfold sP bJ;simp[e]
@[simp]theorem UN{x:PV}{i:Int}:vAt x (.int i) h=vIx x (.int i) h:=by unfold vAt;simp
theorem L'{x:PV}(e:h[n]?=a_ (.lst xs)):Ak x (.ref n) h=vIn x (.ref n) h:=by unfold Ak;rw[Et e]
theorem Eu{x:PV}(e:h[n]?=a_ (.lst xs)):rG x (.ref n) h=Ab x (.ref n) h:=by unfold rG;rw[Et e]
def rH:PV->ve PV->PH->Rs PV:=λx ps h=>match x,ps with
 |.ref n,[y,z]=>match IU y with
  |some key=>match h[n]? with
   |some (.dK kvs)=>match bR kvs key with
    |some p=>.ok p h
    |none=>if kvs.length<X5 then .ok z (h.set n (.dK (kJ kvs key z))) else .bad
   |_=>.bad
  |none=>if y.isKt=true then(match bJ h n with
   |some kvs=>match bR kvs y with
    |some p=>.ok p h
    |none=>if kvs.length<X5 then .ok z (h.set n (.dD (kJ kvs y z))) else .bad
   |none=>.bad) else .bad
 |_,_=>.bad
theorem La{κ:Type}[DecidableEq κ](kvs:ve (κ×PV))(a:κ)(p:PV):(kJ kvs a p).length<=kvs.length+1:=by
 unfold kJ;split
 ·rw[XR];omega
 ·simp
theorem Ba{k:Nat}(c:q0n X):MtR X "dict.setdefault" (rM C rH):=λFR s σ H x xs v us Q I rx rs h=>by
 let⟨φ,h,p,ps,rh,rp,kh,po⟩:=h;unfold rH at po;split at po
 ·rename_i n y z;let⟨a,rfl,ha⟩:=rp;cases rx
  let⟨yv,zv,rfl,ry,rz⟩:=kh.two;let⟨yu,zu,rfl,dz,rg⟩:=vals2 rs;split at po
  ·rename_i key ak;split at po
   ·rename_i kvs hk;let⟨ks,hH,rk⟩:=q0l hk;let ey:=G7 ry ak;subst ey;let⟨hz,hd,vs,rel,dd⟩:=BH I.hok hH;let Wx:vs.length<=X5:=by rw[<-rel.length];show hz
    let lv:=wB rk key;let rv:=rel.val key;refine call_meetsIn y1s dd.typeIs PySem.F.entry_dict_setdefault (PySem.F.args_dict_setdefault_3 _ _ _) (oJ (dY X.prog X.w) a hd (BE dz) zu) ⟨vs,dd,Wx,λv e=>?_,λe h' fe hs=>?_⟩
    ·rw[e]at rv;cases e1:nI ks key with
     |none=>rw[e1]at rv;show rv.elim
     |some v1=>
      rw[e1]at rv lv;cases e2:bR kvs key with
      |none=>rw[e2]at lv;show lv.elim
      |some p1=>rw[e2]at lv po;show⟨v1,H,I.tok _,rv,M_ lv⟩
    ·rw[e]at rv;cases e1:nI ks key with
     |some v1=>rw[e1]at rv;show rv.elim
     |none=>
      rw[e1]at lv;cases e2:bR kvs key with
      |some p1=>rw[e2]at lv;show lv.elim
      |none=>
       rw[e2]at po;let⟨hl,po⟩:=po.ite;let bj:(putK ks key zv).length<=X5:=by have:=qC ks key zv;let e3:=YV rk;omega
       let he:∃q,h'.get? a=a_ q:=let ⟨q,_,_,hq,_⟩:=fe;⟨q,hq⟩;refine⟨zv,q0r a (.dK (putK ks key zv)),rB I (by rw[hH];show y0N) hs he (K5 bj hd (rel.put key rg) fe),rg,?_⟩;let kp:Kp H (q0r a (.dK (putK ks key zv))):=Kp.dK hH;show po φ zv _ X0 kp (rh.write ha (by rw[hH];show y0N) ⟨_,bH,(Es rk key rz).mono X0 kp⟩) (rz.mono X0 kp)
   ·show po.elim
  ·let⟨hk,po⟩:=po.ite;split at po
   ·rename_i kvs ht;let⟨b,rfl⟩:=rE hk ry;cases dz
    let⟨⟨ks,xs,r,bx,hz,hm,dd⟩,mu,nt⟩:=q0W 0;let hv:=HD.val (a:=a) r bx y;refine call_meetsIn y1s dd.typeIs PySem.F.entry_dict_setdefault (PySem.F.args_dict_setdefault_3 _ _ _) (pY (BP X.prog X.w) a b hm zu) ⟨c.room6,y,xs,BU I c.K hk ry,dd,hz,λp e=>?_,λe h' fe hs=>?_⟩
    ·rw[e]at hv;cases e2:bR kvs y with
     |none=>rw[e2]at hv;show hv.elim
     |some p1=>rw[e2]at hv po;let⟨v',ae,b8⟩:=hv;show⟨v',H,I.tok _,ae,M_ b8⟩
    ·rw[e]at hv;cases e2:bR kvs y with
     |some p1=>rw[e2]at hv;show hv.elim
     |none=>
      rw[e2]at po;let⟨hl,po⟩:=po.ite;let⟨ay,r1,r2⟩:=HD.put (a:=a) r bx (zD hk) ry rz rg;let⟨o,es,ep,hq,h2,h3,h4,_,h5⟩:=fe;let cq:ay.length<=X5:=by let e1:=YV r1;let e3:=La kvs y z;omega
      refine⟨zv,q0r a (dDO C.w a ay),rB I mu hs ⟨o,hq⟩ ⟨⟨cq,hm,_,r2,o,es,ep,hq,h2,h3,?_,h5⟩,⟨o,hq⟩,?_⟩,rg,?_⟩
      ·rw[h4,<-c.w];rfl
      ·rintro g1 g2 ⟨z1,z2,ws,z3,o',dg,gg,z4,z5⟩ keep;show⟨z1,z2,ws,z3,o',dg,gg,keep _ z4,z5⟩
      ·show po φ zv _ X0 (Kp.upd nt) (rh.write ha nt ⟨ay,bH,RKd.mono X0 (Kp.upd nt) r1⟩) (rz.mono X0 (Kp.upd nt))
   ·show po.elim
 ·show po.elim
theorem CJ{k:Nat}:MtG C k X "dict" pS "dict.setdefault" rH:=λc=>⟨Ba c,Al c⟩
def xX{κ:Type}[DecidableEq κ](kvs:ve (κ×PV))(a:κ):ve (κ×PV):=kvs.filter λkv=>decide (kv.1≠a)
def uP(h:PH)(d:Nat):v_ (ve PV):=match h[d]? with
 |some (.dK kvs)=>a_ (kvs.map (·.2))
 |some (.dD kvs)=>a_ (kvs.map (·.2))
 |_=>b_
theorem Am{K:Type}[DecidableEq K]{knd:KeyKind prog w K}{es:ve y0o}{kvs:ve (K×n_)}(h:Pairs knd es kvs):es.map (·.val)=kvs.map (·.2):=by
 apply Zi;intro i;rw[XT,XT];let hl:=h.length;by_cases hi:i<es.length
 ·let e1:es[i]?=a_ es[i]:=by simp[hi]
  let bf:i<kvs.length:=⋯;let e2:kvs[i]?=a_ (kvs[i].1,kvs[i].2):=by simp[bf]
  rw[e1,e2];show congrArg a_ (h.get? e1 e2).2
 ·rw[y0a ⋯,y0a ⋯];rfl
theorem Lb{k:Nat}{σ:St}{d:Nat}{b:o_}(c:q0n X)(I:P_ s)(rh:H_ h)(hb:φ[d]?=a_ b)(e:uP h d=a_ xs):
  s.TypeIs (.ref b) "dict" /\ (b == Zf)=false/\xs.length<=X5/\∃oc es ep,I_ 0=a_ oc/\oc.data=.dict es ep/\∃ws,C_ xs ws/\aW ws (es.toList.map (·.val)):=by
 unfold uP at e;split at e
 ·rename_i kvs hk;cases e
  let⟨ks,hH,rk⟩:=rh.at' d b _ hb hk;let⟨z,hd,vs,rel,dd⟩:=BH I.hok hH;refine⟨dd.typeIs,hd,by rw[XR,YV rk];show z,?_⟩;let⟨oc,es,ep,g1,g2,g3,g4,g5,g6⟩:=dd;refine⟨oc,es,ep,g1,g3,ks.map (·.2),?_,?_⟩
  ·unfold RKv at rk;clear hk hH rel z
   induction rk with
   |nil=>trivial
   |cons q t ih=>exact⟨q.2,ih⟩
  ·rw[Am g5];clear hk hH g4 g5 g6 z;unfold KV at rel;clear rk
   induction rel with
   |nil=>exact .nil
   |cons q t ih=>exact .cons q.2 ih
 ·rename_i kvs hk;cases e
  let ht:bJ h d=a_ kvs:=by unfold bJ;rw[hk]
  let⟨⟨ks,ys,r,bx,hz,hm,dd⟩,_⟩:=uO I c.K c.w rh hb ht;let hlen:kvs.length=ys.length:=(YV r).trans (YV bx);refine⟨dd.typeIs,hm,by rw[XR,hlen];show hz,?_⟩;let⟨oc,es,ep,g1,g2,g3,g4,g5,g6⟩:=dd;refine⟨oc,es,ep,g1,g3,ks.map (·.2.2),?_,?_⟩
  ·unfold RKd at r;clear hk ht bx hlen
   induction r with
   |nil=>trivial
   |cons q t ih=>exact⟨q.2.2.2,ih⟩
  ·rw[g4,Y2];clear hk ht r hlen hz g4 g5 g6
   induction bx with
   |nil=>exact .nil
   |cons q t ih=>exact .cons q.2.2 ih
 ·cases e
theorem Oh(e:h[n]?=a_ (.dD kvs)):bJ h n=a_ kvs:=by simp[bJ,e]
variable{z:PV}
theorem J9(e:bJ h n=a_ kvs)(hk:(PV.tup xs).ky 6=true)(hl:kvs.length<16777216):
  rH (.ref n) [.tup xs,z] h=match bR kvs (.tup xs) with|some p=>.ok p h|none=>.ok z (h.set n (.dD (kJ kvs (.tup xs) z))):=by
 let k1:(PV.tup xs).isKt=true:=hk;let bj:kvs.length<X5:=by rw[kI];show hl
 unfold rH;simp only[IU,k1,if_true,e];cases bR kvs (.tup xs) with
 |some p=>rfl
 |none=>simp only[if_pos bj]
open PySem.SeqAt PySem.W
def An(l:W_ 0):ve Int:=l.map (λ(c:Nat)=>(c:Int)+2)++[1]
mutual
def enc:PV->ve Int
 |.int i=>[i]
 |.str x=>An x.cps.toList
 |.tup xs=>uQ xs
 |_=>[]
def uQ:ve PV->ve Int
 |[]=>[0]
 |x::xs=>1::(enc x++uQ xs)
end
theorem rJ(a:Nat)(l:W_ 0):An (a::l)=((a:Int)+2)::An l:=rfl
theorem Hr:∀(a b:W_ 0)(s t:ve Int),a≠b->((An a++s<An b++t)↔a<b)
 |[],[],_,_,h=>(h rfl).elim
 |[],b::bs,s,t,_=>by
  rw[rJ]
  change(1::s<((b:Int)+2)::(An bs++t))↔_
  rw[Zc];constructor
  ·intro _;show List.nil_lt_cons _ _
  ·intro _;left;omega
 |a::as,[],s,t,_=>by
  rw[rJ]
  change(((a:Int)+2)::(An as++s)<1::t)↔_
  rw[Zc];constructor
  ·rintro(h|⟨h,_⟩) <;> omega
  ·intro h;show(List.not_lt_nil _ h).elim
 |a::as,b::bs,s,t,h=>by
  rw[rJ,rJ]
  change(((a:Int)+2)::(An as++s)<((b:Int)+2)::(An bs++t))↔_
  rw[Zc,Zc];by_cases e:a=b
  ·subst e;let h':as≠bs:=λz=>h (by rw[z]);let ih:=Hr as bs s t h';constructor
   ·rintro(h1|⟨_,h1⟩)
    ·omega
    ·show .inr ⟨rfl,ih.mp h1⟩
   ·rintro(h1|⟨_,h1⟩)
    ·omega
    ·show .inr ⟨rfl,ih.mpr h1⟩
  ·constructor
   ·rintro(h1|⟨h1,_⟩) <;> (left;omega)
   ·rintro(h1|⟨h1,_⟩)
    ·left;omega
    ·show(e h1).elim
theorem Gg:∀(n:Nat)(x y:PV)(c:Bool)(s t:ve Int),x≠y->ltP n x y=a_ c->((enc x++s<enc y++t)↔c=true):=by
 intro n;let one:∀(a b:Int)(c:Bool)(s t:ve Int),PV.int a≠.int b->a_ (decide (a<b))=a_ c->(([a]++s < [b]++t)↔c=true):=λa b c s t h e=>by
  cases e
  let h':a≠b:=λz=>h (by rw[z])
  change(a::s<b::t)↔_
  rw[Zc,decide_eq_true_eq];constructor
  ·rintro(h1|⟨h1,_⟩)
   ·show h1
   ·show(h' h1).elim
  ·intro h1;show .inl h1
 let two:∀(a b:Str)(c:Bool)(s t:ve Int),PV.str a≠.str b->a_ (decide (a.cps.toList<b.cps.toList))=a_ c->((An a.cps.toList++s<An b.cps.toList++t)↔c=true):=λa b c s t h e=>by
  cases e
  rw[Hr _ _ s t (λz=>h (by rw[NZ z])),decide_eq_true_eq]
 induction n with
 |zero=>intro x y c s t h e;cases x <;> cases y <;> first|exact one _ _ c s t h e|exact two _ _ c s t h e|(simp[ltP]at e)
 |succ n ih=>
  let lists:∀(xs ys:ve PV)(c:Bool)(s t:ve Int),xs≠ys->ltL (ltP n) xs ys=a_ c->((uQ xs++s<uQ ys++t)↔c=true):=by
   intro xs
   induction xs with
   |nil=>
    intro ys c s t h e;cases ys with
    |nil=>exact(h rfl).elim
    |cons y ys=>
     cases e
     change(0::s<1::((enc y++uQ ys)++t))↔_
     rw[Zc];constructor
     ·intro _;rfl
     ·intro _;left;omega
   |cons x xs ihx=>
    intro ys c s t h e;cases ys with
    |nil=>
     cases e
     change(1::((enc x++uQ xs)++s)<0::t)↔_
     rw[Zc];constructor
     ·rintro(h1|⟨h1,_⟩) <;> omega
     ·intro h1;cases h1
    |cons y ys=>
     change(1::((enc x++uQ xs)++s)<1::((enc y++uQ ys)++t))↔_
     let e':(if x=y then ltL (ltP n) xs ys else ltP n x y)=a_ c:=e;rw[Zc,XU,XU];let key:(enc x++(uQ xs++s)<enc y++(uQ ys++t))↔c=true:=by
      by_cases xy:x=y
      ·rw[if_pos xy]at e';subst xy;have:=ihx ys c s t (λz=>h (by rw[z])) e';rw[<-this];let cut:∀l:ve Int,(l++(uQ xs++s)<l++(uQ ys++t))↔(uQ xs++s<uQ ys++t):=λl=>by
        induction l with
        |nil=>exact Iff.rfl
        |cons a l ih=>
         change(a::(l++_)<a::(l++_))↔_
         rw[Zc,ih];constructor
         ·rintro(h1|⟨_,h1⟩)
          ·omega
          ·show h1
         ·intro h1;show .inr ⟨rfl,h1⟩
       show cut _
      ·rw[if_neg xy]at e';show ih x y c _ _ xy e'
     rw[key];constructor
     ·rintro(h1|⟨_,h1⟩)
      ·omega
      ·show h1
     ·intro h1;show .inr ⟨rfl,h1⟩
  intro x y c s t h e;cases x <;> cases y <;> first|exact one _ _ c s t h e|exact two _ _ c s t h e|(simp[ltP]at e;done)|exact lists _ _ c s t (λz=>h (by rw[z])) e
def ltN(x y:PV):Bool:=decide (enc x<enc y)
theorem Ew{f:PV->PV->v_ Bool}:∀xs:ve PV,ltL f xs xs=a_ false
 |[]=>rfl
 |x::xs=>by
  change(if x=x then ltL f xs xs else f x x)=a_ false
  rw[q0s 0];show Ew xs
theorem Lc{x:PV}{c:Bool}(h:ltP n x x=a_ c):c=false:=by
 let st:∀{z:Str}{c:Bool},a_ (decide (z.cps.toList<z.cps.toList))=a_ c->c=false:=λ{z c} e=>by
  cases e
  show decide_eq_false (List.lt_irrefl _)
 let it:∀{z:Int}{c:Bool},a_ (decide (z<z))=a_ c->c=false:=λ{z c} e=>by
  cases e
  show decide_eq_false (Int.lt_irrefl _)
 cases n with
 |zero=>
  cases x with
  |int i=>exact it h
  |str i=>exact st h
  |_=>simp[ltP]at h
 |succ n=>
  cases x with
  |tup xs=>
   let h':ltL (ltP n) xs xs=a_ c:=h;rw[Ew]at h';cases h'
   rfl
  |int i=>exact it h
  |str i=>exact st h
  |_=>simp[ltP]at h
theorem Oi(x:PV):ltN x x=false:=decide_eq_false (List.lt_irrefl _)
theorem Ld{x:PV}{c:Bool}(h:ltP n x y=a_ c):ltN x y=c:=by
 by_cases e:x=y
 ·subst e;rw[Lc h];show Oi x
 ·have:=Gg n x y c [] [] e h;rw[YY,YY]at this;unfold ltN;cases c with
  |true=>exact decide_eq_true (this.mpr rfl)
  |false=>exact decide_eq_false λz=>by cases this.mp z
theorem Oj{x:PV}{c:Bool}(h:ltP n x y=a_ c)(e:enc x=enc y):x=y:=by
 by_cases xy:x=y
 ·show xy
 ·let h1:=Gg n x y c [0] [1] xy h;let h2:=Gg n x y c [1] [0] xy h;rw[e]at h1 h2;let cut:∀(l s t:ve Int),(l++s<l++t)↔(s<t):=λl s t=>by
   induction l with
   |nil=>exact Iff.rfl
   |cons a l ih=>
    change(a::(l++_)<a::(l++_))↔_
    rw[Zc,ih];constructor
    ·rintro(h1|⟨_,h1⟩)
     ·omega
     ·show h1
    ·intro h1;show .inr ⟨rfl,h1⟩
  rw[cut]at h1 h2;let t1:([0]:ve Int) < [1]:=by decide
  let t2:¬ ([1]:ve Int) < [0]:=by decide
  show(t2 (h2.mpr (h1.mp t1))).elim
theorem Gh{a b c:PV}(h1:ltN b a=false)(h2:ltN c b=false):ltN c a=false:=decide_eq_false (List.not_lt.mpr (List.le_trans (List.not_lt.mp (of_decide_eq_false h1)) (List.not_lt.mp (of_decide_eq_false h2))))
theorem Gi{a b:PV}(h:ltN a b=true):ltN b a=false:=decide_eq_false (List.lt_asymm (of_decide_eq_true h))
theorem Rq{a b:PV}(h1:ltN a b=false)(h2:ltN b a=false):enc a=enc b:=List.le_antisymm (List.not_lt.mp (of_decide_eq_false h2)) (List.not_lt.mp (of_decide_eq_false h1))
section
variable{α:Type}(key:α->PV)
def Ao(x:α):ve α->ve α
 |[]=>[x]
 |y::ys=>if ltN (key y) (key x) then y::Ao x ys else x::y::ys
def nQ:ve α->ve α
 |[]=>[]
 |x::xs=>Ao key x (nQ xs)
theorem wD(x:α):∀ys,(Ao key x ys).Perm (x::ys)
 |[]=>.refl _
 |y::ys=>by
  unfold Ao;split
  ·show((wD x ys).cons y).trans (.swap x y ys)
  ·show .refl _
theorem oR:∀xs,(nQ key xs).Perm xs
 |[]=>.refl _
 |x::xs=>(wD key x _).trans ((oR xs).cons x)
theorem xY(x:α):∀{ys:ve α},ys.Pairwise (λa b=>ltN (key b) (key a)=false)->(Ao key x ys).Pairwise (λa b=>ltN (key b) (key a)=false)
 |[],_=>ZU _ _
 |y::ys,h=>by
  unfold Ao;rw[y0g]at h;split
  ·rename_i ao;rw[y0g];refine⟨λz hz=>?_,xY x h.2⟩;rcases Yf.mp ((wD key x ys).mem_iff.mp hz) with rfl|hz
   ·show Gi ao
   ·show h.1 z hz
  ·rename_i ao;let ot:ltN (key y) (key x)=false:=by simpa using ao
   rw[y0g];refine⟨λz hz=>?_,y0g.mpr h⟩;rcases Yf.mp hz with rfl|hz
   ·show ot
   ·show Gh ot (h.1 z hz)
theorem oS:∀xs:ve α,(nQ key xs).Pairwise (λa b=>ltN (key b) (key a)=false)
 |[]=>.nil
 |x::xs=>xY key x (oS xs)
theorem BW{xs ys:ve α}(inj:∀a∈xs,∀b∈xs,enc (key a)=enc (key b)->a=b)(hp:ys.Perm xs)(h:ys.Pairwise (λa b=>ltN (key b) (key a)=false)):ys=nQ key xs:=by refine List.Perm.eq_of_pairwise (le:=λa b=>ltN (key b) (key a)=false) (λa b ha hb h1 h2=>?_) h (oS key xs) (hp.trans (oR key xs).symm);show inj a (hp.mem_iff.mp ha) b ((oR key xs).mem_iff.mp hb) (Rq h2 h1)
end
theorem Gj:∀{xs:ve PV}{ds:ve D},PV.ds xs=a_ ds->xs.length=ds.length
 |[],ds,h=>by cases h;rfl
 |x::xs,ds,h=>by let⟨d,r,_,h2,rfl⟩:=dW h;simp[Gj h2]
theorem Le:∀{xs:ve PV}{ds:ve D}{j:Nat}{d:D},PV.ds xs=a_ ds->ds[j]?=a_ d->∃x,xs[j]?=a_ x/\x.d=a_ d
 |[],ds,j,d,h,e=>by cases h;simp at e
 |x::xs,ds,j,d,h,e=>by
  let⟨d',r,h1,h2,rfl⟩:=dW h;cases j with
  |zero=>
   have:d'=d:=by simpa using e
   show⟨x,rfl,by rw[h1,this]⟩
  |succ j=>
   let⟨y,a,b⟩:=Le (j:=j) h2 (i_ e);show⟨y,i_ a,b⟩
theorem qI:∀(n:Nat)(p:PV),p.ky n=true->p.pl n=true:=by
 intro n
 induction n with
 |zero=>intro p h;cases p <;> first|rfl|cases h
 |succ n ih=>
  intro p h;cases p with
  |tup xs=>
   change xs.all (PV.pl n)=true
   rw[Yy];show λy hy=>ih y (Yy.mp (show xs.all (PV.ky n)=true from h) y hy)
  |_=>first|rfl|cases h
theorem Rr:∀(n:Nat){A:q_}{s:oa}{p q:PV}{v u:n_}{b:Bool},p.ky n=true->q.ky n=true->A.units+n<cLine->q1t p v->q1t q u->ltP n p q=a_ b->KZ A s v u b:=by
 intro n;let one:∀{A:q_}{s:oa}{i j:Int}{v u:n_}{b:Bool},q1t (.int i) v->q1t (.int j) u->a_ (decide (i<j))=a_ b->KZ A s v u b:=λ{A s i j v u b} r r' e=>by
  let⟨t,rfl⟩:=r;let⟨t',rfl⟩:=r';cases e
  show λprog w E Q q=>(PyProof.Rows.lt_int q:x_ (YD .Lt _ _) Q E s)
 let two:∀{A:q_}{s:oa}{i j:Str}{v u:n_}{b:Bool},q1t (.str i) v->q1t (.str j) u->a_ (decide (i.cps.toList<j.cps.toList))=a_ b->KZ A s v u b:=λ{A s i j v u b} r r' e=>by
  let⟨t,rfl⟩:=r;let⟨t',rfl⟩:=r';cases e
  show λprog w E Q q=>(PyProof.Rows.lt_str q:x_ (YD .Lt _ _) Q E s)
 induction n with
 |zero=>
  intro A s p q v u b hp hq hu r r' e;cases p with
  |int i=>
   cases q with
   |int j=>exact one r r' e
   |_=>simp[ltP]at e
  |str i=>
   cases q with
   |str j=>exact two r r' e
   |_=>simp[ltP]at e
  |_=>cases hp
 |succ n ih=>
  intro A s p q v u b hp hq hu r r' e;cases p with
  |int i=>
   cases q with
   |int j=>exact one r r' e
   |_=>simp[ltP]at e
  |str i=>
   cases q with
   |str j=>exact two r r' e
   |_=>simp[ltP]at e
  |tup ps=>
   cases q with
   |tup qs=>
    let⟨a,its,rfl,p1,rs⟩:=r;let⟨a',its',rfl,p2,de⟩:=r';let kp:∀z∈ps,z.ky n=true:=Yy.mp hp;let kq:∀z∈qs,z.ky n=true:=Yy.mp hq;let⟨d,hd,_⟩:=mS (n+1) _ (qI _ _ hp);let⟨d',cj,_⟩:=mS (n+1) _ (qI _ _ hq);let ao:=L0 (n+1) _ _ d d' (qI _ _ hp) (qI _ _ hq) hd cj;rw[e]at ao;let⟨ds,g1,rfl⟩:=cF hd;let⟨es,g2,rfl⟩:=cF cj;let hb':sL ds es=a_ b:=by simpa[ltD] using ao
    let⟨⟨cls,dd,data,sl⟩,ho,hc,m,i6⟩:=id p1;let⟨⟨ka,dd2,data2,iw⟩,fc,c9,m2,hd2⟩:=id p2;simp only at hc i6 c9 hd2;subst hc i6 c9 hd2;intro prog w E Q km;refine richCompare_meets_room (op:=.Lt) ⟨_,ho,rfl⟩ ⟨_,fc,rfl⟩ PySem.F.slot_tuple_lt PySem.F.entry_tuple_lt (PySem.F.args_tuple_lt_2 _ _) (uL a a' its.toArray its'.toArray m m2 dd dd2 sl iw ds es b hb')
     ⟨ho,fc,⟨?_,?_,?_⟩,show Value.bool b≠Value.notImplemented/\Q (.bool b) s from⟨(λx=>nomatch x),km⟩⟩ ⋯
    ·let l1:=rs.length;let l2:=Gj g1
     change its.length=ds.length
     omega
    ·let l1:=de.length;let l2:=Gj g2
     change its'.length=es.length
     omega
    ·intro j v u d e h1 h2 h3 h4;let⟨x,hx,ex⟩:=Le g1 h3;let⟨y,hy,ey⟩:=Le g2 h4;let⟨v',hv,rv⟩:=rs.at hx;let⟨u',kg,ru⟩:=de.at hy;let e1:v=v':=by have:its[j]?=a_ v:=h1;rw[hv]at this;show(Yp this).symm
     let e2:u=u':=by have:its'[j]?=a_ u:=h2;rw[kg]at this;show(Yp this).symm
     subst e1 e2;let kx:=kp x (Yv hx);let ky:=kq y (Yv hy);let zc:A.in1.units+n<cLine:=by change A.units+1+n<cLine;omega
     refine⟨?_,λ_ b hb=>?_⟩
     ·rw[Ep n x y d e (qI _ _ kx) (qI _ _ ky) ex ey];show G5 kx ky zc rv ru
     ·rw[L0 n x y d e (qI _ _ kx) (qI _ _ ky) ex ey]at hb;show ih kx ky zc rv ru hb
   |_=>simp[ltP]at e
  |_=>cases hp
section
def Lf:ve PV->Prop
 |.tup _::_=>False
 |_=>True
theorem BX{b fin:Bool}{n:Nat}{Q:g_ Bool}(hu:A.units+n<cLine):∀(ps qs:ve PV)(us ws:ve n_)(i:Nat)(c:Bool),(∀p∈ps,p.ky n=true)->(∀q∈qs,q.ky n=true)->HRs s.heap ps us->HRs s.heap qs ws->ltL (ltP n) ps qs=a_ c->((b&&i == 0)=true->Lf ps)->fin=decide (ps.length<qs.length)->Q c s->KatLex prog w A b fin Q (us.zip ws) i s
 |[],[],[],[],i,c,_,_,_,_,hc,_,hf,h=>by
  cases hc
  rw[hf];show h
 |[],q::qs,[],u::ws,i,c,_,_,_,_,hc,_,hf,h=>by
  cases hc
  rw[hf];show h
 |p::ps,[],u::us,[],i,c,_,_,_,_,hc,_,hf,h=>by
  cases hc
  rw[hf];show h
 |p::ps,q::qs,u::us,v::ws,i,c,kp,kq,rs,de,hc,hn,hf,h=>by
  rw[List.zip_cons_cons];let af:(if p=q then ltL (ltP n) ps qs else ltP n p q)=a_ c:=hc;let k1:=kp p XY;let k2:=kq q XY;refine kat_cons (G5 k1 k2 hu rs.1 de.1 prog w _ _ ?_);by_cases pq:p=q
  ·rw[if_pos pq]at af;rw[decide_eq_true pq];refine kat_yes (BX hu ps qs us ws (i+1) c (λz hz=>kp z (XW _ hz)) (λz hz=>kq z (XW _ hz)) rs.2 de.2 af (λz=>?_) ?_ h)
   ·cases b <;> simp at z
   ·rw[hf];simp
  ·rw[if_neg pq]at af;rw[decide_eq_false pq];refine kat_no ?_;let gen:x_ (oneLt' false u v) Q (λ_ _=>False) s:=kat_one _ _ (Rr n k1 k2 hu rs.1 de.1 af prog w _ (PySem.W.BoolBack Q) h);cases hb:(b&&i == 0) with
   |false=>exact gen
   |true=>
    let nr:=hn hb;cases p with
    |tup _=>exact nr.elim
    |int a=>
     cases q with
     |int d=>
      let⟨t,rfl⟩:=rs.1;let⟨t',rfl⟩:=de.1;let e:decide (a<d)=c:=by cases n <;> exact Yp af
      rw[<-e]at h;show oneLt_int h
     |_=>cases n <;> simp[ltP]at af
    |str a=>
     cases q with
     |str d=>
      let⟨t,rfl⟩:=rs.1;let⟨t',rfl⟩:=de.1;let e:decide (a.cps.toList<d.cps.toList)=c:=by cases n <;> exact Yp af
      rw[<-e]at h;show oneLt_str h
     |_=>cases n <;> simp[ltP]at af
    |_=>exact rs.1.elim
 |[],_,_::_,_,_,_,_,_,r,_,_,_,_,_=>r.elim
 |_::_,_,[],_,_,_,_,_,r,_,_,_,_,_=>r.elim
 |_,[],_,_::_,_,_,_,_,_,r,_,_,_,_=>r.elim
 |_,_::_,_,[],_,_,_,_,_,r,_,_,_,_=>r.elim
theorem Lg{q:PV}{c:Bool}{Q:g_ Bool}(hu:A.units+n<cLine)(kp:p.ky (n+1)=true)(kq:q.ky (n+1)=true)(tp:∃ps,p=.tup ps/\(b=true->Lf ps))(tq:∃qs,q=.tup qs)(r:q1t p v)(r':q1t q u)(hc:ltP (n+1) p q=a_ c)(h:Q c s):
  x_ (keyLt' (tuples' b) v u) Q E s:=by
 let⟨ps,rfl,hn⟩:=tp;let⟨qs,rfl⟩:=tq;let⟨a,its,rfl,⟨ox,Xt,_,m,dx⟩,rs⟩:=r;let⟨a',its',rfl,⟨oy,XC,_,m',dy⟩,de⟩:=r';refine kat_lt Xt dx XC dy ?_;let l1:=rs.length;let l2:=de.length;let e1:decide (its.toArray.size<its'.toArray.size)=decide (ps.length<qs.length):=by simp[l1,l2]
 rw[e1];show BX hu ps qs its its' 0 c (Yy.mp kp) (Yy.mp kq) rs de hc (λz=>hn (by cases b <;> simp at z;rfl)) rfl h
def fk:PV->Nat
 |.tup (.int _::_)=>0
 |.tup (.str _::_)=>1
 |.tup (.tup _::_)=>2
 |_=>3
def fkT(m:Nat):n_:=.type (if m=0 then "int" else if m=1 then "str" else "tuple")
theorem Ap{m:Nat}(hm:m<3):∀{ps:ve PV}{vs:ve n_},HRs s.heap ps vs->(∀p∈ps,fk p=m)->∃fs:ve n_,fs.length=vs.length/\KatTups s.heap vs fs/\∀f∈fs,Looks (q0M 0) s.heap (typeOf f) (fkT m)
 |[],[],_,_=>⟨[],rfl,KatTups.nil,λ_ hf=>nomatch hf⟩
 |p::ps,v::vs,r,hs=>by
  let⟨fs,hl,ht,hT⟩:=Ap hm r.2 λx hx=>hs x (XW _ hx);let h0:=hs p XY;let r1:=r.1;cases p with
  |tup xs=>
   let⟨a,its,rfl,⟨o,ho,hc,n,hd⟩,rx⟩:=r1;cases xs with
   |nil=>simp[fk]at h0;omega
   |cons x xs=>
    cases its with
    |nil=>exact rx.elim
    |cons f its=>
     refine⟨f::fs,by simp[hl],KatTups.cons ho hc hd (by simp) ht,λg hg=>?_⟩;rcases Yf.mp hg with rfl|hg
     ·let rf:=rx.1;cases x with
      |int i=>let⟨t,rfl⟩:=rf;have:m=0:=h0.symm;subst this;show Looks.now
      |str i=>let⟨t,rfl⟩:=rf;have:m=1:=h0.symm;subst this;show Looks.now
      |tup i=>let⟨a',its',rfl,⟨o',cg,af,n',cj⟩,_⟩:=rf;have:m=2:=h0.symm;subst this;have:Looks (q0M 0) s.heap (typeOf (.ref a')) o'.cls:=(Looks.ld cg).andThen .now;rw[af]at this;show this
      |_=>exact rf.elim
     ·show hT g hg
  |_=>simp[fk]at h0;omega
 |[],_::_,r,_=>r.elim
 |_::_,[],r,_=>r.elim
theorem Ol(hm:m<3){ps:ve PV}{Q:g_ y0e}(r:HRs s.heap ps vs)(hs:∀p∈ps,fk p=m)(h0:0<vs.length)(h:Q (tuples' (decide (m≠2))) s):x_ (keyKind' vs.toArray) Q E s:=by
 let⟨fs,hl,ht,hT⟩:=Ap (prog:=prog) (w:=w) hm r hs;refine kat_kind (T:=fkT m) ht ⋯ hT ?_ ?_
 ·match m,hm with
  |0,_=>rfl
  |1,_=>rfl
  |2,_=>rfl
 ·have:((fkT m) != y0y "tuple")=decide (m≠2):=by
   match m,hm with
   |0,_=>rfl
   |1,_=>rfl
   |2,_=>rfl
  rw[this];show h
end
structure OkN(m:Nat)(xs:ve PV):Prop where
 m3:m<3
 ky:∀x∈xs,x.ky 20=true
 fk:∀x∈xs,fk x=m
 lt:∀x∈xs,∀y∈xs,(ltP 20 x y).isSome=true
theorem OkN.inj(h:OkN m xs):∀a∈xs,∀b∈xs,enc a=enc b->a=b:=λa ha b hb e=>by let⟨c,hc⟩:=y03.mp (h.lt a ha b hb);show Oj hc e
theorem Lh(hm:m<3)(h:fk p=m):∃ps,p=.tup ps/\(decide (m≠2)=true->Lf ps):=by
 cases p with
 |tup xs=>
  refine⟨xs,rfl,λhd=>?_⟩;let cj:m≠2:=of_decide_eq_true hd;cases xs with
  |nil=>trivial
  |cons x xs=>cases x <;> first|trivial|(exact(cj h.symm).elim)
 |_=>simp[fk]at h;omega
theorem HRs.getD{h:r_}{ps:ve PV}(r:HRs h ps vs)(hi:i<ps.length):HR h (ps.getD i .non) (q0u 0):=by
 let g:ps[i]?=a_ (ps.getD i .non):=by simp[hi]
 let⟨v,hv,hr⟩:=r.at g;let e:q0u 0=v:=by simp[X8,hv]
 rw[e];show hr
def BY:ve PV->v_ (ve Str)
 |[]=>a_ []
 |.str x::r=>(BY r).map (x::·)
 |_=>b_
theorem Ex:∀ss:ve Str,BY (ss.map PV.str)=a_ ss
 |[]=>rfl
 |x::r=>by
  change(BY (r.map PV.str)).map (x::·)=_
  rw[Ex r];rfl
theorem Ey:∀{xs:ve PV}{ss:ve Str},BY xs=a_ ss->xs=ss.map PV.str
 |[],ss,h=>by cases h;rfl
 |x::r,ss,h=>by
  cases x with
  |str z=>have h':(BY r).map (z::·)=a_ ss:=h;let⟨t,ht,rfl⟩:=Yo.mp h';rw[Ey ht];rfl
  |_=>cases h
theorem RVs.pick{vs:ve V}(r:C_ xs vs):∀{p:W_ 0},(∀i∈p,i<xs.length)->C_ (p.map λi=>xs.getD i .non) (p.map λi=>vs.getD i .non)
 |[],_=>trivial
 |i::p,h=>by
  let hi:=h i XY;let g:xs[i]?=a_ (xs.getD i .non):=by simp[hi]
  let⟨v,hv,hr⟩:=r.at g;let e:vs.getD i .non=v:=by simp[X8,hv]
  refine⟨?_,RVs.pick r λj hj=>h j (XW _ hj)⟩
  change y_ (xs.getD i .non) (vs.getD i .non)
  rw[e];show hr
theorem Li{σ:St}(I:P_ s)(ha:(c_ s)<=a):X.s₀.heap.objs.size<=a/\a≠X.env.locals/\(∀x c,Z_ 0=a_ c->c≠a)/\(∀p∈X.pn++FR,p.1≠a)/\a∉X.fs:=by
 refine⟨Y9 I.sz ha,Za (Yl I.lt ha),λx c e z=>?_,λp hp z=>?_,I.nofs ha⟩
 ·let⟨v,o,ho,_⟩:=I.cell x c e;rw[z]at ho;show absurd (Yl (XZ ho) ha) (ZD _)
 ·let ho:=(I.pin p hp).1;rw[z]at ho;show absurd (Yl (XZ ho) ha) (ZD _)
theorem qJ{its:q0p 0}{e:Nat}:∀v,(seqObj "list" its e).data≠.cell v:=λv z=>nomatch z
theorem Inv.adopt{σ:St}{d:o_}(I:P_ s)(ha:H a=b_)(hd:H d=b_)(fa:X.s₀.heap.objs.size<=a/\a≠X.env.locals/\(∀x c,Z_ 0=a_ c->c≠a)/\(∀p∈X.pn++FR,p.1≠a)/\a∉X.fs)(fd:X.s₀.heap.objs.size<=d/\d≠X.env.locals/\(∀x c,Z_ 0=a_ c->c≠d)/\(∀p∈X.pn++FR,p.1≠d)/\d∉X.fs)(kp:∀x u,x≠a->x≠d->s.heap.get? x=a_ u->h'.get? x=a_ u)(new:dZ X.prog X.w (q0r a o) h' a o):f_ (q0r a o) {s with heap:=h'}:=by
 let na:∀x u,H x=a_ u->x≠a:=λx u e z=>by rw[z,ha]at e;cases e
 let nd:∀x u,H x=a_ u->x≠d:=λx u e z=>by rw[z,hd]at e;cases e
 refine I.call' (s':={s with heap:=h'}) (ch:=[a,d]) rfl ⟨λb u q n _ hx=>?_,λb u q n _ hx=>⟨u.slots,?_⟩,λb u q n hx=>?_,λb u q hx=>⟨u,?_⟩,λb xs q=>?_,λb u xs q=>?_,λb ps q=>⟨#[],?_⟩⟩ (λb u e=>?_) I.bare λb hb=>?_
 ·show kp b u (λz=>hx (by simp[z])) (λz=>hx (by simp[z])) q
 ·show kp b u (λz=>hx (by simp[z])) (λz=>hx (by simp[z])) q
 ·rw[aS (λz=>hx (by simp[z]))];show n
 ·show kp b u (λz=>hx (by simp[z])) (λz=>hx (by simp[z])) q
 ·rw[aS (na _ _ q)];show q
 ·rw[aS (na _ _ q)];show q
 ·rw[aS (na _ _ q),q];simp
 ·by_cases hb:b=a
  ·subst hb;rw[bH]at e;cases e;show new
  ·rw[aS hb]at e;refine(I.hok b u e).stay (λc v hc q=>kp c v ?_ ?_ q) (λc q=>by rw[aS (na _ _ q)];show q) λc xs q=>by rw[aS (na _ _ q)];show q
   ·rcases hc with z|z
    ·rw[z];show hb
    ·show na _ _ z
   ·rcases hc with z|z
    ·rw[z];show nd _ _ e
    ·show nd _ _ z
 ·rcases Yf.mp hb with rfl|hb
  ·show⟨.inr fa.1,fa.2.1,fa.2.2.1,fa.2.2.2.1⟩
  ·rw[YC.mp hb];show⟨.inr fd.1,fd.2.1,fd.2.2.1,fd.2.2.2.1⟩
open PySem
theorem J'(e:bJ h n=a_ kvs):uP h n=a_ (kvs.map (·.2)):=by
 unfold bJ at e;split at e
 ·rename_i q;cases e;simp[uP,q]
 ·rename_i q;cases e;simp[uP,q]
 ·cases e
theorem cE(e:bJ h n=a_ kvs):∃o,h[n]?=a_ o/\pS (.ref n) h=true/\∀h',h'[n]?=a_ o->bJ h' n=a_ kvs:=by
 unfold bJ at e;split at e
 ·rename_i q;cases e;show⟨_,q,by simp[pS,q],λh' e=>by simp[bJ,e]⟩
 ·rename_i q;cases e;show⟨_,q,by simp[pS,q],λh' e=>by simp[bJ,e]⟩
 ·cases e
theorem Aq{h':PH}(x:q0x 0)(e:bJ h n=a_ kvs):bJ h' n=a_ kvs:=by let⟨o,g,_,k⟩:=cE e;show k h' (x _ _ g)
theorem Rt(e:bJ h n=a_ kvs)(hk:(PV.tup xs).ky 6=true)(hl:kvs.length<16777216):Ge (.ref n) (.tup xs) z h=a_ (h.set n (.dD (kJ kvs (.tup xs) z))):=by
 let k1:(PV.tup xs).isKt=true:=hk;let bj:kvs.length<X5:=by rw[kI];show hl
 unfold Ge;simp only[IU,k1,if_true,e];rw[if_pos bj]
theorem Ru(e:bJ h n=a_ kvs)(hk:(PV.tup xs).ky 6=true):Ak (.tup xs) (.ref n) h=.ok (.bl (bR kvs (.tup xs)).isSome) h:=by
 let k1:(PV.tup xs).isKt=true:=hk;have:sP (.tup xs) (.ref n) h=a_ (bR kvs (.tup xs)):=by simp only[sP,k1,if_true,e,Option.map_some]
 unfold Ak;rw[this]
@[simp]theorem Rv:mR .non=true:=(rfl)
theorem Ext.setN{hX:PH}{o:MO}(x:Ext h hX)(hn:h.length<=n):Ext h (hX.set n o):=λm o' e=>by have:=(XN.mp e).1;rw[Ye ⋯];show x m o' e
theorem gR(e1:h[n]?=a_ (.lst xs))(e2:h[m]?=a_ (.lst ys))(c:xs.length+ys.length<=16777216):aR (.ref n) (.ref m) h=.ok (.ref h.length) (h++[.lst (xs++ys)]):=by
 change Kw (.ref n) (.ref m) h=_
 simp[Kw,dU,e1,e2,c]
def mT(f:Str)(p:PV):ve (Str×PV)->ve (Str×PV)
 |[]=>[(f,p)]
 |(g,x)::r=>if g=f then(g,p)::r else(g,x)::mT f p r
def pT(x:PV)(h:PH):v_ (Nat×Str×ve (Str×PV)):=match x with
 |.ref n=>match h[n]? with
  |some (.ins c fs)=>a_ (n,c,fs)
  |_=>b_
 |_=>b_
def fH(f:Str):PV->PH->Rs PV:=λx h=>match pT x h with
 |some (_,_,fs)=>match fs.lookup f with
  |some p=>.ok p h
  |none=>.bad
 |none=>.bad
def xZ(f:Str)(x y:PV)(h:PH):v_ PH:=match pT x h with
 |some (n,c,fs)=>if fs.length<1000 then a_ (h.set n (.ins c (mT f y fs))) else b_
 |none=>b_
theorem Lj{fs:ve (Str×PV)}{ks:ve (Str×V)}(r:q1e fs ks)(f:Str){v:V}(rv:y_ p v):q1e (mT f p fs) (nH f v ks):=by
 unfold RKv at r⊢
 induction r with
 |nil=>exact .cons ⟨rfl,rv⟩ .nil
 | @cons a b as bs h t ih=>
  let⟨a1,a2⟩:=a;let⟨b1,b2⟩:=b;let e:a1=b1:=h.1;subst e;unfold mT nH;by_cases z:a1=f
  ·rw[if_pos z,if_pos z];show .cons ⟨rfl,rv⟩ t
  ·rw[if_neg z,if_neg z];show .cons h ih
theorem sR{fs:ve (Str×PV)}{ks:ve (Str×V)}(r:q1e fs ks)(f:Str):(fs.lookup f=b_/\ks.lookup f=b_)\/∃p v,fs.lookup f=a_ p/\ks.lookup f=a_ v/\y_ p v:=by
 unfold RKv at r
 induction r with
 |nil=>exact .inl ⟨rfl,rfl⟩
 | @cons a b as bs h t ih=>
  let⟨a1,a2⟩:=a;let⟨b1,b2⟩:=b;let e:a1=b1:=h.1;subst e;simp only[Yx];cases z:(f == a1) with
  |true=>exact .inr ⟨a2,b2,rfl,rfl,h.2⟩
  |false=>exact ih
theorem uR{x:PV}{v:V}{c:Str}{fs:ve (Str×PV)}(rh:H_ h)(rv:y_ x v)(e:pT x h=a_ (n,c,fs)):
  ∃a ca dx ks,x=.ref n/\v=.ref a/\φ[n]?=a_ a/\h[n]?=a_ (.ins c fs)/\C.cl c=a_ ca/\H a=a_ (.ins ca dx ks)/\q1e fs ks:=by
 unfold pT at e;cases x with
 |ref m=>
  let⟨a,rfl,ha⟩:=rv;dsimp only at e;split at e
  ·rename_i c' ym q;cases e
   let⟨ca,dx,ks,h1,h2,h3⟩:=rh.at' _ a _ ha q;show⟨a,ca,dx,ks,rfl,rfl,ha,q,h1,h2,h3⟩
  ·cases e
 |_=>cases e
def mE(C:MC)(f:Str):Prop:=∀c a,C.cl c=a_ a->Cls C.K a/\qA C.K a f
variable{mv:Me}{value:t_}
section
variable{o:t_}{f:Str}{m:Me}{o8:Pos}
theorem lM{k:Nat}(hF:mE C f)(he:G_ e m)(hb:y1I e f X.env (q0j 0)=q0j 0:=by rfl):G_ (.Attribute e f pos) (mUn (fH f) m):=λc=>
 (Qw (he c) hb).imp λσ H Q h=>by
  let⟨φ,δ,h,rh,re,p⟩:=h;refine⟨φ,δ,h,rh,re,(post.bind p).imp ?_⟩;rintro v H1 ⟨φ1,x,h1,p1,t1,ab,ae,q1⟩;unfold fH at q1;cases ei:pT x h1 with
  |none=>rw[ei]at q1;show q1.elim
  |some z=>
   let⟨n,cn,fs⟩:=z;rw[ei]at q1;dsimp only at q1;let⟨a,ca,dx,ks,rfl,rfl,ha,hh,hc,hH,rk⟩:=uR ab ae ei;let⟨cl,na⟩:=hF cn ca hc;rcases sR rk f with⟨l1,_⟩|⟨y,u,l1,l2,ru⟩
   ·rw[l1]at q1;show q1.elim
   ·rw[l1]at q1;show⟨a,ca,dx,ks,u,rfl,hH,by rw[c.K];show cl,by rw[c.K];show na,l2,q1.val ab ru⟩
def Ar(f:Str)(mo mv:Me):Ms:=λδ h=>(mv δ h).fl λy h1=>(mo δ h1).fl λx h2=>match xZ f x y h2 with
 |some h3=>.nx δ h3
 |none=>.bad
theorem Om{k:Nat}{h3:PH}{x:PV}{v u:V}{D:Ends}{σ:St}(c:q0n X)(hF:mE C f)(rh:H_ h)(re:q0v 0)(rx:y_ x v)(ry:y_ y u)(es:xZ f x y h=a_ h3)(q:dM C φ H (.nx δ h3) D):
  ∃a ca dx ks,v=.ref a/\H a=a_ (.ins ca dx ks)/\Cls X.K ca/\qA X.K ca f/\ks.length<1000/\D.nx σ (q0r a (.ins ca dx (nH f u ks)))/\∃n cn fs,pT x h=a_ (n,cn,fs)/\C.cl cn=a_ ca:=by
 unfold xZ at es;cases ei:pT x h with
 |none=>rw[ei]at es;cases es
 |some z=>
  let⟨n,cn,fs⟩:=z;rw[ei]at es;dsimp only at es;split at es
  ·rename_i hl;cases es
   let⟨a,ca,dx,ks,rfl,rfl,ha,hh,hc,hH,rk⟩:=uR rh rx ei;let⟨cl,na⟩:=hF cn ca hc;let kp:Kp H (q0r a (.ins ca dx (nH f u ks))):=Kp.upd (by rw[hH];trivial);refine⟨a,ca,dx,ks,rfl,hH,by rw[c.K];show cl,by rw[c.K];show na,by rw[<-YV rk];show hl,?_⟩;refine⟨q φ σ _ X0 kp (rh.write ha (by rw[hH];trivial) ⟨ca,dx,_,hc,bH,?_⟩) (re.mono X0 kp),n,cn,fs,rfl,hc⟩;show(Lj rk f ry).mono X0 kp
  ·cases es
theorem Hs{k:Nat}(hF:mE C f)(hv:G_ value mv)(ho:G_ o mo)(hs:swapsWith value (a_ (.Attribute o f pos')) pos.line X.env=pure false:=by rfl):SSt C k X (.Assign [.Attribute o f pos'] value pos) (Ar f mo mv):=λc=>
 (Qx (ho c) (hv c) hs).imp λD σ H h=>by
  let⟨φ,δ,h,rh,re,p⟩:=h;refine⟨φ,δ,h,rh,re,(post.fl p).imp ?_⟩;rintro u H1 ⟨φ1,y,h1,p1,t1,ab,ae,q1⟩;refine⟨φ1,δ,h1,ab,q0h 0,(post.fl q1).imp ?_⟩;rintro v H2 ⟨φ2,x,h2,p2,t2,ar,b8,q2⟩;cases es:xZ f x y h2 with
  |none=>rw[es]at q2;show q2.elim
  |some h3=>rw[es]at q2;let⟨a,ca,dx,ks,g1,g2,g3,g4,g5,g6,_⟩:=Om c hF ar ((q0h 0).mono p2 t2) b8 (ae.mono p2 t2) es q2;show⟨a,ca,dx,ks,g1,g2,g3,g4,g5,g6⟩
end
def Lk(C:MC)(X:Cx)(k:Nat)(m:Str)(n:Nat)(tb:Str->v_ Fn):Prop:=∀c a f,C.cl c=a_ a->tb c=a_ f->
 ∃g fd ps j,Cls C.K a/\Cc C.K a m g/\j<=k/\q0d g fd ps (spM C (n+1) f)/\Binds C.K fd ps []
theorem eN{k:Nat}{m:Str}:Lk C X k m n (λ_=>b_):=λ_ _ _ _ h=>nomatch h
variable{tb:Str->v_ Fn}
theorem dB{k:Nat}{m c:Str}{g:o_}{f:Fn}(hc:C.cl c=a_ a)(hC:Cls C.K a)(me:Cc C.K a m g)(hj:j<=k)(G:q0d g fd ps (spM C (n+1) f))(B:Binds C.K fd ps [])(r:Lk C X k m n tb):
  Lk C X k m n (λz=>if z=c then a_ f else tb z):=λc' a' f' h1 h2=>by
 let cy:(if c'=c then a_ f else tb c')=a_ f':=h2;by_cases e:c'=c
 ·subst e;rw[hc]at h1;cases h1
  rw[q0s 0]at cy;cases cy
  show⟨g,fd,ps,j,hC,me,hj,G,B⟩
 ·rw[if_neg e]at cy;show r c' a' f' h1 cy
def bM(m:Str)(n:Nat)(tb:Str->v_ Fn)(mo:Me)(ms:Ma):Me:=λδ h=>(mo δ h).bind λx h1=>match pT x h1 with
 |some (_,c,fs)=>match tb c,fs.lookup m with
  |some f,b_=>(ms δ h1).bind λps h2=>if ps.length=n then f (x::ps) h2 else .bad
  |_,_=>.bad
 |none=>.bad
theorem oT{k:Nat}{o:t_}{m:Str}{pl:Sem Bool}(hM:Lk C X k m n tb)(ho:G_ o mo)(ha:SA C k X (e::es) ms)(b9:Yr (e::es) X.env=(false,q0j 0)::q0i 0:=by rfl)(bz:(q0Q (q0i 0)).any (·.1)=false:=by rfl)(ht:eval (.Call (.Attribute o m apos) (e::es) [] pos) X.env=(do
   let ov <-eval o X.env
   standAt apos.atName
   let (f,first) <-holding [ov] (getMethod ov m pl)
   callWith pos f first (q0Q (Yr (e::es) X.env)) (backToKw pos (keywordEach [] X.env))):=by rfl):
  G_ (.Call (.Attribute o m apos) (e::es) [] pos) (bM m n tb mo ms):=λc FR s σ H Q I h=>by
 let⟨φ,δ,h,rh,re,p⟩:=h
 refine PySem.W.methodCall_KW (pl:=pl) (thn (ho c FR s σ H _ I ⟨φ,δ,h,rh,re,post.bind p⟩) λu s1 hh=>?_) ht
 let⟨v,H1,I1,ru,φ1,x,h1,p1,t1,ab,ae,q1⟩:=hh
 cases ei:pT x h1 with
 |none=>rw[ei]at q1;exact q1.elim
 |some z=>
  let⟨n',cn,fs⟩:=z
  rw[ei]at q1
  dsimp only at q1
  let⟨a,ca,dx,ks,rfl,rfl,hφ,hh,hc,hH,rk⟩:=uR ab ae ei
  cases et:tb cn with
  |none=>rw[et]at q1;exact q1.elim
  |some f=>
   rw[et]at q1
   rcases sR rk m with⟨l1,l2⟩|⟨y,u',l1,_⟩
   ·rw[l1]at q1
    dsimp only at q1
    let⟨g,fd,ps,j,cl,me,hj,F,bd⟩:=hM cn ca f hc et
    have wb:Cls X.K ca:=by rw[c.K];exact cl
    have o9:Cc X.K ca m g:=by rw[c.K];exact me
    have F':T_ CX0 j g fd ps (spM C (n+1) f):=by rw[c.K];exact F
    have oq:Binds X.K fd ps []:=by rw[c.K];exact bd
    cases ru
    refine zP I1 hH wb o9 l2 ?_
    refine PySem.W.callWith_K (first:=[.ref a]) (h₀:=X.base) I.ok.mod.kin o9.kp (thn (ha c pos FR s1 σ H1 _ I1 ⟨φ1,δ,h1,ab,q0h 0,postA.bind q1⟩) λus s2 h2=>?_) b9 bz
    let⟨vs,H2,I2,r2,φ2,zs,h3,p2,t2,ar,b8,q2⟩:=h2
    let⟨hl,q2⟩:=q2.ite
    refine⟨I2.kIn,?_⟩
    exact FH (us:=.ref a::us) (vs:=.ref a::vs) F' (c.room.mono hj) oq .nil GZ I2 (.cons rfl r2) ⟨φ2,h3,.ref n'::zs,ar,⟨⟨a,rfl,kF p2 hφ⟩,(by show RVs C φ2 H2 zs (vs++[]);rw[YY];exact b8)⟩,by simp[hl],q2⟩
   ·rw[l1]at q1;exact q1.elim
theorem kK{k:Nat}{o:t_}{m:Str}{pl:Sem Bool}(hM:Lk C X k m 0 tb)(ho:G_ o mo)(ht:eval (.Call (.Attribute o m apos) [] [] pos) X.env=(do
   let ov <-eval o X.env
   standAt apos.atName
   let (f,first) <-holding [ov] (getMethod ov m pl)
   callWith pos f first (q0Q (Yr [] X.env)) (backToKw pos (keywordEach [] X.env))):=by rfl):
  G_ (.Call (.Attribute o m apos) [] [] pos) (bM m 0 tb mo aE):=λc FR s σ H Q I h=>by
 let⟨φ,δ,h,rh,re,p⟩:=h
 refine PySem.W.methodCall_KW (pl:=pl) (thn (ho c FR s σ H _ I ⟨φ,δ,h,rh,re,post.bind p⟩) λu s1 hh=>?_) ht
 let⟨v,H1,I1,ru,φ1,x,h1,p1,t1,ab,ae,q1⟩:=hh
 cases ei:pT x h1 with
 |none=>rw[ei]at q1;exact q1.elim
 |some z=>
  let⟨n',cn,fs⟩:=z
  rw[ei]at q1
  dsimp only at q1
  let⟨a,ca,dx,ks,rfl,rfl,hφ,hh,hc,hH,rk⟩:=uR ab ae ei
  cases et:tb cn with
  |none=>rw[et]at q1;exact q1.elim
  |some f=>
   rw[et]at q1
   rcases sR rk m with⟨l1,l2⟩|⟨y,u',l1,_⟩
   ·rw[l1]at q1
    dsimp only at q1
    let⟨g,fd,ps,j,cl,me,hj,F,bd⟩:=hM cn ca f hc et
    have wb:Cls X.K ca:=by rw[c.K];exact cl
    have o9:Cc X.K ca m g:=by rw[c.K];exact me
    have F':T_ CX0 j g fd ps (spM C (0+1) f):=by rw[c.K];exact F
    have oq:Binds X.K fd ps []:=by rw[c.K];exact bd
    cases ru
    refine zP I1 hH wb o9 l2 ?_
    have q2:post C φ1 H1 (f [.ref n'] h1) Q:=q1
    exact PySem.W.callWith_K0 (first:=[.ref a]) I1.kIn o9.kp (FH (us:=[.ref a]) (vs:=[.ref a]) F' (c.room.mono hj) oq .nil GZ I1 (.cons rfl .nil) ⟨φ1,h1,[.ref n'],ab,⟨⟨a,rfl,hφ⟩,trivial⟩,rfl,q2⟩)
   ·rw[l1]at q1;exact q1.elim
def qK(cn:Str)(n:Nat)(f:Fn)(ms:Ma):Me:=λδ h=>(ms δ h).bind λps h1=>if ps.length=n then(f (.ref h1.length::ps) (h1++[.ins cn []])).bind λv h2=>(match v with
 |.non=>.ok (.ref h1.length) h2
 |_=>.bad) else .bad
variable{ca:o_}{cn:Str}{fn:Fn}{zs:ve PV}
theorem On{vs:ve V}{Q:VK}(hc:C.cl cn=a_ ca)(rh:H_ h)(rv:C_ zs vs)(q:Q_ (if zs.length=n then(fn (.ref h.length::zs) (h++[.ins cn []])).bind λv h2=>(match v with|.non=>Rs.ok (.ref h.length) h2|_=>.bad) else .bad) Q):
  ∀y dx,H y=b_->H dx=b_->dx≠y->spM C (n+1) fn (.ref y::(vs++[])) (upd (q0r dx (.own y)) y (.ins ca dx [])) (λv H2=>v=.non/\Q (.ref y) H2) E0:=λy dx hy hd ne=>by
 let⟨hl,q⟩:=q.ite;let d0:(q0r dx (.own y)) y=b_:=by rw[aS (ZK ne)];show hy
 let k1:Kp H (q0r dx (.own y)):=Kp.new hd;let k2:Kp (q0r dx (.own y)) (upd (q0r dx (.own y)) y (.ins ca dx [])):=Kp.new d0;let ar:RH C (φ++[y]) (upd (q0r dx (.own y)) y (.ins ca dx [])) (h++[.ins cn []]):=(rh.aside hd).new d0 ⟨ca,dx,[],hc,bH,.nil⟩;let z0:RV C (φ++[y]) (upd (q0r dx (.own y)) y (.ins ca dx [])) (.ref h.length) (.ref y):=⟨y,rfl,by rw[<-rh.len];simp⟩;refine⟨φ++[y],h++[.ins cn []],.ref h.length::zs,ar,⟨z0,by rw[YY];show rv.mono (Zu _ _) (k1.trans k2)⟩,by simp[hl],?_⟩;refine(post.bind (post.weak (Zu _ [y]) (k1.trans k2) q)).imp ?_;rintro v H2 ⟨φ2,pv,h2,p2,t2,ft,rv3,q3⟩;cases pv with
 |non=>cases rv3;show⟨rfl,q3.val ft (z0.mono p2 t2)⟩
 |_=>exact q3.elim
theorem CK{k:Nat}{f:o_}{p:Pos}(hc:C.cl cn=a_ ca)(M:Mk C.K ca f)(F:q0d f fd ps (spM C (0+1) fn))(hm:X.mg x=cu ca)(bd:Binds C.K fd ps [])(hj:j+1<=k:=by decide)(hg:Gl X x:=by rfl)(c8:(x == ("__debug__" : Str))=false:=by decide):G_ (.Call (.Name x p) [] [] pos) (qK cn 0 fn aE):=λc=>by
 let M':Mk X.K ca f:=by rw[c.K];show M
 let F':T_ CX0 j f fd ps (spM C (0+1) fn):=by rw[c.K];show F
 let oq:Binds X.K fd ps []:=by rw[c.K];show bd
 refine(JX M' F' (c.room.mono hj) hg hm oq .nil GZ c8).imp λσ H Q h=>?_;let⟨φ,δ,h,rh,re,po⟩:=h;show On (zs:=[]) hc rh trivial po
def sF(x y v:PV)(h:PH):v_ PH:=match x,y with
 |.ref n,.int i=>match dU h n with
  |some xs=>match ixN xs.length i with
   |some j=>a_ (h.set n (.lst (xs.set j v)))
   |none=>b_
  |none=>Ge x y v h
 |_,_=>Ge x y v h
def BZ(mv mo mi:Me):Ms:=λδ h=>(mv δ h).fl λv h1=>(mo δ h1).fl λx h2=>(mi δ h2).fl λy h3=>match sF x y v h3 with
 |some h4=>.nx δ h4
 |none=>.bad
theorem Gk{k:Nat}{h':PH}{pv:PV}{x y v:V}(c:q0n X)(rh:H_ h)(rx:y_ px x)(ry:y_ py y)(rv:y_ pv v)(e:sF px py pv h=a_ h'){σ:St}{Q:g_ Unit}(I:P_ s)(k7:q1f xu)(dz:RelV y yu)(jz:RelV v vu)(q:∀s' H',f_ H' s'->Kp H H'->RH C φ H' h'->Q () s'):wpAny (fI X) X.A (setItem xu yu vu) Q X.xe s:=by
 unfold sF at e;split at e
 ·rename_i n i;split at e
  ·rename_i xs el;split at e
   ·rename_i j ej;cases e
    let⟨a,rfl,ha⟩:=rx;cases ry
    let⟨ws,hH,cf⟩:=q0l (kU el);refine thn (set_list FR s σ H (.ref a) (.int i) v xu yu vu (λH'=>H'=q0r a (.lst (ws.set j v))) I k7 dz jz ⟨a,ws,i,j,rfl,rfl,hH,by rw[<-cf.length];show ej,rfl⟩) ?_;rintro _ s' ⟨H',I',rfl⟩;refine q s' _ I' (Kp.lst hH) (rh.write ha (by rw[hH];trivial) ⟨_,bH,(RVs.set rv j cf).mono X0 (Kp.lst hH)⟩)
   ·cases e
  ·show BV c rh rx ry rv e I k7 dz jz q
 ·show BV c rh rx ry rv e I k7 dz jz q
theorem Gm{k:Nat}{o i:t_}{mi:Me}(hv:G_ value mv)(ho:G_ o mo)(hi:G_ i mi)(hs:swapsWith value (a_ (.Subscript o i pos')) pos.line X.env=pure false:=by rfl):
  SSt C k X (.Assign [.Subscript o i pos'] value pos) (BZ mv mo mi):=λc FR s σ H D I ⟨φ,δ,h,rh,re,p⟩=>by
 refine wpAny_Assign_Subscript (thn (hv c FR s σ H _ I ⟨φ,δ,h,rh,re,post.fl p⟩) ?_) hs;rintro vu s1 ⟨v,H1,I1,jz,φ1,pv,h1,p1,t1,ab,ae,q1⟩;refine thn (ho c FR s1 σ H1 _ I1 ⟨φ1,δ,h1,ab,q0h 0,post.fl q1⟩) ?_;rintro xu s2 ⟨x,H2,I2,k7,φ2,px,h2,p2,t2,ar,b8,q2⟩;refine thn (hi c FR s2 σ H2 _ I2 ⟨φ2,δ,h2,ar,(q0h 0).mono p2 t2,post.fl q2⟩) ?_;rintro yu s3 ⟨y,H3,I3,dz,φ3,py,h3,p3,t3,ft,rv3,q3⟩;cases e:sF px py pv h3 with
 |none=>rw[e]at q3;show q3.elim
 |some h4=>rw[e]at q3;show Gk c ft (b8.mono p3 t3) rv3 ((ae.mono p2 t2).mono p3 t3) e I3 k7 dz jz λs' H' I' kp dk=>⟨σ,H',I',q3 φ3 σ H' X0 kp dk ((((q0h 0).mono p2 t2).mono p3 t3).mono X0 kp)⟩
theorem As{c:Str}{fs:ve (Str×PV)}(e:h[n]?=a_ (.ins c fs)):pT (.ref n) h=a_ (n,c,fs):=by simp[pT,e]
theorem rK{c f:Str}{fs:ve (Str×PV)}(e:h[n]?=a_ (.ins c fs))(l:fs.lookup f=a_ p):fH f (.ref n) h=.ok p h:=by simp[fH,As e,l]
theorem uS{c f:Str}{fs:ve (Str×PV)}(e:h[n]?=a_ (.ins c fs))(l:fs.length<1000):xZ f (.ref n) p h=a_ (h.set n (.ins c (mT f p fs))):=by simp[xZ,As e,l]
@[simp]theorem Ll{E:FE}{f:Str}:(Ar f mo mv δ h).W E=(mv δ h).W λy h1=>(mo δ h1).W λx h2=>∃h3,xZ f x y h2=a_ h3/\E.nx δ h3:=by
 unfold Ar;rw[J1];congr 1;funext y h1;rw[J1];congr 1;funext x h2;cases e:xZ f x y h2 <;> simp
@[simp]theorem Au{f:Fn}:qK cn n f ms δ h=(ms δ h).bind λps h1=>if ps.length=n then(f (.ref h1.length::ps) (h1++[.ins cn []])).bind λv h2=>(match v with|.non=>.ok (.ref h1.length) h2|_=>.bad) else .bad:=(rfl)
variable{mm:Str}
theorem iE{k:Nat}{c:Str}{fs:ve (Str×PV)}{f:Fn}(e:mo δ h=.ok (.ref k) h1)(g:h1[k]?=a_ (.ins c fs))(t:tb c=a_ f)(l:fs.lookup mm=b_):
  bM mm n tb mo ms δ h=(ms δ h1).bind λps h2=>if ps.length=n then f (.ref k::ps) h2 else .bad:=by
 unfold bM;rw[e,Rs.bind_ok,As g];simp only[t,l]
@[simp]theorem Vz{E:FE}{mi:Me}:(BZ mv mo mi δ h).W E=(mv δ h).W λv h1=>(mo δ h1).W λx h2=>(mi δ h2).W λy h3=>∃h4,sF x y v h3=a_ h4/\E.nx δ h4:=by
 unfold BZ;rw[J1];congr 1;funext v h1;rw[J1];congr 1;funext x h2;rw[J1];congr 1;funext y h3;cases e:sF x y v h3 <;> simp
def TY:ve Int->Int
 |[]=>0
 |[x]=>x
 |x::y::r=>max x (TY (y::r))
def VO:ve PV->PH->Rs PV:=λxs h=>match xs with
 |[.ref n]=>match aV h n with
  |some ys=>match PN ys with
   |some (a::ns)=>.ok (.int (TY (a::ns))) h
   |_=>.bad
  |none=>.bad
 |_=>Vk xs h
def Ez:ve PV->PH->Rs PV:=λxs h=>match xs with
 |[.ref n]=>match bJ h n with
  |some kvs=>.ok (.int kvs.length) h
  |none=>dN xs h
 |_=>dN xs h
section
variable{d:o_}{es:Array y0o}
theorem Bb(hd:(d == Zf)=false):MeetsIn prog w (Builtin.«dict.__len__» ⟨[.ref d],[]⟩) (λ_ R s=>∃oc es ep,s.heap.get? d=a_ oc/\oc.data=.dict es ep/\R (.ok (.ret (.int es.size s.toks))) { s with toks:=s.toks+1}):=
 .of_wp λA R s ⟨oc,es,ep,ho,k5,h⟩=>by
  change z_ (dictSize d >>= _) _ _ s
  unfold dictSize;refine XJ (XJ (Zp ho k5 (XM ?_)))
  change z_ (Builtin.Dict.pendingCount d >>= _) _ _ s
  refine XJ (wpAny_pendingCount_other hd (wpAny_ret_mkInt ?_));rw[y14];show h
theorem Oo(hd:(d == Zf)=false)(hT:s.TypeIs (.ref d) "dict")(ho:s.heap.get? d=a_ oc)(k5:oc.data=.dict es ep)(nc:(es.size:Int)<2 ^ 63)(h:Q (.int es.size (s.toks+1)) { s with toks:=s.toks+1+1}):x_ (call (.builtin "len") [.ref d]) Q E s:=by
 refine Calls.call_function_entry kind_len plain_len entry_len (args_len1 _) ?_;unfold Builtin.«len»;refine XJ (m:=oneArg "len" _) (XM ?_);refine XJ (m:=callSpecial? (.ref d) (Zj "__len__")) (YT (name:=Zj "__len__") hT F.slot_dict_len
  (call_meetsIn F.slot_dict_len hT F.entry_dict_len (F.args_dict_len_1 _) (Bb hd) ⟨oc,es,ep,ho,k5,?_⟩))
 change z_ _ _ _ { s with toks:=s.toks+1}
 refine XJ (YZ (XM (XJ (wpAny_letGo ?_))))
 change z_ (if((es.size:Nat):Int)<0 then _ else _) _ _ _
 rw[if_neg ⋯]
 change z_ (if((es.size:Nat):Int) >= 2 ^ 63 then _ else _) _ _ _
 rw[if_neg ⋯];show XJ (wpAny_mkInt (XM ⟨_,rfl,h⟩))
end
theorem Ja{k:Nat}(c:q0n X):dJ X (.builtin "len") (λxs H Q=>∃(φ:ve o_)(h:PH)(n:Nat)(a:o_)(kvs:ve (PV×PV)),xs=[.ref a]/\H_ h/\φ[n]?=a_ a/\bJ h n=a_ kvs/\Q (.int kvs.length) H):=by
 intro FR s σ H xs us Q I r h;let⟨φ,h,n,a,kvs,rfl,rh,ha,et,q⟩:=h;let⟨u,rfl,ru⟩:=vals1 r;cases ru
 let⟨hT,hm,hz,oc,es,ep,g1,g2,ws,r1,r2⟩:=Lb c I rh ha (J' et);let e1:=r1.length;rw[XR]at e1 hz;let e2:ws.length=es.size:=by have:=r2.length;simpa using this
 refine Oo hm hT g1 g2 (by rw[YL]at hz;omega) ?_;let e3:(es.size:Int)=(kvs.length:Int):=⋯;rw[e3];show⟨.int kvs.length,H,(I.tok _).tok _,⟨_,rfl⟩,q⟩
theorem Rw{k:Nat}:uE C k X (.builtin "len") Ez:=λc=>dJ.imp (dJ.or (kZ c) (Ja c)) λvs H Q h=>by
 let⟨φ,h,ps,rh,rv,po⟩:=h;unfold Ez at po;split at po
 ·rename_i n;split at po
  ·rename_i kvs e;let⟨v,rfl,rx⟩:=rv.one;let⟨p,rfl,hp⟩:=rx;show .inr ⟨φ,h,n,p,kvs,rfl,rh,hp,e,M_ rfl⟩
  ·show .inl ⟨φ,h,_,rh,rv,po⟩
 ·show .inl ⟨φ,h,_,rh,rv,po⟩
theorem Oq(e:bJ h n=a_ kvs):Ez [.ref n] h=.ok (.int kvs.length) h:=by simp[Ez,e]
section
variable{v:o_}{es:Array y0o}
theorem Jb(hT:s.TypeIs (.ref dc) "dict")(hd:(dc == Zf)=false)(h1:s.heap.get? dc=a_ oc)(h2:oc.data=.dict es ep)(q:Q (.ref (c_ s)) {s with heap:=s.heap.push {cls:=.type "dict_keyiterator",data:=.fields #[.ref dc,.int 0 0,.int es.size 0,.int ep 0]} }):x_ (pyIter (.ref dc)) Q E s:=by
 refine wpAny_pyIter_slot hT F.slot_dict_iter (Y1 F.slot_dict_iter hT F.entry_dict_iter ?_ (F.args_dict_iter_1 _));unfold Builtin.«dict.__iter__»;refine XJ ?_;unfold Builtin.Dict.dictSlotNone;refine XJ (y0T hT ?_)
 change z_ (pure (YH dc)) _ _ s
 refine XM ?_
 change z_ (y1B dc >>= _) _ _ s
 unfold y1B;rw[if_neg (by rw[hd];show Yg)];refine XJ (XM ?_);refine XJ (Zp h1 h2 ?_);refine XJ (y1A h1 h2 ?_);refine XJ (YJ (XM ⟨_,rfl,"dict_keyiterator",_,⟨_,q0O 0,rfl⟩,ZS.lookup,?_⟩));simpa[rawInt] using q
theorem Lm{Q:v_ n_->oa->Prop}(hI:s.heap.IsKeyIter it dc i es.size ep)(h1:s.heap.get? dc=a_ oc)(h2:oc.data=.dict es ep)(ao:i<es.size)(q:∀h',h'.IsKeyIter it dc (i+1) es.size ep->Zv it s.heap h'->Q (a_ es[i].key) {s with heap:=h'}):x_ (pyNext (.ref it)) Q E s:=by
 let⟨oi,g1,g2,g3⟩:=id hI;unfold pyNext;refine XJ (y0t (YT (name:=Zj "__next__") hI.typeIs ZS (Y1 ZS hI.typeIs F.entry_dict_keyiterator_next ?_ (F.args_dict_keyiterator_next_1 _))));refine XJ (XM (XJ (XJ ?_)))
 first|refine XJ (y0n hI.typeIs (XM ?_))|refine XJ (y08 hI.typeIs (XM ?_))
 refine XJ (y1V g1 g3 ?_);rw[show ZR "dict_keyiterator" = false by decide];simp only[YG,if_false]
 change z_ (if(YH dc == Yn)=true then _ else _) _ _ s
 rw[if_neg (show ¬ ((YH dc == Yn)=true) from Yg)]
 refine XJ (XM (XJ (Zp h1 h2 ?_)));rw[if_neg (show ¬ _ by simp)];refine XJ (XM (XJ (y1A h1 h2 ?_)));rw[if_neg (show ¬ _ by simp)];refine XM ?_;simp only[show ¬ ((i:Int)<0) by omega,if_false,Z4,YX ao];refine XJ ?_
 first|refine XJ (y0n hI.typeIs (XM ?_))|refine XJ (y08 hI.typeIs (XM ?_))
 refine XJ (wpAny_isOneOf_keyiter hI.typeIs (show z_ (setField (.ref it) 1 (rawInt ((i:Int)+1)) >>= _) _ _ s from XJ (y1U g1 g3 (by simp) ?_)))
 let lq:(s.heap.update it (y0V (·.setIfInBounds 1 (rawInt ((i:Int)+1))))).IsKeyIter it dc (i+1) es.size ep:=⟨_,YR _ g1 (y1C (y1r g3 _)),(Obj.cls_mapFields ..).trans g2,by rw[y1r g3];simp[rawInt]⟩;let qu:({s with heap:=s.heap.update it (y0V (·.setIfInBounds 1 (rawInt ((i:Int)+1))))}:oa).TypeIs (.ref it) "dict_keyiterator" := lq.typeIs;refine XJ (YZ (XJ (wpAny_isOneOf_keyiter qu ?_)))
 change z_ (pure es[i].key) _ _ _
 show XM (XM ⟨_,rfl,XM (q _ lq (YB ..))⟩)
theorem Ln{Q:v_ n_->oa->Prop}(hh:A.handled=b_)(hI:s.heap.IsKeyIter it dc i es.size ep)(h1:s.heap.get? dc=a_ oc)(h2:oc.data=.dict es ep)(mq:es.size<=i)(q:∀h',Heap.ExtBut it s.heap h'->Q b_ {s with heap:=h'}):x_ (pyNext (.ref it)) Q E s:=by
 let⟨oi,g1,g2,g3⟩:=id hI;unfold pyNext;refine XJ (y0t (YT (name:=Zj "__next__") hI.typeIs ZS (Y1 ZS hI.typeIs F.entry_dict_keyiterator_next ?_ (F.args_dict_keyiterator_next_1 _))));refine XJ (XM (XJ (XJ ?_)))
 first|refine XJ (y0n hI.typeIs (XM ?_))|refine XJ (y08 hI.typeIs (XM ?_))
 refine XJ (y1V g1 g3 ?_);rw[show ZR "dict_keyiterator" = false by decide];simp only[YG,if_false]
 change z_ (if(YH dc == Yn)=true then _ else _) _ _ s
 rw[if_neg (show ¬ ((YH dc == Yn)=true) from Yg)]
 refine XJ (XM (XJ (Zp h1 h2 ?_)));rw[if_neg (show ¬ _ by simp)];refine XJ (XM (XJ (y1A h1 h2 ?_)));rw[if_neg (show ¬ _ by simp)];refine XM ?_;simp only[show ¬ ((i:Int)<0) by omega,if_false,Z4,Ze mq];refine XJ ?_
 first|refine XJ (y0n hI.typeIs (XM ?_))|refine XJ (y08 hI.typeIs (XM ?_))
 refine(show z_ (setField (.ref it) 0 .none >>= _) _ _ s from XJ (y1U g1 g3 (by simp) ?_))
 refine(show z_ (newExc (.type "StopIteration") [] >>= _) _ _ _ from XJ ?_);simp only[newExc,newTuple]
 refine XJ (YJ (XJ (m:=y1W _ _) (y0Z (a:=Yn) (by first|rfl|(simp only[y1W];rfl)) (YJ ?_ (by size_fits)))) (by size_fits))
 simp only[raiseNew];refine XJ (wpAny_handled ?_);rw[show A.in1.handled=b_ from hh]
 refine XJ (XM (wpAny_throw ?_));refine XJ (ZY (T:="StopIteration") (b:=true) ⟨_,q0O 0,rfl⟩ isSubtype_stop ?_);show XM (q _ (((YB ..).extBut.push _).push _))
theorem Gn(hh:A.handled=b_)(I dc:o_)(fq:dc≠I)(oc:Obj)(es:Array y0o)(ep:Nat)(h2:oc.data=.dict es ep):
  Walks prog w A I [I,dc] [I] es.size (λi v=>∃e,es[i]?=a_ e/\v=e.key) (λi h=>h.IsKeyIter I dc i es.size ep/\h.get? dc=a_ oc) where
 sub:=λb hb=>by rw[YC.mp hb];show XY
 frame:=λ_ _ _ st hk=>⟨let ⟨o,e,r⟩:=st.1;⟨o,hk I XY o e,r⟩,hk dc (XW _ XY) _ st.2⟩
 item:=λi s Q E hi st hQ=>Lm st.1 st.2 h2 hi λh' vq fo=>hQ _ h' s.toks ⟨es[i],by simp[hi],rfl⟩ ⟨vq,(fo.2 dc fq).trans st.2⟩ λb o hb e=>(fo.2 b λz=>hb (by rw[z];show XY)).trans e
 done:=λs Q E st hQ=>Ln hh st.1 st.2 h2 (X1 _) λh' lh=>hQ h' s.toks λb o hb e=>lh b o (λz=>hb (by rw[z];show XY)) e
 self:=λ_ _ _ _ st hQ=>wpAny_pyIter_keyiter st.1 hQ
theorem Lo(hc:oc.cls=.type "dict")(hd:(dc == Zf)=false)(h2:oc.data=.dict es ep):PySem.W.KdlSrc prog w "dict" dc dc es.size (λi v=>∃e,es[i]?=a_ e/\v=e.key) (λh=>h.get? dc=a_ oc) where
 type:=λ_ hm=>⟨oc,hm,hc⟩
 there:=λ_ hm=>⟨XZ hm,XZ hm⟩
 keep:=λ_ _ hm hk=>hk dc (.inl rfl) _ hm
 notList:=by decide
 notTuple:=by decide
 hint:=λ_ _ _ _ hm hq=>PySem.W.kdl_hint_dict ⟨oc,hm,hc⟩ hq
 iter:=λ_ _ hh hm=>⟨_,_,(λ_ _ hq=>Jb ⟨oc,hm,hc⟩ hd hm h2 hq),Gn hh _ dc (Yj (XZ hm)) oc es ep h2,⟨⟨_,q0O 0,rfl,rfl⟩,XO _ hm⟩⟩
end
theorem Lp{k:Nat}{σ:St}{d:Nat}{b:o_}(c:q0n X)(I:P_ s)(rh:H_ h)(hb:φ[d]?=a_ b)(e:bJ h d=a_ kvs):
  (b == Zf)=false/\kvs.length<=X5/\∃oc es ep,I_ 0=a_ oc/\oc.cls=.type "dict" /\ oc.data=.dict es ep/\∃ws,C_ (kvs.map (·.1)) ws/\aW ws (es.toList.map (·.key)):=by
 let⟨⟨ks,ys,r,bx,hz,hm,dd⟩,_⟩:=uO I c.K c.w rh hb e;let hlen:kvs.length=ys.length:=(YV r).trans (YV bx);refine⟨hm,by rw[hlen];show hz,?_⟩;let⟨oc,es,ep,g1,g2,g3,g4,g5,g6⟩:=dd;refine⟨oc,es,ep,g1,g2.1,g3,ks.map (λq=>V.ref q.2.1),?_,?_⟩
 ·unfold RKd at r;clear bx hlen e
  induction r with
  |nil=>trivial
  |cons q t ih=>exact⟨q.2.2.1,ih⟩
 ·rw[g4,Y2];clear r hlen hz g4 g5 g6
  induction bx with
  |nil=>exact .nil
  | @cons p q ps qs h t ih=>exact .cons (show RelV (.ref p.2.1) (YH q.2.1) by rw[h.2.1];rfl) ih
variable{acc:q0p 0}
theorem Gp{es:Array y0o}(h:ItemsOf (λi v=>∃e,es[i]?=a_ e/\v=e.key) acc es.size):acc.toList=es.toList.map (·.key):=by
 apply Zi;intro i;rw[XT,y0R,y0R];by_cases hi:i<acc.size
 ·let e1:acc[i]?=a_ acc[i]:=by simp[hi]
  let⟨e,h1,h2⟩:=h.2 i _ e1;rw[e1,h1,h2];rfl
 ·let bf:¬ i<es.size:=by rw[<-h.1];show hi
  rw[Ze ⋯,Ze ⋯];rfl
theorem Gq{k:Nat}(c:q0n X):dJ X (.type "list") (λxs H Q=>∃(φ:ve o_)(h:PH)(d:Nat)(b:o_)(kvs:ve (PV×PV)),xs=[.ref b]/\H_ h/\φ[d]?=a_ b/\bJ h d=a_ kvs/\∀l ws,H l=b_->C_ (kvs.map (·.1)) ws->Q (.ref l) (q0r l (.lst ws))):=by
 intro FR s σ H xs us Q I r h;let⟨φ,h,d,b,kvs,rfl,rh,hb,ey,q⟩:=h;let⟨u,rfl,ru⟩:=vals1 r;cases ru
 let⟨hm,hz,oc,es,ep,g1,gc,g2,ws,r1,r2⟩:=Lp c I rh hb ey;let hn:es.size<=X5:=by
  let e1:=r1.length;let e2:ws.length=es.size:=by have:=r2.length;simpa using this
  rw[XR]at e1;rw[<-e2,<-e1];show hz
 refine PySem.W.kdl_call (Lo gc hm g2) (I.ok.hd c.calm) g1 hn λh' tk av c' hk hS ah=>?_;let ea:=Gp ah;refine⟨.ref (c_ s),_,I.laid (t':=tk) (o:=.lst ws) hk (X1 _) ⟨?_,av.toList,c',by rw[ea];show r2,by rw[Array.toArray_toList];show hS⟩,rfl,q _ ws I.fresh r1⟩;rw[<-r1.length,XR];show hz
section
variable{k:Nat}
def yA:ve PV->v_ (ve Str)
 |[]=>a_ []
 |.str x::r=>(yA r).map (x::·)
 |_::_=>b_
def jnd(sep:Str):ve Str->Str
 |[p]=>p
 |l=>Builtin.Str.glued sep l
def TZ(sep:Str)(l:ve Str):Nat:=l.toArray.foldl (·+·.length+sep.length) 0
def Lq(x:PV)(_:PH):Bool:=match x with
 |.str _=>true
 |_=>false
def yB:PV->ve PV->PH->Rs PV:=λx ps h=>match x,ps with
 |.str sep,[.ref n]=>match dU h n with
  |some ys=>match yA ys with
   |some zs=>if TZ sep zs<=X5/\(jnd sep zs).length<=X5 then .ok (.str (jnd sep zs)) h else .bad
   |none=>.bad
  |none=>.bad
 |_,_=>.bad
theorem C0{φ:ve o_}{H:Hp}:∀{ys:ve PV}{zs:ve Str}{vs:ve V}{us:ve n_},yA ys=a_ zs->C_ ys vs->aW vs us->∃l:ve (Str×Tok),us=strValues l/\l.map (·.1)=zs
 |[],zs,[],us,e,_,ru=>by cases ru;cases e;show⟨[],rfl,rfl⟩
 |p::ys,zs,v::vs,us,e,r,ru=>by
  cases ru with
  | @cons _ u _ us' h t=>
   cases p with
   |str x=>
    unfold yA at e;cases e2:yA ys with
    |none=>rw[e2]at e;cases e
    |some zs'=>
     rw[e2]at e;cases e
     let⟨l,rfl,rfl⟩:=C0 e2 r.2 t;let e1:v=.str x:=r.1;subst e1;let⟨tk,rfl⟩:=h;show⟨(x,tk)::l,rfl,rfl⟩
   |_=>cases e
 |[],_,_::_,_,_,r,_=>r.elim
 |_::_,_,[],_,_,r,_=>r.elim
theorem Os(c:q0n X):MtR X "str.join" (rM C yB):=λFR s σ H x xs v us Q I rx rs h=>by
 let⟨φ,h,p,ps,rh,rp,kh,po⟩:=h;unfold yB at po;split at po
 ·rename_i sep n;split at po
  ·rename_i ys hl;split at po
   ·rename_i zs hz;split at po
    ·rename_i hlen;let e1:x=.str sep:=rp;subst e1;let⟨tk,rfl⟩:=rx;let⟨v1,rfl,ae⟩:=kh.one;let⟨a,rfl,ha⟩:=ae;let⟨u,rfl,ru⟩:=vals1 rs;cases ru
     let hk:h[n]?=a_ (.lst ys):=by
      unfold dU at hl;split at hl
      ·rename_i q;cases hl;show q
      ·cases hl
     let⟨vs,hH,gq⟩:=q0l hk;let⟨_,its,m,ua,_,hx⟩:=I.lstM hH;let⟨l,rfl,el⟩:=C0 hz gq ua;let hq:Q (.str (jnd sep zs)) H:=M_ rfl;let WI:Builtin.Str.tooLong ((l.map (·.1)).toArray.foldl (·+·.length+sep.length) 0)=false:=by
      rw[el]
      change decide (TZ sep zs>X5)=false
      show decide_eq_false (by have:=hlen.1;omega)
     let W5:s.heap.IsList a (strValues l).toArray:=⟨_,hx,rfl,m,rfl⟩;refine call_meets PySem.F.slot_str_join (typeIs_str s sep tk) PySem.F.entry_str_join (PySem.F.args_str_join_2 _ _) (meets_str_join_list sep tk a l WI) ⟨W5,?_⟩;subst el;let cq:=hlen.2
     match l,hq,cq with
     |[],hq,cq=>exact⟨cq,.str _,H,I.tok _,⟨_,rfl⟩,hq⟩
     |[p],hq,cq=>exact⟨.str _,H,I,⟨_,rfl⟩,hq⟩
     |p::q::r,hq,cq=>exact⟨cq,.str _,H,I.tok _,⟨_,rfl⟩,hq⟩
    ·show po.elim
   ·show po.elim
  ·show po.elim
 ·show po.elim
theorem Rx:MtG C k X "str" Lq "str.join" yB:=λc=>⟨Os c,λFR s σ H φ h p x v I rh rv r e=>by
 cases p with
 |str z=>have e1:x=.str z:=rv;subst e1;let⟨t,rfl⟩:=r;show⟨typeIs_str s z t,λa e=>nomatch e⟩
 |_=>cases e⟩
end
theorem CL(e:bJ h n=a_ kvs)(hk:(PV.tup xs).ky 6=true)(hl:kvs.length<16777216):sF (.ref n) (.tup xs) z h=a_ (h.set n (.dD (kJ kvs (.tup xs) z))):=by
 change Ge (.ref n) (.tup xs) z h=_
 show Rt e hk hl
def U0:HO->Prop
 |.tup _=>False
 |.own _=>False
 |.tbl _=>False
 |_=>True
def wF:MO->v_ (ve PV)
 |.dK kvs=>a_ (kvs.map λkv=>.tup [kP kv.1,kv.2])
 |.dD kvs=>a_ (kvs.map λkv=>.tup [kv.1,kv.2])
 |_=>b_
def U1:MO->v_ (ve PV)
 |.dK kvs=>a_ (kvs.map λkv=>kP kv.1)
 |.dD kvs=>a_ (kvs.map (·.1))
 |_=>b_
def Lr:v_ MO->Bool
 |some (.dK _)=>true
 |some (.dD _)=>true
 |_=>false
section
variable{k:Nat}{σ:St}
theorem Ry{k:Key}(h:zL k v=true):RelV (kV k) v:=by
 rcases cQ h with⟨i,t,rfl,rfl⟩|⟨x,t,rfl,rfl⟩
 ·show⟨t,rfl⟩
 ·show⟨t,rfl⟩
theorem wG{α β:Type}{F:α->β->Prop}:∀{l:ve α}{m:ve β},Paired F l m->∀{i:Nat}{a:α},l[i]?=a_ a->∃b,m[i]?=a_ b/\F a b
 |_,_,.nil,i,a,e=>by simp at e
 |_,_,.cons (a:=x) (b:=y) r t,0,a,e=>by
  have:x=a:=by simpa using e
  subst this;show⟨y,rfl,r⟩
 |_,_,.cons r t,i+1,a,e=>by
  let⟨b,h1,h2⟩:=wG t (i:=i) (a:=a) (i_ e);show⟨b,i_ h1,h2⟩
theorem sS{α β:Type}{F:α->β->Prop}:∀{l:ve α}{m:ve β},Paired F l m->∀{i:Nat}{b:β},m[i]?=a_ b->∃a,l[i]?=a_ a/\F a b
 |_,_,.nil,i,a,e=>by simp at e
 |_,_,.cons (a:=x) (b:=y) r t,0,b,e=>by
  have:y=b:=by simpa using e
  subst this;show⟨x,rfl,r⟩
 |_,_,.cons r t,i+1,b,e=>by
  let⟨a,h1,h2⟩:=sS t (i:=i) (b:=b) (i_ e);show⟨a,i_ h1,h2⟩
theorem Ht(a:Key):y_ (kP a) (kV a):=by cases a <;> rfl
theorem Ls{kvs:ve (Key×PV)}{ks:ve (Key×V)}(rk:q1e kvs ks):C_ (kvs.map λkv=>kP kv.1) ((ks.map λq=>(kV q.1,q.2)).map (·.1)):=by
 unfold RKv at rk
 induction rk with
 |nil=>trivial
 | @cons p q ps qs e t ih=>exact⟨by change y_ (kP p.1) (kV q.1);rw[e.1];show Ht q.1,ih⟩
theorem Lu{ks:ve (PV×o_×V)}(rk:q0V 0):C_ (kvs.map (·.1)) ((ks.map λq=>(V.ref q.2.1,q.2.2)).map (·.1)):=by
 unfold RKd at rk
 induction rk with
 |nil=>trivial
 | @cons p q ps qs e t ih=>exact⟨e.2.2.1,ih⟩
structure VA(C:MC)(φ:ve o_)(H:Hp)(s:oa)(b:o_)(o:MO)(ks:ve (V×V))(u:HO)(oc:Obj)(es:Array y0o)(ep:Nat):Prop where
 at':H b=some u
 nf:U0 u
 nz:∀o z,u≠.frz o z
 nt:Ed (some u)
 get:s.heap.get? b=some oc
 cls:oc.cls=.type "dict"
 data:oc.data=.dict es ep
 nsys:(b == Zf)=false
 fz:∀φ' H',φ<+:φ'->H' b=some (.frz oc u)->Kp H H'->RO C φ' H' b (.fz o)
 len:ks.length=es.size
 ent:∀(i:Nat)(hi:i<es.size),∃kv,ks[i]?=some kv/\RelV kv.1 es[i].key/\RelV kv.2 es[i].val
 keys:∀xs,U1 o=some xs->RVs C φ H xs (ks.map (·.1))
 items:∀xs,wF o=some xs->xs.length=ks.length/\∀(i:Nat) p,xs[i]?=some p->∃p1 p2 kv,p=.tup [p1,p2]/\ks[i]?=some kv/\RV C φ H p1 kv.1/\RV C φ H p2 kv.2
theorem PQ{d:Nat}{b:o_}{o:MO}(c:q0n X)(I:P_ s)(rh:H_ h)(hb:φ[d]?=a_ b)(ho:h[d]?=a_ o)(hd:Lr (a_ o)=true):∃ks u oc es ep,VA C φ H s b o ks u oc es ep:=by
 cases o with
 |dK kvs=>
  let⟨ks,hH,rk⟩:=rh.at' d b _ hb ho;let⟨z,hm,vs,rel,dd⟩:=BH I.hok hH;let⟨oc,es,ep,g1,g2,g3,g4,g5,g6⟩:=dd;let l1:ks.length=vs.length:=YV rel;let l2:es.size=vs.length:=by have:=Am g5;have:=q0Y this;simpa using this
  refine⟨ks.map λq=>(kV q.1,q.2),_,oc,es,ep,hH,trivial,(λ_ _ e=>by cases e),trivial,g1,g2.1,g3,hm,λφ' H' p e t=>⟨oc,ks,e,rk.mono p t⟩,by rw[XR,l1,l2],λi hi=>?_,λxs hx=>?_,λxs hx=>?_⟩
  ·let hv:vs[i]?=a_ (vs[i]'⋯):=by simp[show i<vs.length by omega]
   let he:es.toList[i]?=a_ es[i]:=by simp[hi]
   let⟨q1,q2⟩:=g5.get? he hv;let⟨kv,jw,ow⟩:=sS rel hv;refine⟨(kV kv.1,kv.2),by rw[XT,jw];rfl,?_,?_⟩
   ·change RelV (kV kv.1) es[i].key
    rw[ow.1];show Ry q1
   ·change RelV kv.2 es[i].val
    rw[q2];show ow.2
  ·cases hx
   show Ls rk
  ·cases hx
   let lk:kvs.length=ks.length:=YV rk;refine⟨by rw[XR,XR,lk],λi p e=>?_⟩;rw[XT]at e;let⟨kv,e1,rfl⟩:=Yo.mp e;let⟨q,e2,r2⟩:=wG rk e1;show⟨_,_,(kV q.1,q.2),rfl,by rw[XT,e2];rfl,by change y_ (kP kv.1) (kV q.1);rw[r2.1];show Ht q.1,r2.2⟩
 |dD kvs=>
  let⟨ks,hH,rk⟩:=rh.at' d b _ hb ho;let hO:dZ X.prog X.w H s.heap b (dDO C.w b ks):=I.hok b _ hH;let⟨⟨hz,hm,xs,rx,oc,es,ep,g1,g2,g3,g4,g5⟩,_⟩:=hO;let l1:ks.length=xs.length:=YV rx;let l2:es.size=xs.length:=by have:=q0Y g4;simpa using this
  refine⟨ks.map λq=>(V.ref q.2.1,q.2.2),_,oc,es,ep,hH,trivial,(λ_ _ e=>by cases e),trivial,g1,g2.1,g3,hm,λφ' H' p e t=>⟨oc,ks,e,rk.mono p t⟩,by rw[XR,l1,l2],λi hi=>?_,λxs hx=>?_,λxs hx=>?_⟩
  ·let hv:xs[i]?=a_ (xs[i]'⋯):=by simp[show i<xs.length by omega]
   let he:es.toList[i]?=a_ es[i]:=by simp[hi]
   rw[g4,XT,hv]at he;let lh:=Yp he;let⟨kv,jw,ow⟩:=sS rx hv;refine⟨(V.ref kv.2.1,kv.2.2),by rw[XT,jw];rfl,?_,?_⟩
   ·change RelV (V.ref kv.2.1) es[i].key
    rw[<-lh,ow.2.1];rfl
   ·change RelV kv.2.2 es[i].val
    rw[<-lh];show ow.2.2
  ·cases hx
   show Lu rk
  ·cases hx
   let lk:kvs.length=ks.length:=YV rk;refine⟨by rw[XR,XR,lk],λi p e=>?_⟩;rw[XT]at e;let⟨kv,e1,rfl⟩:=Yo.mp e;let⟨q,e2,r2⟩:=wG rk e1;show⟨_,_,(V.ref q.2.1,q.2.2),rfl,by rw[XT,e2];rfl,r2.2.2.1,r2.2.2.2⟩
 |_=>cases hd
theorem Jc{o:MO}(h:wF o=a_ xs):Lr (a_ o)=true:=by cases o <;> first|rfl|cases h
def rN:PV->ve PV->PH->Rs PV:=λx ps h=>match x,ps with
 |.ref n,[]=>if Lr h[n]?=true then .ok (.ref h.length) (h++[.vw 0 n]) else .bad
 |_,_=>.bad
theorem Lv:MtG C k X "dict" pS "dict.items" rN:=λc=>⟨λFR s σ H x xs v us Q I rx rs h=>by
 let⟨φ,h,p,ps,rh,rp,kh,po⟩:=h;unfold rN at po;split at po
 ·rename_i n;split at po
  ·rename_i hd;let⟨a,rfl,ha⟩:=rp;have:xs=[]:=by cases xs <;> first|rfl|exact kh.elim
   subst this;cases rx
   cases rs
   cases ho:h[n]? with
   |none=>rw[ho]at hd;cases hd
   |some o=>
    rw[ho]at hd;let⟨ks,u,oc,es,ep,W⟩:=PQ c I rh ha ho hd;let hT:s.TypeIs (.ref a) "dict" := ⟨oc,W.get,W.cls⟩;refine call_meetsIn PySem.F.slot_dict_items hT PySem.F.entry_dict_items (PySem.F.args_dict_items_1 _) (Eh a W.nsys) ⟨hT,?_⟩;let fr:H (c_ s)=b_:=I.fresh;refine⟨.ref (c_ s),_,I.laid (t':=s.toks) (o:=Ku 0 (c_ s) a) (λb u e=>XO _ e) (X1 _) ?_,rfl,?_⟩
    ·show⟨⟨_,q0O 0,rfl,rfl⟩,⟨_,q0O 0⟩,λh1 h2 ⟨o,e,p⟩ k=>⟨o,k o e,p⟩⟩
    ·show po (φ++[(c_ s)]) (.ref _) _ (Zu _ _) (Kp.new fr) (rh.new fr ⟨a,kF (Zu _ _) ha,bH⟩) ⟨_,rfl,by rw[<-rh.len];simp⟩
  ·show po.elim
 ·show po.elim,Al c⟩
end
theorem Gr{o:MO}(e:h[n]?=a_ o)(hd:Lr (a_ o)=true):rN (.ref n) [] h=.ok (.ref h.length) (h++[.vw 0 n]):=by simp only[rN,e,hd,if_true]
open PySem.SeqAt
section
variable{σ:St}
theorem Av(I:P_ s):∀{ds es:ve D}{vs:ve V},R_ 0<=40->iP X.K H ds vs->iP X.K H es vs->ds=es
 |[],[],[],_,_,_=>rfl
 |d::ds,e::es,v::vs,h,⟨a,b⟩,⟨a',b'⟩=>by
  let hh:D.depths (d::ds)=max d.depth (R_ 0):=by simp[D.depths]
  let h1:d.depth<=40:=⋯;let h2:R_ 0<=40:=⋯;rw[rD I 40 d e v h1 a a',Av I h2 b b']
 |[],_::_,vs,_,h,h'=>by
  cases vs with
  |nil=>exact h'.elim
  |cons _ _=>exact h.elim
 |_::_,[],vs,_,h,h'=>by
  cases vs with
  |nil=>exact h.elim
  |cons _ _=>exact h'.elim
theorem VB(I:P_ s){ds es:ve D}{x y:V}(hd:R_ 0<=40)(hu:A.units+42<cLine)(hx:Ee X.K H ds x)(hy:Ee X.K H es y)(rx:q1f v)(ry:RelV y u):EqAt A s v u (iQ ds es):=by
 let⟨a,vs,rfl,q,r⟩:=hx;let⟨b,i3,rfl,q',r'⟩:=hy;cases rx;cases ry;refine iR (λprog w E Q hq=>?_) (λe=>?_) (λf t z=>by cases z)
 ·let⟨its,rv,p,_⟩:=I.list q;let⟨its',aw,p',_⟩:=I.list q';let l1:=r.length;let l2:=r'.length;let l3:=rv.length;let l4:=aw.length;by_cases hl:ds.length=es.length
  ·refine eq_listAt p.isList p'.isList (by simp;omega) ⋯ (sM (I:=I) r r' rv aw hd ⋯) ?_;let e1:its.toArray.size=ds.length:=by simp;omega
   rw[e1,vX hl];show hq
  ·refine eq_list_lengthsAt p.isList p'.isList (by simp;omega) ⋯ ?_;let e:iQ ds es=false:=by
    cases h:iQ ds es with
    |false=>rfl
    |true=>exact absurd (A4 h) hl
   rw[e]at hq;show hq
 ·cases e
  let ev:=I.list_inj q q';subst ev;let e2:=Av I hd r r';subst e2;have:=nL (.tup ds);simpa[eqD] using this
end
open PySem.SeqAt PySem.W
def hdk:PV->v_ Nat
 |.tup (.int _::_)=>a_ 0
 |.tup (.str _::_)=>a_ 1
 |.tup (.tup _::_)=>a_ 2
 |_=>b_
theorem Inv.drn{σ:St}(I:P_ s)(d:Drawn):P_ { s with drawn:=d}:=⟨I.ok,I.os,I.bare,I.base,I.loc,I.cell,I.free,I.freeC,I.pin,I.hok,I.len⟩
def nR:PV->PV->PH->Rs PV:=λx y h=>match x,y with
 |.ref m,.int n=>match dU h m with
  |some [z]=>if 0<=n/\n<=1000 then .ok (.ref h.length) (h++[.lst (X4 n.toNat z)]) else .bad
  |_=>.bad
 |_,_=>.bad
theorem Ot{α:Type}(z:α)(n:Nat):(X4 n [z]).flatten=X4 n z:=by
 induction n with
 |zero=>rfl
 |succ n ih=>rw[y0G,y1J,ih];rfl
theorem RVs.repOne{v:V}(r:y_ z v):∀n,C_ (X4 n z) (X4 n v)
 |0=>trivial
 |n+1=>⟨r,RVs.repOne r n⟩
theorem CM{k:Nat}:q0k (ZQ .Mult) nR:=λc=>QI.imp λx y H Q h=>by
 let⟨φ,h,p,q,rh,rx,ry,po⟩:=h;unfold nR at po;split at po
 ·rename_i m n;let⟨a,rfl,ha⟩:=rx;cases ry
  cases e:dU h m with
  |none=>rw[e]at po;show po.elim
  |some ys=>
   rw[e]at po
   match ys,e,po with
   |[z],e,po=>
    let⟨us,h2,r2⟩:=rh.at' m a _ ha (kU e);let⟨⟨n0,n1⟩,po⟩:=po.ite
    match us,r2 with
    |[v],r2=>refine⟨a,n,[v],rfl,rfl,h2,⋯,⋯,by rw[YL];simp;omega,λp hp=>?_⟩;rw[Ot];show po.lnew rh (RVs.repOne r2.1 _) hp
   |[],e,po=>exact po.elim
   |_::_::_,e,po=>exact po.elim
 ·show po.elim
theorem EA{n:Int}(e:h[m]?=a_ (.lst [z]))(n0:0<=n)(n1:n<=1000):nR (.ref m) (.int n) h=.ok (.ref h.length) (h++[.lst (X4 n.toNat z)]):=by
 have:dU h m=a_ [z]:=by simp[dU,e]
 unfold nR;simp only[this];rw[if_pos ⟨n0,n1⟩]
def mL:ve PV->PH->Rs PV:=λxs h=>match xs with
 |[.ref n]=>match bJ h n with
  |some kvs=>.ok (.ref h.length) (h++[.lst (kvs.map (·.1))])
  |none=>Hk xs h
 |_=>Hk xs h
theorem EB{k:Nat}:uE C k X (.type "list") mL:=λc=>dJ.imp (dJ.or (R5 c) (Gq c)) λvs H Q h=>by
 let⟨φ,h,ps,rh,rv,po⟩:=h;unfold mL at po;split at po
 ·rename_i n;split at po
  ·rename_i kvs e;let⟨v,rfl,rx⟩:=rv.one;let⟨a,rfl,ha⟩:=rx;show .inr ⟨φ,h,n,a,kvs,rfl,rh,ha,e,λl ws hl cf=>po.lnew rh cf hl⟩
  ·show .inl ⟨φ,h,_,rh,rv,po⟩
 ·show .inl ⟨φ,h,_,rh,rv,po⟩
theorem Jd(e:bJ h n=a_ kvs):mL [.ref n] h=.ok (.ref h.length) (h++[.lst (kvs.map (·.1))]):=by simp[mL,e]
def EC(w:s_)(a:o_)(ks:ve Str):HO:=.ext λh=>jT w h a ks
variable{ss:ve Str}
theorem Je(h:StrsAre vs ss)(h0:0<vs.length):keyKind' vs.toArray=pure oneType':=by
 cases h with
 |nil=>simp at h0
 |cons n t r=>
  cases r with
  |nil=>
   rw[keyKind'_eq,List.mapM_toArray,mapM_first_strs (.cons n t .nil)];simp only[map_pure,pure_bind];rw[if_neg (by simp),if_neg (by simp),oneTypeOnly'_eq];simp;rw[show typeOf (y1h n t)=pure (y0y "str") from rfl]
   simp
  |cons m u r=>exact keyKind_strs (.cons n t (.cons m u r))
theorem yC(h:StrsAre vs ss):vs.length=ss.length/\∀i,i<vs.length->∃t,q0u 0=y1h (ss.getD i "") t:=by
 induction h with
 |nil=>exact⟨rfl,λi h=>by simp at h⟩
 |cons n t r ih=>
  refine⟨by simp[ih.1],λi h=>?_⟩;cases i with
  |zero=>exact⟨t,rfl⟩
  |succ i=>simpa using ih.2 i (i_ h)
theorem uT{vs:ve n_}{ss:ve Str}(h:StrsAre vs ss):∀{q:W_ 0},(∀i∈q,i<vs.length)->aW ((q.map λi=>ss.getD i "").map V.str) (q.map λi=>q0u 0)
 |[],_=>.nil
 |i::q,hq=>by let⟨t,e⟩:=(yC h).2 i (hq i XY);simp only[YA,e];show .cons ⟨t,rfl⟩ (uT h λj hj=>hq j (XW _ hj))
theorem EE{y:Str}{t u:Tok}{Q:g_ Bool}(h:Q (decide (x.cps.toList<y.cps.toList)) s):x_ (keyLt' oneType' (.str x t) (.str y u)) Q E s:=by
 change x_ (oneLt' true (.str x t) (.str y u)) Q E s
 show oneLt_str h
abbrev VC(w:s_):SetTable:=y0w 0 0 !jI w
abbrev yQ(w:s_):Obj:={cls:=.type "set",data:=.set #[] 0 (VC w)}
theorem Jf(b:Bool)(h:Int)(x:n_):∃j,layNew (y0w 0 0 b) #[] h x=(#[(h,x)],{ y0w 0 0 b with place:=#[j]},false,false):=by let hs:∀j,(y0w 0 0 b).slot j=.empty:=λj=>rfl;let hf:(y0w 0 0 b).freeSlot h=a_ (SetTable.bits h%8,false):=rfl;refine⟨SetTable.bits h%8,?_⟩;unfold layNew;rw[hf];rfl
variable{tk:Tok}{G:Array GenState->Array GenState->Prop}{I:o_}{fp:ve o_}{ns:ve Str}
section
variable{o:Obj}{es:Array (Int×n_)}{t:SetTable}
theorem add_one{k:Str}{Q:g_ Bool}(ho:q0C 0=a_ (yQ w))(h:∀b h',Zv a s.heap h'->jT w h' a [k]->Q b {s with heap:=h'}):x_ (setAddHashed a (y1h k tk) (hashStr w k)) Q E s:=by
 let hE:ElemsOf (strKind prog w) (#[]:Array (Int×n_)).toList:=λe he=>by cases he
 unfold setAddHashed;refine YZ ?_;rw[setAddHashedIn.eq_def];refine XJ (y1L ho rfl rfl ?_);dsimp only;rw[byScan_of (prog:=prog) (w:=w) (knd:=strKind prog w) (show(y1h k tk).scannable=true from rfl) nofun hE,q0s 0]
 refine XJ ?_;unfold setAddByScan;refine XJ (y0f (XJ (wpAny_setScan_of (knd:=strKind prog w) (PD k tk) ho rfl rfl hE ?_)));let⟨j,e⟩:=Jf (!jI w) (hashStr w k) (y1h k tk);rw[show List.findIdx? (λe=>(strKind prog w).is k e.snd) (#[]:Array (Int×n_)).toList=b_ from rfl]
 dsimp only;rw[e];dsimp only;refine XJ (XM ?_);rw[if_pos (show(y0w 0 0 !jI w).plain=true from rfl)]
 let vj:∀{m:Sem Bool},m=pure false->∀{f:Bool->Sem (v_ Bool)}{R:v_ Bool->oa->Prop},x_ (f false) R E s->x_ (m >>= f) R E s:=λe _ _ hq=>by subst e;show XJ (XM hq)
 refine vj (hashByValue_scannable 8 (show(y1h k tk).scannable=true from rfl)) ?_
 rw[if_neg Yg];refine XJ (wpAny_storeSet_of ho rfl ?_ (by rw[YL];show(by decide:1<=16777216)));refine y0b (show decide _=false from rfl) ?_
 refine XM (XM (h _ _ (YB s.heap a _) ⟨_,_,_,_,O0 ho rfl,⟨rfl,rfl,rfl⟩,rfl,⟨rfl,λe=>by simp[y0w,e],λe=>by cases e⟩,rfl,λe he=>?_,Zd _⟩));show⟨k,tk,i_ he⟩
theorem Jg{wr:ve o_}{P:Nat->n_->Prop}{St:g_ Nat}(W:WalksS prog w A.in1 I fp wr G items.size P St)(S:o_)(m8:S∉fp)(hi:StrsAre items.toList ns)(um:∀i v,P i v->items.toList[i]?=a_ v)(hb:items.size<=1)(b9:St 0 s)(hS:s.heap.get? S=a_ (yQ w))(hR:∀s',Moved (S::wr) G s s'->jT w s'.heap S ns->R (.ok (.ret .none)) s'):codeAny (q0M 0) A (.builtin "set.update.loop" ⟨[.ref S,.ref I],[]⟩) R s:=by
 let zg:S∉wr:=λh=>m8 (W.sub S h);let fw:∀b∈wr,b∈S::wr:=λb hb=>XW S hb;let fin:∀s',St items.size s'->jT w s'.heap S ns->(∀b6,Moved (S::wr) G s' b6->jT w b6.heap S ns->R (.ok (.ret .none)) b6)->codeAny (q0M 0) A (.builtin "set.update.loop" ⟨[.ref S,.ref I],[]⟩) R s':=λs' b9 hS hR=>by
  refine ZW PyProof.Rows.F.entry_set_update_loop ?_;rw[Zs y0x];refine(show z_ (pyNext (.ref I) >>= _) _ _ s' from XJ (W.done s' _ _ b9 λb6 hm=>?_))
  show XM (hR b6 (hm.mono fw) (hS.kept λo ho=>hm.heap S o zg ho))
 let hl:=hi.length
 match hn:items.size,hb with
 |0,_=>have:ns=[]:=y1k (by simp at hl;omega);subst this;show fin s (hn▸b9) ⟨_,_,_,_,hS,⟨rfl,rfl,rfl⟩,rfl,⟨rfl,λe=>by simp[y0w,e],λ_=>ZE⟩,rfl,λe he=>(by cases he),Zd _⟩ hR
 |1,_=>
  refine ZW PyProof.Rows.F.entry_set_update_loop ?_;rw[Zs y0x];refine(show z_ (pyNext (.ref I) >>= _) _ _ s from XJ (W.item 0 s _ _ ⋯ b9 λv s' hP gb hm=>?_))
  let⟨y,t,rfl,hy⟩:=StrsAre.item hi 0 v (um 0 v hP);let Xd:ns=[y]:=by
   match ns,hl,hy with
   |[_],_,hy=>cases hy;rfl
   |[],_,hy=>cases hy
   |_::_::_,hl,_=>simp at hl;omega
  subst Xd;refine(show z_ (holding [y1h y t] (setAdd S (.str y t)) >>= _) _ _ s' from XJ (YZ ?_))
  unfold setAdd;refine YZ (XJ ((strKind prog w).pyHash (PD y t) ?_));refine add_one (s:={ s' with toks:=s'.toks+1}) (hm.heap S _ zg hS) λb h' yf ti=>?_;refine XM ⟨y0U y0x _,fin _ (hn▸W.frame 1 s' h' (s'.toks+1) gb (Nat.le_succ _) λb hb o e=>?_) ti λb6 uc wg=>hR b6 ?_ wg⟩
  ·rw[yf.2 b λh=>m8 (h▸hb)];show e
  ·refine Moved.trans W.gtrans (Moved.then_heap (hm.mono fw) (Nat.le_succ _) λb o hb e=>?_) uc;rw[yf.2 b λh=>hb (h▸XY)];show e
theorem Jh{l:o_}(hh:A.handled=b_)(hl:s.heap.IsList l items)(hi:StrsAre items.toList ns)(hb:items.size<=1)(h:∀h' tk,jT w h' (c_ s) ns->(∀b o,I_ 0=a_ o->q0A 0=a_ o)->Q (.ref (c_ s)) {s with heap:=h',toks:=tk}):
  x_ (call (.type "set") [.ref l]) Q E s:=by
 let⟨c,tl,uh⟩:=y17.mro;let qh:=y17.made;let fw:=y17.sub;refine wpAny_call (codeAny_of_tree (show z_ _ _ _ _ from XM ⟨Code.quiet_builtin _ (by simp),ZW F.entry_type_call ?_⟩))
 rw[show A.under (Code.builtin "type.__call__" ⟨y0y "set" :: [YH l],[]⟩)=A.in1 from Around.under_plain (weight_type_call_type "set" [YH l] []) rfl]
 unfold Builtin.«type.__call__»;dsimp only;let h1:=y17.notType;let h2:=y17.canCreate;refine y0b (show decide _=false from rfl) ?_
 refine y0b (show decide _=false from rfl) ?_
 refine XJ (y0Z (F.typeCall_set_1 (YH l)) ?_);refine XJ (y0Z uh ?_);refine y0b (show decide _=false from rfl) ?_
 refine XJ (y0Z qh ?_);refine XJ (XM ?_);refine XJ (YZ (wpAny_call (y12 (code_set_new (E:=E) (Q₁:=λobj s₁=>obj=.ref (c_ s)/\s₁={s with heap:=s.heap.push (yQ w)}) (YH l) ⟨rfl,rfl⟩) λr s₁ hr=>?_)));cases r with
 |error e=>exact hr
 |ok fl=>
 cases fl with
 |next=>exact hr.elim
 |brk=>exact hr.elim
 |cont=>exact hr.elim
 |ret obj=>
  let⟨rfl,rfl⟩:=hr;let hT:({s with heap:=s.heap.push (yQ w)}:oa).TypeIs (.ref (c_ s)) "set" := ⟨_,q0O 0,rfl⟩;refine(show z_ _ _ _ _ from XJ (ZY hT fw ?_))
  rw[q0a 0];refine XJ (YZ (YT (name:=Zj "__init__") hT y17.init ?_));refine wpAny_call (codeAny_call_builtin y17.init.plain F.entry_set_init (check_set_init_1 hT ?_));let ho:(s.heap.push (yQ w)).get? (c_ s)=a_ (yQ w):=q0O 0;let bj:(s.heap.push (yQ w)).IsList l items:=by let⟨o,e,r⟩:=hl;show⟨o,XO _ e,r⟩
  let rn:({s with heap:=s.heap.push (yQ w)}:oa).TypeIs (.ref l) "list" := by let⟨o,e,r,_⟩:=bj;show⟨o,e,r⟩
  unfold Builtin.«set.__init__»;refine XJ (show z_ (pure ()) _ _ _ from XM ?_)
  refine(show z_ (typeNameOfCut 200 (YH (c_ s)) >>= _) _ _ _ from XJ ?_)
  unfold typeNameOfCut shownTypeOf;refine XJ (XJ (y1v hT ?_));rw[q0a 0];refine XM (y0Z (a:="set") (by rfl) ?_);refine XJ (y0Z (a:=()) (by rfl) ?_);refine XJ (XM ?_);unfold setUsed;refine XJ (XJ (y1L ho rfl rfl (XM ?_)));refine y0b (show decide _=false from by cases jI w <;> rfl) ?_
  refine(show z_ (Builtin.Frozenset.updateFrom "set.__init__" (c_ s) (.ref l) >>= _) _ _ _ from XJ ?_)
  unfold Builtin.Frozenset.updateFrom Builtin.Frozenset.isAnySet;refine XJ ?_;refine XJ (ZY rn F.sub_list_set ?_);refine ZY rn F.sub_list_frozenset ?_;rw[q0a 0];refine XJ (y1v rn ?_);rw[q0a 0];refine XJ (y1M bj ?_);refine XJ (wpAny_runValue ?_);let ne1:(c_ s)≠(s.heap.push (yQ w)).objs.size:=Yj (XZ ho);let yk:l<(c_ s):=by let⟨o,e,_⟩:=hl;show XZ e
  let ne2:(c_ s)≠l:=Za yk;let Xc:∀b o,I_ 0=a_ o->(s.heap.push (yQ w)).get? b=a_ o:=λb o e=>XO _ e;let hsz:(c_ s)<(s.heap.push (yQ w)).objs.size:=XZ ho;let Xj:=ho;clear hT rn ho;generalize s.heap.push (yQ w)=h0 at*;refine Jg (A:=A.in1.in1) (Walks.toS (Walks.list (A:=A.in1.in1.in1) hh h0.objs.size l (Yj (Nat.lt_trans yk hsz)) items)) (c_ s) ?_ hi (λi v hv=>by simpa using hv) hb ⟨⟨_,q0O 0,rfl,rfl⟩,?_⟩ (XO _ Xj) λs' hm hS=>?_
  ·intro z;rcases Yf.mp z with z|z
   ·show ne1 z
   ·show ne2 (YC.mp z)
  ·let⟨o,e,r⟩:=bj;show⟨o,XO _ e,r⟩
  ·refine XM (XM (XM ?_));let e:=Moved.eq_with hm;rw[e];refine h s'.heap s'.toks hS λb o e=>hm.heap b o (λz=>?_) (XO _ (Xc b o e));rcases Yf.mp z with z|z
   ·show Yj (XZ e) z
   ·show Yj (Nat.lt_trans (XZ e) hsz) (YC.mp z)
theorem Ji(ho:q0C 0=a_ o)(hx:o.ExactSet)(hd:o.data=.set es ep t)(hf:t.fits es.size=true)(hz:es.size<=1)(q1:Q (.ref (c_ s)) {s with heap:=s.heap.push (siO a (.int 0 0) 0 es.size ep)}):
  x_ (pyIter (.ref a)) Q E s:=by
 let hT:s.TypeIs (.ref a) "set" := ⟨o,ho,hx.1⟩;refine wpAny_pyIter_slot hT F.slot_set_iter (Y1 F.slot_set_iter hT A5 (show z_ (Builtin.«frozenset.__iter__» _) _ _ _ from ?_) (F.args_set_iter_1 _))
 unfold Builtin.«frozenset.__iter__» Builtin.Frozenset.slot0;refine XJ (XJ (XM (XM ?_)));unfold Builtin.Frozenset.sizeOf;refine XJ (XJ (wpAny_setEntries_of ho hd hf (XM ?_)));unfold setDrawn setsByText;refine XJ (XJ (y1L ho hd hf (XJ (XJ (y10 (XM (XM ?_)))))))
 change z_ (if(!(jI w)&&(!t.plain&&decide (es.size>1)))=true then _ else _) _ _ _
 rw[if_neg (by simp[Nat.not_lt.mpr hz])];refine XJ (XM ?_);refine XJ (wpAny_setEpoch_of ho hd hf ?_);unfold newFields;show XJ (YJ (XM ⟨_,rfl,"set_iterator",_,⟨_,q0O 0,rfl⟩,fM.lookup,q1⟩))
theorem EF(hh:A.handled=b_)(ho:q0C 0=a_ o)(hx:o.ExactSet)(hd:o.data=.set es ep t)(ht:TOk (jI w) t)(hf:t.fits es.size=true)(hz:es.size<=1)(S:o_)(yp:S≠a)(res:n_)(c₀:Nat)(hS:s.heap.get? S=a_ {cls:=.type "list",data:=.seq #[] c₀})(hR:∀h' d tk (acc:q0p 0) c',(∀b o,b≠S->I_ 0=a_ o->q0A 0=a_ o)->h'.get? S=a_ {cls:=.type "list",data:=.seq acc c'}->acc.toList.Perm (es.toList.map (·.2))->R (.ok (.ret res)) {s with heap:=h',drawn:=d,toks:=tk}):
  q1s (Zz (.ref S) (.ref a) res) (λfin s'=>match fin with|.done f=>R (.ok f) s'|.again c'=>c'.quiet=true/\codeAny (q0M 0) A c' R s') (λe s'=>R (.error e) s') s:=by
 have hT:s.TypeIs (.ref a) "set" := ⟨o,ho,hx.1⟩
 have Wb:=XZ ho
 have xj:=XZ hS
 unfold Zz
 refine XJ (y1v hT ?_)
 have hc:(y0j (.ref S) (.ref a) || y0y "set" == y0y "list" || y0y "set" == y0y "tuple")=false:=by
  have:y0j (.ref S) (.ref a)=false:=by simp[y0j,yp]
  rw[this]
  decide
 rw[hc,if_neg Yg]
 have tail:∀{s1:oa}{I:o_}{fp:ve o_}{P:Nat->n_->Prop}{St:Nat->r_->Prop},Walks prog w A.in1 I fp [I] es.size P St->S∉fp->St 0 s1.heap->I≠S->s1.heap.get? S=a_ {cls:=.type "list",data:=.seq #[] c₀}->s1.TypeIs (.ref a) "set" -> s1.gens=s.gens->s1.os=s.os->
   (∀b o,I_ 0=a_ o->s1.heap.get? b=a_ o)->(c_ s)<=I->(∀acc,ItemsOf P acc es.size->acc.toList.Perm (es.toList.map (·.2)))->
   ∀{f:Bool->Sem PySem.Fin},(∀b,f b=(if(b || false)=true then(do rule "list.extend.makes-room";y1n (.ref S);again (.builtin "list.extend.loop" ⟨[.ref S,.ref I,res],[]⟩)) else again (.builtin "list.extend.loop" ⟨[.ref S,.ref I,res],[]⟩))\/
    f b=(do rule "list.extend.makes-room";y1n (.ref S);again (.builtin "list.extend.loop" ⟨[.ref S,.ref I,res],[]⟩)))->
   q1s (holding [YH I] (y1D (.ref a)) >>= f) (λfin s'=>match fin with|.done f=>R (.ok f) s'|.again c'=>c'.quiet=true/\codeAny (q0M 0) A c' R s') (λe s'=>R (.error e) s') s1:=by
  intro s1 I fp P St W m8 b9 hIS hS1 hT1 hg i9 kp hI hit f hf'
  have key:∀h c₁ tk,St 0 h->(∀b o,b≠S->s1.heap.get? b=a_ o->h.get? b=a_ o)->h.get? S=a_ {cls:=.type "list",data:=.seq #[] c₁}->codeAny (q0M 0) A (.builtin "list.extend.loop" ⟨[.ref S,.ref I,res],[]⟩) R {s1 with heap:=h,toks:=tk}:=by
   intro h c₁ tk gb hk ti
   refine codeAny_extend_loopS (Walks.toS W) (by rw[YL];omega) S m8 res es.size 0 _ #[] c₁ (y0v _) (YE _) gb ti (ItemsOf.nil P) λs' acc c' hm df ah=>?_
   have e:=Moved.eq_with hm
   rw[e]
   have:=hR s'.heap s1.drawn s'.toks acc c' (λb o hb e=>hm.heap b o (λz=>?_) (hk b o hb (kp b o e))) df (hit acc ah)
   ·rw[<-hg,<-i9]at this
    exact this
   ·rcases Yf.mp z with z|z
    ·exact hb z
    ·have h1:=XZ e
     exact absurd (YC.mp z▸h1) (Nat.not_lt.mpr hI)
  refine XJ (YZ (Kr hT1 ?_))
  have ni:q1s (do rule "list.extend.makes-room";y1n (.ref S);again (.builtin "list.extend.loop" ⟨[.ref S,.ref I,res],[]⟩)) (λfin s'=>match fin with|.done f=>R (.ok f) s'|.again c'=>c'.quiet=true/\codeAny (q0M 0) A c' R s') (λe s'=>R (.error e) s') s1:=by
   refine XJ (y0f (XJ ?_))
   unfold y1n
   refine XJ (wpAny_updateSeq hS1 rfl ?_)
   have m7:=YR (YO λx=>x.push Yn) hS1 rfl
   refine wpAny_updateSeq m7 rfl ?_
   have vi:=YR (YO λx=>x.pop) m7 rfl
   refine XM ⟨y0U F.plain_extend_loop _,key _ _ _ (W.frame 0 s1.heap _ b9 λb hb o e=>?_) (λb o hb e=>?_) vi⟩
   ·have za:b≠S:=λh=>m8 (h▸hb)
    exact(Y8 _ _ (ZK za)).trans ((Y8 _ _ (ZK za)).trans e)
   ·exact(Y8 _ _ (ZK hb)).trans ((Y8 _ _ (ZK hb)).trans e)
  rcases hf' false with h|h
  ·rw[h,q0a 0]
   exact XM ⟨y0U F.plain_extend_loop _,key s1.heap _ s1.toks b9 (λb o _ e=>e) hS1⟩
  ·rw[h]
   exact ni
 have d9:jI w=true\/(!t.plain&&decide (es.size>1))=false:=.inr (by simp[Nat.not_lt.mpr hz])
 refine XJ (Ji ho hx hd hf hz ?_)
 refine tail (s1:={s with heap:=s.heap.push (siO a (.int 0 0) 0 es.size ep)}) (FZ (A:=A.in1) hh (Yj Wb) hd ht hf d9) ?_ ⟨?_,XO _ ho⟩ (Za xj) (XO _ hS) ⟨o,XO _ ho,hx.1⟩ rfl rfl (λb o e=>XO _ e) (X1 _) (λacc ha=>?_) (λb=>?_)
 ·intro z
  rcases Yf.mp z with z|z
  ·exact Yj xj z
  ·exact yp (YC.mp z)
 ·have e0:q0R 0=0:=by unfold slotAt;split <;> rfl
  rw[e0]
  exact q0O 0
 ·have hsz:(q1x 0).size=es.size:=by have:=(oK (w:=w) (a:=a) (ep:=ep) (es:=es)).length_eq;simpa using this
  have:acc.toList=(q1x 0).toList.map (·.2):=by
   apply Zi
   intro i
   rw[XT,y0R,y0R]
   by_cases hi:i<acc.size
   ·have e:=ha.2 i acc[i] (YX hi)
    rw[YX hi]
    exact e.symm
   ·have h1:=ha.1
    rw[Ze ⋯,Ze ⋯]
    rfl
  rw[this]
  exact oK.map _
 ·cases b <;> first|exact Or.inl rfl|exact Or.inr rfl
theorem CN{R:ve n_->oa->Prop}(hh:A.handled=b_)(hS:jT w s.heap a ks)(hz:ks.length<=1)(h:∀h' d tk vs,(∀b o,I_ 0=a_ o->q0A 0=a_ o)->StrsAre vs ks->R vs {s with heap:=h',drawn:=d,toks:=tk}):x_ (collect (.ref a)) R E s:=by
 let⟨o,es,ep,t,ho,hx,hd,ht,hf,Wp,hp⟩:=hS
 have hlen:es.size=ks.length:=by have:=hp.length_eq;simpa using this
 unfold collect
 refine XJ (wpAny_runValue (ZW PyProof.Rows.entry_proto_collect' ?_))
 rw[Zs F.plain_proto_collect]
 refine(show z_ (newObj _ _ >>= _) _ _ _ from XJ (YJ (XM ⟨y0U F.plain_list_iadd _,ZW PyProof.Rows.entry_list_iadd' ?_⟩)))
 rw[Zs F.plain_list_iadd]
 have ja:(s.heap.push {cls:=.type "list",data:=.seq #[]}).get? (c_ s)=a_ {cls:=.type "list",data:=.seq #[]}:=X2 s.heap rfl
 have fv:(s.heap.push {cls:=.type "list",data:=.seq #[]}).get? a=a_ o:=XO _ ho
 refine(show z_ (Zz (.ref (c_ s)) (.ref a) (.ref (c_ s))) _ _ _ from ?_)
 refine EF (R:=λr s'=>match r with|.ok (.ret v)=>x_ (match v with|YH a=>(do let o <-load a;match o.data with|Data.seq xs epoch=>pure xs.toList|x=>unsupported "internal:collect")|x=>unsupported "internal:collect") R E s'|.ok _=>False|.error e=>E e s') (s:={s with heap:=s.heap.push {cls:=.type "list",data:=.seq #[]} }) hh fv hx hd ht hf ⋯ (c_ s) (Za (XZ ho)) _ 0 ja λh' d tk acc c' kp df pe=>?_
 refine(show z_ (load (c_ s) >>= _) _ _ _ from XJ (wpAny_load df (XM ?_)))
 have all:∀(l:ve n_),(∀v∈l,∃k tk,v=y1h k tk)->∃ms,StrsAre l ms/\ms=l.map λv=>Cz (0,v):=by
  intro l
  induction l with
  |nil=>intro _;exact⟨[],.nil,rfl⟩
  |cons v l ih=>
   intro hv
   let⟨k,tk,rfl⟩:=hv v XY
   let⟨ms,i,e⟩:=ih λv h=>hv v (XW _ h)
   exact⟨k::ms,.cons k tk i,by rw[e];rfl⟩
 let⟨ms,i,e⟩:=all acc.toList λv hv=>by
  let⟨x,hx,rfl⟩:=Yt.mp (pe.mem_iff.mp hv)
  let⟨k,tk,rfl⟩:=Wp x hx
  exact⟨k,tk,rfl⟩
 have pk:ms.Perm ks:=by
  rw[e]
  refine(pe.map _).trans ?_
  rw[Y2]
  exact(show es.toList.map (λx=>Cz (0,x.2))=es.toList.map Cz from y0I λx _=>rfl)▸hp
 have ek:ms=ks:=by
  match ks,hz,pk with
  |[],_,pk=>exact pk.eq_nil
  |[_],_,pk=>exact List.perm_singleton.mp pk
  |_::_::_,hz,_=>simp at hz
 exact h h' d tk acc.toList (λb o e=>kp b o (Yj (XZ e)) (XO _ e)) (ek▸i)
end
theorem Gs(hc:X.calm=true):dJ X (.type "set") (λxs H Q=>∃l ns,xs=[.ref l]/\SqL X.K H l (ns.map V.str)/\ns.length<=1/\∀a,H a=b_->Q (.ref a) (q0r a (EC X.w a ns))):=by
 intro FR s σ H xs us Q I r h;let⟨l,ns,rfl,hq,h64,q⟩:=h;let⟨u,rfl,ru⟩:=vals1 r;cases ru
 let⟨its,rv,pl,hz⟩:=I.list hq;let hlen:=rv.length;rw[XR]at hlen;refine Jh (I.ok.hd hc) pl.isList (ns:=ns) (by simpa using A3 rv) (by simp;omega) λh' tk hS kp=>?_
 have:∃o,h'.get? (c_ s)=a_ o:=let ⟨o,_,_,_,e,_⟩:=hS;⟨o,e⟩;show⟨.ref (c_ s),_,I.laid (t':=tk) (o:=EC X.w (c_ s) ns) kp (X1 _) ⟨hS,this,λh1 h2 p k=>jT.kept p k⟩,rfl,q _ I.fresh⟩
theorem EG(hc:X.calm=true):dJ X (.builtin "sorted") (λxs H Q=>∃a ks,xs=[.ref a]/\H a=a_ (EC X.w a ks)/\ks.length<=1/\∀l,H l=b_->Q (.ref l) (q0r l (.lst (ks.map V.str)))):=by
 intro FR s σ H xs us Q I r h;let⟨a,ks,rfl,hH,h64,q⟩:=h;let⟨u,rfl,ru⟩:=vals1 r;cases ru
 let hS:jT X.w s.heap a ks:=(I.hok a _ hH).1;refine II (κ:=oneType') (λits s1=>P_ s1/\StrsAre its ks) (CN (I.ok.hd hc) hS h64 λh' d tk vs kp i=>⟨(I.drn d).kept (t':=tk) kp,i⟩) ?_;rintro its s1 ⟨I1,i⟩;let⟨l1,g⟩:=yC i;refine⟨⋯,λ_ _=>false,λ_ _ _ _ _ _ _ _=>rfl,λ_ _ _ _ _=>rfl,λA' s' kp h0 Q' E' hq=>?_,λs' kp i j hi hj Q' hq=>?_,λp h' e a1 a2 kp he=>?_⟩
 ·rw[Je i h0];show XM hq
 ·let⟨t,e1⟩:=g i hi;let⟨u,e2⟩:=g j hj;rw[e1,e2,show j=i by omega];show EE (by rw[decide_eq_false (List.lt_irrefl _)];show hq)
 ·let ep:p=YN its.length:=by
   match its,l1 with
   |[],_=>exact a1.eq_nil
   |[_],_=>exact List.perm_singleton.mp a1
   |_::_::_,l1=>simp at l1;omega
  let rv:=uT i (q:=p) λi hi=>by rw[ep]at hi;show y1P.mp hi
  let hz:(p.map λi=>ks.getD i "")=ks:=by rw[ep,l1];show List.ext_getElem (by simp) λi h1 h2=>by simp[h2]
  rw[hz]at rv;refine⟨.ref (c_ s1),_,I1.laid (t':=s1.toks) (o:=.lst (ks.map V.str)) kp (X1 _) ⟨?_,_,e,rv,he⟩,rfl,q _ I1.fresh⟩;rw[XR,YL];omega
def nS:PV->PH->Rs PV:=λx h=>match x with
 |.ref n=>match aV h n with
  |some ys=>match BY ys with
   |some ns=>if ns.length<=1 then .ok (.ref h.length) (h++[.lst (ns.map PV.str)]) else .bad
   |none=>.bad
  |none=>.bad
 |_=>.bad
theorem Gu{k:Nat}{p fh:Pos}(he:G_ e me)(hb:("sorted" : Str)∈C.bs)(Xs:("set" : Str)∈C.bs)(hg:Gl X "sorted" := by rfl)(Wl:Gl X "set" := by rfl)(xq:Yr [e] X.env=(false,q0j 0)::Yr [] X.env:=by rfl)(WH:(backTo fh (Yr [] X.env)).any (·.1)=false:=by rfl)(dj:Yr [.Call (.Name "set" p2) [e] [] fh] X.env=(false,eval (.Call (.Name "set" p2) [e] [] fh) X.env)::Yr [] X.env:=by rfl)(wo:(q0Q (Yr [] X.env)).any (·.1)=false:=by rfl):
  G_ (.Call (.Name "sorted" p) [.Call (.Name "set" p2) [e] [] fh] [] pos) (mUn nS me):=λc=>
 (DO (EG c.calm) hg (c.bn _ hb) PyProof.Rows.Boot.«sorted» (yX (BB (Gs c.calm) Wl (c.bn _ Xs) PyProof.Rows.Boot.«set» (yX (he c) Cd xq) nofun nofun xq WH) Cd dj) nofun nofun dj wo).imp λσ H Q h=>by
  let⟨φ,δ,h,rh,re,p⟩:=h;refine⟨φ,δ,h,rh,re,(post.bind p).imp ?_⟩;rintro v H1 ⟨φ1,x,h1,p1,t1,ab,ae,q1⟩;unfold nS at q1;split at q1
  ·rename_i n;let⟨a,rfl,ha⟩:=ae;split at q1
   ·rename_i ys ey;split at q1
    ·rename_i ns en;let⟨h64,q1⟩:=q1.ite;let⟨a',vs,ha',sq,gq⟩:=cJ ab ey;rw[ha]at ha';cases ha'
     rw[Ey en]at gq;rw[CI.mp gq]at sq;refine⟨a,ns,rfl,by rw[c.K];show sq,h64,λb hb=>?_⟩;refine⟨b,ns,rfl,bH,h64,λl hl=>?_⟩;let hK:Kp H1 (upd H1 b (EC X.w b ns)):=Kp.new hb;let q2:post C φ1 (upd H1 b (EC X.w b ns)) (.ok (.ref h1.length) (h1++[.lst (ns.map PV.str)])) Q:=λφ' v H' p t rh rv=>q1 φ' v H' p (hK.trans t) rh rv;show q2.lnew (ab.same (zT.upd hb)) (CI.mpr rfl) hl
    ·show q1.elim
   ·show q1.elim
  ·show q1.elim
theorem EH(e:h[n]?=a_ (.lst (ss.map PV.str)))(hl:ss.length<=1):nS (.ref n) h=.ok (.ref h.length) (h++[.lst (ss.map PV.str)]):=by
 let e1:aV h n=a_ (ss.map PV.str):=by simp[aV,e]
 simp only[nS,e1,Ex];rw[if_pos hl]
open PySem.SeqAt PySem.W
open Classical in
noncomputable def C1(b:Bool)(m:Nat)(ks ys:ve PV):v_ (ve PV):=if ks.length<1000000/\ks.length=ys.length/\OkN m ks/\(∀a∈ks.zip ys,∀c∈ks.zip ys,a.1=c.1->a.2=c.2) then a_ ((PySem.W.katRev b (nQ y0i (ks.zip ys))).map (·.2)) else b_
noncomputable def jK(f:Fn)(b:Bool)(kb:Nat)(ys:ve PV):ve PV->ve PV->PH->Rs PV
 |[],ks,h=>match C1 b kb ks ys with
  |some zs=>.ok (.ref h.length) (h++[.lst zs])
  |none=>.bad
 |x::xs,ks,h=>(f [x] h).bind λk h1=>jK f b kb ys xs (ks++[k]) h1
def Lw(C:MC)(X:Cx)(FR:e_ 0)(σ:St)(φ:ve o_)(H:Hp)(f:Fn)(b:Bool)(kb:Nat)(ys:ve PV)(Q:VK)(a z:o_)(kS:o_)(e1:Nat)(ks:ve n_)(e:Nat)(s':oa):Prop:=z<kS/\∃H' φ' h' zs ps,Inv X (FR++[(kS,seqObj "list" ks.toArray e),(a,seqObj "list" #[] e1)]) σ H' s'/\φ<+:φ'/\Kp H H'/\q0H h'/\aW zs ks/\RVs C φ' H' ps zs/\post C φ' H' (jK f b kb ys (ys.drop ks.length) ps h') Q
variable{A':q_}{kb:Nat}{pn:ve Str}
theorem Jj{k:Nat}{st:u_}{q:o_}{f:Fn}{σ:St}{us:ve V}{Q:VK}(c:q0n X)(D:Def C.K X.mg x st q fd pn)(G:q0d q fd pn (spM C 1 f))(hj:j+2<=k)(ry:C_ ys us)(rv:aW us its)(eA:A'=X.A.in1.in1)(fr:∀kS,a<=kS->X.s₀.heap.objs.size<=kS/\kS≠X.env.locals/\(∀x c,Z_ 0=a_ c->c≠kS)/\(∀p∈X.pn++FR,p.1≠kS)/\kS∉X.fs)(kS:o_)(e1:Nat)(ks:ve n_)(e:Nat)(s':oa)(y:n_)(hy:its[ks.length]?=a_ y)(hJ:Lw C X FR σ φ H f b kb ys Q a a kS e1 ks e s'):
  wpAny (fI X) A' (call (.ref q) [y]) (λv b6=>b6.heap.get? kS=a_ (seqObj "list" ks.toArray e)/\∀(h':r_) e',Zv kS b6.heap h'->h'.get? kS=a_ (seqObj "list" (ks++[v]).toArray e')->Lw C X FR σ φ H f b kb ys Q a a kS e1 (ks++[v]) e' { b6 with heap:=h'}) (λ_ _=>False) s':=by
 subst eA;let⟨hz,H',φ',h',zs,ps,I,pp,tt,rh,rz,rp,po⟩:=hJ;let ao:ks.length<its.length:=(XN.mp hy).1;let KP:us.length=its.length:=rv.length;let zx:ys.length=us.length:=ry.length;let gy:ys[ks.length]?=a_ (ys[ks.length]'⋯):=by simp
 let⟨u,hu,ru⟩:=ry.at gy;let⟨y',d0,Xm⟩:=rv.get hu;rw[hy]at d0;cases d0
 let hd:ys.drop ks.length=ys[ks.length]'⋯::ys.drop (ks.length+1):=drop_cons gy;rw[hd]at po;let yx:=c.K;let G':T_ CX0 j q fd pn (spM C 1 f):=by rw[yx];show G
 let D':Def X.K X.mg x st q fd pn:=by rw[yx];show D
 let ya:spM C 1 f [u] H' (λv H2=>∃φ2 p h2,φ'<+:φ2/\Kp H' H2/\RH C φ2 H2 h2/\RV C φ2 H2 p v/\post C φ2 H2 (jK f b kb ys (ys.drop (ks.length+1)) (ps++[p]) h2) Q) E0:=⟨φ',h',[ys[ks.length]'⋯],rh,⟨ru.mono pp tt,trivial⟩,rfl,post.bind po⟩;let hl:([y]:ve n_).length=pn.length:=G'.len _ _ _ _ ya;refine wpAny_call (y12 (G'.run X.A.in1.in1 X.stack s' H' ⟨[y],[]⟩ [y] [u] _ E0 ((c.room.mono hj).in1.in1) I.env0.in1.in1 (by
  have:=D'.bd s' [y] I.kIn (i_ hl)
  simpa using this) (.cons Xm .nil) ya) λr s2 hq=>?_)
 cases r with
 |error e=>exact hq.elim
 |ok fl=>
  cases fl with
  |next=>exact Z1 hq
  |brk=>exact Z1 hq
  |cont=>exact Z1 hq
  |ret v=>
   let⟨x2,H2,I2,W',φ2,p2,h2,xn,yo,ar,XE,Xb⟩:=I.after hq;let gk:=I2.pin (kS,seqObj "list" ks.toArray e) (XS _ (XS _ XY));let ga:=I2.pin (a,seqObj "list" #[] e1) (XS _ (XS _ (XW _ XY)));refine⟨gk.1,λg e' sb lh=>?_⟩;let fk:=fr kS (y1a hz);let W2:a≠kS:=Yj hz;let I3:Inv X (FR++[(a,seqObj "list" #[] e1)]) σ H2 s2:=I2.pins_of λp hp=>(X7.mp hp).elim (λz=>I2.pin p (XS _ (Yu _ z))) λz=>by rw[YC.mp z];show ga
   let I4:=I3.turned (t':=s2.toks) (it:=kS) (h':=g) (λb' o' hb hq=>(sb.2 b' hb).trans hq) gk.2.1 fk.2.1 (.inr fk.1) fk.2.2.1 (λp hp=>by
    rcases X7.mp hp with hp|hp
    ·show fk.2.2.2.1 p (Yu _ hp)
    ·rcases X7.mp hp with hp|hp
     ·show fk.2.2.2.1 p (XS _ hp)
     ·rw[YC.mp hp];show W2)
   refine⟨hz,H2,φ2,h2,zs++[x2],ps++[p2],I4.pins_of λp hp=>?_,pp.trans xn,tt.trans yo,ar,rz.append (.cons W' .nil),(rp.mono xn yo).snoc XE,?_⟩
   ·rcases X7.mp hp with hp|hp
    ·show I4.pin p (XS _ (Yu _ hp))
    ·rcases Yf.mp hp with rfl|hp
     ·show⟨lh,gk.2.1,fk.2.1,fk.2.2.2.2,qJ⟩
     ·rw[YC.mp hp];show I4.pin _ (XS _ (XS _ XY))
   ·rw[X6];show Xb
variable{b7:ve PV}
theorem EI(hl:b7.length=ys.length)(ok:OkN kb b7)(cs:∀a∈b7.zip ys,∀c∈b7.zip ys,a.1=c.1->a.2=c.2){p:W_ 0}(hp:p.Perm (YN ys.length))(ho:p.Pairwise (λi j=>(if b then ltN (b7.getD i .non) (b7.getD j .non) else ltN (b7.getD j .non) (b7.getD i .non))=false)):p.map (λi=>ys.getD i .non)=(PySem.W.katRev b (nQ y0i (b7.zip ys))).map (·.2):=by
 letI zs:=b7.zip ys;let Xg:zs.length=ys.length:=by change(b7.zip ys).length=_;simp[hl]
 let ix:∀i∈p,i<ys.length:=λi hi=>by simpa using hp.mem_iff.mp hi
 let eg:∀i,i<ys.length->zs.getD i (.non,.non)=(b7.getD i .non,ys.getD i .non):=λi hi=>by
  let h1:i<b7.length:=⋯;let h2:i<zs.length:=⋯;let h3:(b7.zip ys)[i]?=a_ (b7[i],ys[i]):=by rw[y0Y];show⟨by simp[h1],by simp[hi]⟩
  change(b7.zip ys).getD i _=_
  simp[h1,hi,h3]
 let wq:(p.map λi=>zs.getD i (.non,.non)).Perm zs:=IJ (by rw[Xg];show hp);let hm:zs.map (·.1)=b7:=by
  change(b7.zip ys).map y0i=b7
  show List.map_fst_zip ⋯
 let hsz:∀y∈zs,y.1∈b7:=λy hy=>by rw[<-hm];show Yt.mpr ⟨y,hy,rfl⟩
 let inj:∀a∈zs,∀c∈zs,enc (y0i a)=enc (y0i c)->a=c:=λa ha c hc e=>by let e1:=ok.inj _ (hsz a ha) _ (hsz c hc) e;show Prod.ext e1 (cs a ha c hc e1)
 let e2:p.map (λi=>ys.getD i .non)=(p.map λi=>zs.getD i (.non,.non)).map (·.2):=by rw[Y2];show y0I λi hi=>by change _=(zs.getD i _).2;rw[eg i (ix i hi)]
 rw[e2];let key:∀(R:Nat->Nat->Bool),p.Pairwise (λi j=>R i j=false)->(∀i j,i<ys.length->j<ys.length->R i j=ltN (zs.getD j (.non,.non)).1 (zs.getD i (.non,.non)).1)->(p.map λi=>zs.getD i (.non,.non)).Pairwise (λx y=>ltN y.1 x.1=false):=λR h1 h2=>by rw[y07];show h1.imp_of_mem λ{i j} hi hj h=>by rw[<-h2 i j (ix i hi) (ix j hj)];show h
 cases b with
 |false=>
  congr 1;refine BW y0i inj wq (key (λi j=>ltN (b7.getD j .non) (b7.getD i .non)) ho λi j hi hj=>by rw[eg i hi,eg j hj])
 |true=>
  congr 1;let hr:(p.map λi=>zs.getD i (.non,.non)).reverse=nQ y0i zs:=by refine BW y0i inj ((ZF _).trans wq) ?_;rw[Zy,y07];show ho.imp_of_mem λ{i j} hi hj h=>by rw[eg i (ix i hi),eg j (ix j hj)];show h
  change _=(nQ y0i zs).reverse
  rw[<-hr,List.reverse_reverse]
section
variable{α:Type}
theorem Ou{key emb:α->PV}{xs:ve α}(h1:xs.length<1000000)(ok:OkN m (xs.map key))(hc:∀a∈xs,∀c∈xs,key a=key c->emb a=emb c):∃os:ve α,os.Perm xs/\os.Pairwise (λa c=>ltN (key c) (key a)=false)/\C1 false m (xs.map key) (xs.map emb)=a_ (os.map emb):=by
 let ez:(xs.map key).zip (xs.map emb)=xs.map λx=>(key x,emb x):=by
  induction xs with
  |nil=>rfl
  |cons x xs ih=>simp only[YA,List.zip_cons_cons];rw[ih (by simp at h1;omega) ⟨ok.m3,λy hy=>ok.ky y (XW _ hy),λy hy=>ok.fk y (XW _ hy),λy hy z hz=>ok.lt y (XW _ hy) z (XW _ hz)⟩ (λa ha c af=>hc a (XW _ ha) c (XW _ af))]
 let uv:∀(x:α)(ys:ve α),Ao y0i (key x,emb x) (ys.map λy=>(key y,emb y))=(Ao key x ys).map λy=>(key y,emb y):=λx ys=>by
  induction ys with
  |nil=>rfl
  |cons y ys ih=>
   change(if ltN (key y) (key x)=true then(key y,emb y)::Ao y0i (key x,emb x) (ys.map λy=>(key y,emb y)) else(key x,emb x)::(key y,emb y)::ys.map λy=>(key y,emb y))=(if ltN (key y) (key x)=true then y::Ao key x ys else x::y::ys).map λy=>(key y,emb y)
   split
   ·rw[ih];rfl
   ·rfl
 let srt:∀ys:ve α,nQ y0i (ys.map λy=>(key y,emb y))=(nQ key ys).map λy=>(key y,emb y):=λys=>by
  induction ys with
  |nil=>rfl
  |cons y ys ih=>
   change Ao y0i (key y,emb y) (nQ y0i (ys.map λy=>(key y,emb y)))=_
   rw[ih,uv];rfl
 refine⟨nQ key xs,oR key xs,oS key xs,?_⟩;unfold C1;rw[if_pos ⟨i_ h1,by simp,ok,λa ha c af e=>by rw[ez]at ha af;let⟨x,hx,rfl⟩:=Yt.mp ha;let⟨y,hy,rfl⟩:=Yt.mp af;show hc x hx y hy e⟩,ez,srt]
 change a_ (((nQ key xs).map λy=>(key y,emb y)).map Prod.snd)=_
 rw[Y2];rfl
theorem Hu{key emb:α->PV}{f:Fn}{m:Nat}{ys zs:ve PV}{Q:PV->PH->Prop}:∀(r done:ve α)(h:PH),(∀d∈r,∀h(Q:PV->PH->Prop),(∀h',q0x 0->Q (key d) h')->(f [emb d] h).W Q)->
  C1 false m ((done++r).map key) ys=a_ zs->(∀h',q0x 0->Q (.ref h'.length) (h'++[.lst zs]))->(jK f false m ys (r.map emb) (done.map key) h).W Q
 |[],done,h,_,hs,k=>by rw[YY]at hs;simp only[y1b,jK,hs,jV];show k h (Ext.refl h)
 |x::r,done,h,hf,hs,k=>by
  rw[YA];unfold jK;rw[G9];refine hf x XY h _ λh1 x1=>?_;let e:done.map key++[key x]=(done++[x]).map key:=by simp
  rw[e];show Hu r (done++[x]) h1 (λd hd=>hf d (XW _ hd)) (by rw[XU];show hs) λh' x2=>k h' (x1.trans x2)
end
open PySem.SeqAt
def eqL(f:PV->PV->v_ Bool):ve PV->ve PV->v_ Bool
 |x::xs,y::ys=>match f x y,eqL f xs ys with
  |some b,a_ c=>a_ (b&&c)
  |_,_=>b_
 |[],[]=>a_ true
 |_,_=>a_ false
theorem Lx{f:PV->PV->v_ Bool}:∀{xs ys:ve PV}{b:Bool},eqL f xs ys=a_ b->
  ∃g:Nat->Bool,(∀(j:Nat)(x y:PV),xs[j]?=a_ x->ys[j]?=a_ y->f x y=a_ (g j))/\b=((YN (min xs.length ys.length)).all g&&xs.length == ys.length)
 |[],[],b,e=>⟨λ_=>true,λj x y h=>(by simp at h),by cases e;rfl⟩
 |[],y::ys,b,e=>⟨λ_=>true,λj x y h=>(by simp at h),by cases e;simp⟩
 |x::xs,[],b,e=>⟨λ_=>true,λj x y _ h=>(by simp at h),by cases e;simp⟩
 |x::xs,y::ys,b,e=>by
  unfold eqL at e;split at e
  ·rename_i b' c e1 e2;cases e
   let⟨g,h1,h2⟩:=Lx e2;refine⟨λj=>match j with|0=>b'|j+1=>g j,λj x y hx hy=>?_,?_⟩
   ·cases j with
    |zero=>simp at hx hy;subst hx hy;show e1
    |succ j=>exact h1 j x y (i_ hx) (i_ hy)
   ·rw[h2];let e3:min (x::xs).length (y::ys).length=min xs.length ys.length+1:=by simp only[YM];omega
    rw[e3,List.range_succ_eq_map,y0r,y16,Bool.and_assoc];simp[Function.comp_def]
  ·cases e
theorem CO{f:PV->PV->v_ Bool}{R:PV->V->Prop}(hf:∀x y v b,f x y=a_ b->R x v->R y v->b=true):∀{xs ys:ve PV}{vs:ve V}{b:Bool},(∀(j:Nat)(x:PV),xs[j]?=a_ x->∃v,vs[j]?=a_ v/\R x v)->(∀(j:Nat)(x:PV),ys[j]?=a_ x->∃v,vs[j]?=a_ v/\R x v)->xs.length=ys.length->eqL f xs ys=a_ b->b=true
 |[],[],_,b,_,_,_,e=>by cases e;rfl
 |[],_::_,_,_,_,_,h,_=>by simp at h
 |_::_,[],_,_,_,_,h,_=>by simp at h
 |x::xs,y::ys,vs,b,h1,h2,h,e=>by
  unfold eqL at e;split at e
  ·rename_i b' c e1 e2;cases e
   let⟨v,hv,rx⟩:=h1 0 x rfl;let⟨v',l6,ry⟩:=h2 0 y rfl;rw[hv]at l6;cases l6
   rw[hf x y v b' e1 rx ry,CO hf (vs:=vs.tail) (λj z hz=>by simpa using h1 (j+1) z hz) (λj z hz=>by simpa using h2 (j+1) z hz) (i_ h) e2]
   rfl
  ·cases e
def eqF:Nat->PV->PV->PH->v_ Bool
 |0,x,y,h=>kY x y h
 |n+1,x,y,h=>match kY x y h with
  |some b=>a_ b
  |none=>match x,y with
   |.tup xs,.tup ys=>eqL (λa b=>eqF n a b h) xs ys
   |x,y=>match gG x h,gG y h with
    |some xs,a_ ys=>eqL (λa b=>eqF n a b h) xs ys
    |_,_=>b_
def sT:PV->PV->PH->Rs PV:=λx y h=>ofB ((eqF 3 x y h).map not) h
section
variable{k:Nat}{σ:St}
theorem sX:∀{xs:ve PV}{vs:ve V},C_ xs vs->xs.length=vs.length/\∀(j:Nat)(x:PV),xs[j]?=a_ x->∃v,vs[j]?=a_ v/\y_ x v
 |[],[],_=>⟨rfl,λj x h=>by simp at h⟩
 |x::xs,v::vs,r=>by
  let⟨l,q⟩:=sX r.2;refine⟨by simp[l],λj y hy=>?_⟩;cases j with
  |zero=>simp at hy;subst hy;show⟨v,rfl,r.1⟩
  |succ j=>simpa using q j y (i_ hy)
 |[],_::_,r=>r.elim
 |_::_,[],r=>r.elim
theorem C2(I:P_ s)(hK:X.K=C.K)(rh:H_ h){x:PV}{w:V}(e:kY x y h=a_ b)(rx:y_ x w)(ry:y_ y w):b=true:=by
 rcases oM rh rx ry e with⟨d,e',q1,q2,q3,rfl⟩|⟨d,e',⟨a,vs,hw,sa,ra⟩,⟨a',us,hw',lj,ra'⟩,q3,rfl⟩
 ·rw[<-hK]at q1 q2;rw[rD I 40 d e' w q3 q1 q2];show nL _
 ·rw[<-hK]at sa lj ra ra';subst hw;cases hw'
  let ev:=I.list_inj sa lj;subst ev;let e2:=Av I q3 ra ra';subst e2;have:=nL (.tup d);simpa[eqD] using this
theorem Ly(I:P_ s)(hK:X.K=C.K)(rh:H_ h):∀(n:Nat)(x y:PV)(w:V)(b:Bool),eqF n x y h=a_ b->y_ x w->y_ y w->b=true:=by
 intro n
 induction n with
 |zero=>intro x y w b e rx ry;show C2 I hK rh e rx ry
 |succ n ih=>
  intro x y w b e rx ry;unfold eqF at e;split at e
  ·rename_i b' e2;cases e
   show C2 I hK rh e2 rx ry
  ·split at e
   ·rename_i xs ys _;let⟨a,vs,rfl,q,r⟩:=rx;let⟨a',us,hw,q',r'⟩:=ry;cases hw
    rw[<-hK]at q q';let ev:=I.tuple_inj q q';subst ev;let⟨l1,a1⟩:=sX r;let⟨l2,a2⟩:=sX r';show CO (R:=RV C φ H) (λx y v b=>ih x y v b) a1 a2 ⋯ e
   ·split at e
    ·rename_i xs ys h1 h2;let⟨a,vs,rfl,sa,ra⟩:=kW rh rx h1;let⟨a',us,hw,sb,rb⟩:=kW rh ry h2;cases hw
     rw[<-hK]at sa sb;let ev:=I.list_inj sa sb;subst ev;let⟨l1,a1⟩:=sX ra;let⟨l2,a2⟩:=sX rb;show CO (R:=RV C φ H) (λx y v b=>ih x y v b) a1 a2 ⋯ e
    ·cases e
theorem EJ(hn:∀(A:q_)(x y:PV)(v u:V)(i j:n_)(b:Bool),A.units+42+n<cLine->eqF n x y h=a_ b->y_ x v->y_ y u->RelV v i->RelV u j->EqAt A s i j b){vs us:ve V}{is js:ve n_}(hu:A.units+42+n<cLine)(e:eqL (λa b=>eqF n a b h) xs ys=a_ b)(r:C_ xs vs)(r':C_ ys us)(rv:aW vs is)(cf:aW us js):
  ∃g:Nat->Bool,is.toArray.size=xs.length/\js.toArray.size=ys.length/\(∀(j:Nat)(h1:j<is.toArray.size)(h2:j<js.toArray.size),EqAt A s is.toArray[j] js.toArray[j] (g j))/\b=((YN (min is.toArray.size js.toArray.size)).all g&&is.toArray.size == js.toArray.size):=by
 let⟨g,hg,hb⟩:=Lx e;let⟨l1,a1⟩:=sX r;let⟨l2,a2⟩:=sX r';let l3:=rv.length;let l4:=cf.length;let z1:is.toArray.size=xs.length:=by simp;omega
 let z2:js.toArray.size=ys.length:=by simp;omega
 refine⟨g,z1,z2,λj h1 h2=>?_,by rw[z1,z2];show hb⟩;let k1:j<xs.length:=⋯;let k2:j<ys.length:=⋯;let⟨v,hv,q1⟩:=a1 j xs[j] (Yd k1);let⟨u,kg,q2⟩:=a2 j ys[j] (Yd k2);let⟨i,hi,q3⟩:=rv.get hv;let⟨i',bf,q4⟩:=cf.get kg;let e1:is.toArray[j]=i:=by have:=(XN.mp hi).2;simpa using this
 let e2:js.toArray[j]=i':=by have:=(XN.mp bf).2;simpa using this
 rw[e1,e2];show hn A _ _ v u i i' (g j) hu (hg j _ _ (Yd k1) (Yd k2)) q1 q2 q3 q4
theorem Lz(I:P_ s)(hK:X.K=C.K)(rh:H_ h)(n:Nat)(hn:∀(A:q_)(x y:PV)(v u:V)(i j:n_)(b:Bool),A.units+42+n<cLine->eqF n x y h=a_ b->y_ x v->y_ y u->RelV v i->RelV u j->EqAt A s i j b)
  (A:q_) (x y:PV) (v u:V) (i j:n_) (b:Bool) (hu:A.units+43+n<cLine) (e2:kY x y h=b_) (e:eqF (n+1) x y h=a_ b) (rx:y_ x v) (ry:y_ y u) (r1:RelV v i) (r2:RelV u j):
  RcAt A s i j b/\RcNeAt A s i j (!b)/\∃a a',i=.ref a/\j=.ref a'/\v=.ref a/\u=.ref a':=by
 unfold eqF at e;rw[e2]at e;simp only at e;split at e
 ·rename_i xs ys;let⟨a,vs,rfl,q,r⟩:=rx;let⟨a',us,rfl,q',r'⟩:=ry;cases r1;cases r2;rw[<-hK]at q q';let⟨its,rv,p,_⟩:=I.tuple q;let⟨its',aw,p',_⟩:=I.tuple q';let⟨g,z1,z2,el,hb⟩:=EJ hn (A:=A.in1) (by change A.units+1+42+n<cLine;omega) e r r' rv aw;rw[hb];show⟨RcAt.tuples p p' ⋯ el,RcNeAt.tuples p p' ⋯ el,a,a',rfl,rfl,rfl,rfl⟩
 ·split at e
  ·rename_i xs ys h1 h2;let⟨a,vs,rfl,sa,ra⟩:=kW rh rx h1;let⟨a',us,rfl,sb,rb⟩:=kW rh ry h2;cases r1;cases r2;rw[<-hK]at sa sb;let⟨its,rv,p,_⟩:=I.list sa;let⟨its',aw,p',_⟩:=I.list sb;let⟨g,z1,z2,el,hb⟩:=EJ hn (A:=A.in1) (by change A.units+1+42+n<cLine;omega) e ra rb rv aw;refine⟨?_,?_,a,a',rfl,rfl,rfl,rfl⟩
   all_goals by_cases hl:its.toArray.size=its'.toArray.size
   all_goals first
    |rw[hb,<-hl,Nat.min_self,beq_self_eq_true,Bool.and_true]
    |rw[hb,beq_eq_false_iff_ne.mpr hl,Bool.and_false]
   ·intro prog w E Q hq;show eq_listAt p.isList p'.isList hl ⋯ el hq
   ·intro prog w E Q hq;show eq_list_lengthsAt p.isList p'.isList (i_ hl) ⋯ hq
   ·show RcNeAt.lists p.isList p'.isList hl ⋯ el
   ·show RcNeAt.lists_lengths p.isList p'.isList (i_ hl) ⋯
  ·cases e
theorem Rz(I:P_ s)(hK:X.K=C.K)(rh:H_ h):∀(n:Nat)(A:q_)(x y:PV)(v u:V)(i j:n_)(b:Bool),A.units+42+n<cLine->eqF n x y h=a_ b->y_ x v->y_ y u->RelV v i->RelV u j->EqAt A s i j b:=by
 let base:∀(A:q_)(x y:PV)(v u:V)(i j:n_)(b:Bool),A.units+42<cLine->kY x y h=a_ b->y_ x v->y_ y u->RelV v i->RelV u j->EqAt A s i j b:=by
  intro A x y v u i j b hu e rx ry r1 r3;rcases oM rh rx ry e with⟨d,e',q1,q2,q3,rfl⟩|⟨d,e',q1,q2,q3,rfl⟩
  ·show Kk I (n:=40) q3 ⋯ (by rw[hK];show q1) (by rw[hK];show q2) r1 r3
  ·show VB I q3 hu (by rw[hK];show q1) (by rw[hK];show q2) r1 r3
 intro n
 induction n with
 |zero=>intro A x y v u i j b hu e;show base A x y v u i j b ⋯ e
 |succ n ih=>
  intro A x y v u i j b hu e rx ry r1 r2;cases e2:kY x y h with
  |some b'=>
   unfold eqF at e;rw[e2]at e;cases e
   show base A x y v u i j b ⋯ e2 rx ry r1 r2
  |none=>
   let⟨h1,_,a,a',rfl,rfl,rfl,rfl⟩:=Lz I hK rh n ih A x y v u i j b ⋯ e2 e rx ry r1 r2;refine iR h1 (λz=>?_) (λf t z=>by cases z);cases z
   show Ly I hK rh (n+1) x y _ b e rx ry
theorem LA{x:PV}(e:eqF 3 x y h=a_ b):kY x y h=a_ b\/kY x y h=b_:=by
 unfold eqF at e;split at e
 ·rename_i b' e2;cases e
  show .inl e2
 ·show .inr (by assumption)
theorem CP:q0k (YD .NotEq) sT:=λc=>by
 intro FR s σ H x y v u Q I rx ry hq;let⟨φ,h,p,q,rh,rp,rq,po⟩:=hq;let⟨b0,e0,po⟩:=po.ofB;let⟨b,e,rfl⟩:=Yo.mp e0;let hu:=c.hu64;rcases LA e with e2|e2
 ·refine KA c FR s σ H x y v u Q I rx ry ⟨φ,h,p,q,rh,rp,rq,?_⟩;unfold vNe;rw[e2];show po
 ·show(Lz I c.K rh 2 (Rz I c.K rh 2) X.A p q x y v u b ⋯ e2 e rp rq rx ry).2.1 X.prog X.w X.xe _ ⟨.bl _,H,I,rfl,M_ rfl⟩
end
open PySem.SeqAt PySem.W
theorem Aw{κ β:Type}[DecidableEq κ]{k:κ}{p:β}:∀{xs:ve (κ×β)}{j:Nat},(xs.map (·.1)).Nodup->xs[j]?=a_ (k,p)->xs.eraseIdx j=xs.filter λx=>decide (x.1≠k)
 |[],j,_,h=>by simp at h
 |x::r,0,hn,h=>by
  simp only[List.getElem?_cons_zero,Option.some.injEq]at h;subst h;rw[YA,Z7]at hn;rw[List.eraseIdx_cons_zero,List.filter_cons];simp only[ne_eq,not_true_eq_false,decide_false,YG,if_false]
  symm
  rw[y1g];intro y hy;show decide_eq_true λe=>hn.1 (Yt.mpr ⟨y,hy,e⟩)
 |x::r,j+1,hn,h=>by rw[Y4]at h;rw[YA,Z7]at hn;let hx:¬ x.1=k:=λe=>hn.1 (e▸Yt.mpr ⟨(k,p),Yv h,rfl⟩);rw[y1f,List.filter_cons,Aw hn.2 h];simp[hx]
theorem Ax{α β:Type}(f:α->β):∀(l:ve α)(i:Nat),(l.map f).eraseIdx i=(l.eraseIdx i).map f
 |[],i=>by simp
 |x::r,0=>rfl
 |x::r,i+1=>by rw[YA,y1f,y1f,YA,Ax f r i]
section
variable{K:Type}[DecidableEq K]{knd:HeapKind prog w K}
theorem CQ{d:o_}{xs:ve (K×o_×n_)}{k:K}{p:o_×n_}{Q:v_ y0o->oa->Prop}(hu:knd.room A)(ak:knd.is s.heap k a)(hm:s.heap.DictOfH knd d xs)(hp:q1g k=a_ p)(hz:xs.length<=X5)(h:∀h',h'.DictOfH knd d (xs.filter λx=>decide (x.1≠k))->Zv d s.heap h'->Q (a_ (entryOfKey knd (k,p))) {s with heap:=h',toks:=s.toks+knd.draws k}):
  x_ (Builtin.Dict.takeOut d (.ref a)) Q E s:=by
 let⟨o,es,ep,ho,hc,hd,he,mn,hn⟩:=hm;unfold Builtin.Dict.takeOut
 try with_reducible refine YZ ?_
 refine XJ (knd.pyHash hu ak ?_);refine XJ (wpAny_dictFind_heap (s:={ s with toks:=s.toks+knd.draws k}) hu ak ho hd he mn hn ?_ ?_)
 ·intro iu;rw[atKey_none_of_get iu]at hp;cases hp
 ·intro j q hj;let e1:=atKey_of_get hn hj;rw[hp]at e1;cases e1
  refine XJ (Zp (s:={ s with toks:=s.toks+knd.draws k}) ho hd ?_);rw[entry_at he j,hj];refine XJ (wpAny_updateDictKeys (hz:=by let e:=size_of_entries he;omega) (hf:=by
   have:(es.eraseIdxIfInBounds j).size<=es.size:=by let⟨l⟩:=es;simp only[List.eraseIdxIfInBounds_toArray,X3];show List.length_eraseIdx_le _ _
   show Nat.le_succ_of_le this) (s:={ s with toks:=s.toks+knd.draws k}) ho hd (XM (h _ ⟨_,_,ep+1,YR _ ho (Obj.isFreed_of_dict (y0p hd _)),
   hc.mapDictKeys _,y0p hd _,?_,?_,?_⟩ (YB ..))))
  ·rw[Array.toList_eraseIdxIfInBounds,he,<-Aw hn hj,Ax]
  ·intro x hx;show knd.keeps (mn x (List.mem_filter.mp hx).1) ho hd (YB ..)
  ·show(List.Sublist.map _ List.filter_sublist).nodup hn
theorem Ay(knd:HeapKind prog w K)(d a:o_):MeetsIn prog w (Builtin.«dict.pop» ⟨[.ref d,.ref a],[]⟩) (λA R s=>knd.room A.in1/\∃k xs p,knd.is s.heap k a/\s.heap.DictOfH knd d xs/\xs.length<=X5/\q1g k=a_ p/\
   ∀h',h'.DictOfH knd d (xs.filter λx=>decide (x.1≠k))->Zv d s.heap h'->R (.ok (.ret p.2)) {s with heap:=h',toks:=s.toks+knd.draws k}):=
 .of_wp λA R s ⟨hu,k,xs,p,ak,hm,hz,hp,r⟩=>by
  unfold Builtin.«dict.pop»;refine XJ ?_;unfold y1O;refine XJ (y0T hm.typeIs (show z_ (pure (d,YH a,b_)) _ _ s from XM ?_))
  let kp:(keyPart (YH a)).isSome=false:=rfl;simp only[kp,YG,if_false];let⟨o,es,ep,ho,hc,hd,he,mn,hn⟩:=id hm;let ne:es.isEmpty=false:=by
   let e1:=size_of_entries he;cases xs with
   |nil=>cases hp
   |cons x t=>
    rw[YM]at e1;have:es≠#[]:=λe=>by rw[e]at e1;cases e1
    simpa using this
  refine XJ (Zp ho hd ?_);rw[ne];refine XJ (XM ?_);simp only[YG,if_false];refine XJ (CQ hu ak hm hp hz λh' q1 q2=>?_);simp only[Option.isNone_some,YG,if_false];show XJ (wpAny_letGo (XM ⟨_,rfl,r h' q1 q2⟩))
end
def C3:PV->ve PV->PH->Rs PV:=λx ps h=>match x,ps with
 | .ref n,[y]=>if y.isKt=true then match bJ h n with
   |some kvs=>match bR kvs y with
    |some p=>.ok p (h.set n (.dD (xX kvs y)))
    |none=>.bad
   |none=>.bad
  else .bad
 |_,_=>.bad
theorem HD.drop{ks:ve (PV×o_×V)}{xs:ve (PV×o_×n_)}(r:q0V 0)(rx:B' ks xs)(y:PV):∃ay,RKd C φ H (xX kvs y) ay/\B' ay (xs.filter λx=>decide (x.1≠y)):=by
 unfold RKd at r;unfold RKd
 induction r generalizing xs with
 |nil=>cases rx;show⟨[],.nil,.nil⟩
 | @cons p q ps qs h t ih=>
  cases rx with
  | @cons _ z _ zs hz tz=>
   let⟨ay,i1,i2⟩:=ih tz;let eq1:p.1=q.1:=h.1;let eq2:q.1=z.1:=hz.1;unfold xX;rw[List.filter_cons,List.filter_cons];by_cases e:p.1=y
   ·let e':z.1=y:=by rw[<-eq2,<-eq1];show e
    simp only[e,e',ne_eq,not_true_eq_false,decide_false,YG,if_false];show⟨ay,i1,i2⟩
   ·let e':¬ z.1=y:=λw=>e (by rw[eq1,eq2];show w);simp only[e,e',ne_eq,not_false_eq_true,decide_true,if_true];show⟨q::ay,.cons h i1,.cons hz i2⟩
theorem Ov{k:Nat}(c:q0n X):MtR X "dict.pop" (rM C C3):=λFR s σ H x xs v us Q I rx rs h=>by
 let⟨φ,h,p,ps,rh,rp,kh,po⟩:=h;unfold C3 at po;split at po
 ·rename_i n y;let⟨a,rfl,ha⟩:=rp;cases rx
  let⟨yv,rfl,ry⟩:=kh.one;let⟨yu,rfl,dz⟩:=vals1 rs;let⟨hk,po⟩:=po.ite;split at po
  ·rename_i kvs ht;let⟨b,rfl⟩:=rE hk ry;cases dz
   let⟨⟨ks,xs,r,bx,hz,hm,dd⟩,mu,nt⟩:=q0W 0;let hv:=HD.val (a:=a) r bx y;cases e2:bR kvs y with
   |none=>rw[e2]at po;show po.elim
   |some p2=>
    rw[e2]at hv po;cases e3:q1g y with
    |none=>rw[e3]at hv;show hv.elim
    |some z=>
     rw[e3]at hv;let⟨v',ae,b8⟩:=hv;refine call_meetsIn PySem.F.slot_dict_pop dd.typeIs PySem.F.entry_dict_pop (PySem.F.args_dict_pop_2 _ _) (Ay (BP X.prog X.w) a b) ⟨c.room6,y,xs,z,BU I c.K hk ry,dd,hz,e3,λh' fe hs=>?_⟩;let⟨ay,r1,r2⟩:=HD.drop r bx y;let⟨o,es,ep,hq,h2,h3,h4,_,h5⟩:=fe;let cq:ay.length<=X5:=by
      let e1:=YV r1;let e4:=YV r;let e5:=YV bx;let e6:(xX kvs y).length<=kvs.length:=by unfold xX;show y1F _ _
      omega
     refine⟨v',q0r a (dDO C.w a ay),rB I mu hs ⟨o,hq⟩ ⟨⟨cq,hm,_,r2,o,es,ep,hq,h2,h3,?_,h5⟩,⟨o,hq⟩,?_⟩,ae,?_⟩
     ·rw[h4,<-c.w];rfl
     ·rintro g1 g2 ⟨z1,z2,ws,z3,o',dg,gg,z4,z5⟩ keep;show⟨z1,z2,ws,z3,o',dg,gg,keep _ z4,z5⟩
     ·show po φ v' _ X0 (Kp.upd nt) (rh.write ha nt ⟨ay,bH,RKd.mono X0 (Kp.upd nt) r1⟩) (b8.mono X0 (Kp.upd nt))
  ·show po.elim
 ·show po.elim
theorem RA{k:Nat}:MtG C k X "dict" pS "dict.pop" C3:=λc=>⟨Ov c,Al c⟩
theorem LB(ht:bJ h n=a_ kvs)(hk:y.isKt=true)(e:bR kvs y=a_ p):C3 (.ref n) [y] h=.ok p (h.set n (.dD (xX kvs y))):=by unfold C3;simp only[hk,if_true,ht,e]
structure ZA(z TI TO i1 i2:o_)(f1 f2:ve o_):Prop where
 TIz:TI≠z
 TOz:TO≠z
 i1z:i1≠z
 i2z:i2≠z
 TITO:TI≠TO
 TIi1:TI≠i1
 TIi2:TI≠i2
 TOi1:TO≠i1
 TOi2:TO≠i2
 i12:i1≠i2
 a1:∀b∈f1,b≠z/\b≠TO/\b≠i2
 a2:∀b∈f2,b≠z/\b≠TO/\b≠i1
variable{P1 P2:Nat->n_->Prop}{S1 S2:Nat->r_->Prop}{i1 i2:o_}{n1 n2:Nat}
section
variable{z TI TO:o_}{f1 f2:ve o_}
theorem Ow(D1:q0Z i1 f1 n1 P1 S1)(D2:q0Z i2 f2 n2 P2 S2)(Z:ZA z TI TO i1 i2 f1 f2){k:Nat}{a b:n_}(hz:IsZip s.heap z TI TO .none)(bh:IsPair s.heap TI (.ref i1) (.ref i2))(bg:IsPair s.heap TO a b)(s1:S1 k s.heap)(s2:S2 k s.heap)(k1:k<n1)(k2:k<n2)(hQ:∀x y h' tk,P1 k x->P2 k y->IsZip h' z TI TO (rawInt (c_ s))->IsPair h' TO x y->S1 (k+1) h'->S2 (k+1) h'->IsPair h' (c_ s) x y->h'.objs.size=(c_ s)+1->
   (∀c o,c≠z->c≠TO->c≠i1->c≠i2->s.heap.get? c=a_ o->h'.get? c=a_ o)->Q (.ref (c_ s)) {s with heap:=h',toks:=tk}):
  x_ (Builtin.«zip.__next__» ⟨[.ref z],[]⟩) (λfin s'=>∃v,fin=.done (.ret v)/\Q v s') E s:=by
 change z_ (field (.ref z) 2 >>= _) _ _ _
 refine XJ (ZL hz rfl (x:=.bool false) rfl ?_)
 change z_ (field (.ref z) 3 >>= _) _ _ _
 refine XJ (ZL hz rfl (x:=.ref TI) rfl ?_);refine XJ (y1m bh rfl ?_)
 change z_ (ZN (.ref z) >>= _) _ _ _
 refine XJ ?_;unfold ZN;refine XJ (ZL hz rfl (x:=.none) rfl (XM ?_));simp only[if_true];refine XJ (y0f ?_);refine XJ (ZL hz rfl (x:=.ref TO) rfl ?_);refine XJ (y0W hz (by simp) λh₁ jr sh=>?_)
 replace jr:IsZip h₁ z TI TO .ellipsis:=jr
 let e1:=sh.extBut;let qy:S1 k h₁:=D1.frame _ _ _ s1 λb hb o e=>e1 b o (Z.a1 b hb).1 e;let vb:S2 k h₁:=D2.frame _ _ _ s2 λb hb o e=>e1 b o (Z.a2 b hb).1 e;refine XJ ?_;simp only[List.zipIdx_cons,List.zipIdx_nil,List.forIn_cons,List.forIn_nil];refine XJ (XJ (wpAny_onRaise ?_))
 change z_ (y00 (.ref i1) >>= _) _ _ _
 refine XJ (D1.item k _ _ _ k1 qy λx h₂ t2 px y6 j3=>XM ?_);let e2:=j3.extBut;let uz:S2 k h₂:=D2.frame _ _ _ vb λb hb o e=>e2 b o (Z.a2 b hb).2.2 e;let gv:IsPair h₂ TO a b:=e2 _ _ Z.TOi1 (e1 _ _ Z.TOz bg);refine XJ (y1m gv rfl ?_);refine XJ (wpAny_updateSeq_pair gv λh₃ jl j5=>?_)
 replace jl:IsPair h₃ TO x b:=jl
 let e3:=j5.extBut;let WE:S1 (k+1) h₃:=D1.frame _ _ _ y6 λb hb o e=>e3 b o (Z.a1 b hb).2.1 e;let wy:S2 k h₃:=D2.frame _ _ _ uz λb hb o e=>e3 b o (Z.a2 b hb).2.1 e;refine XJ (wpAny_letGo (XM ?_));refine XJ (XJ (wpAny_onRaise ?_))
 change z_ (y00 (.ref i2) >>= _) _ _ _
 refine XJ (D2.item k _ _ _ k2 wy λy h₄ t4 py Xn qc=>XM ?_);let e4:=qc.extBut;let Wt:S1 (k+1) h₄:=D1.frame _ _ _ WE λb hb o e=>e4 b o (Z.a1 b hb).2.2 e;let mz:IsPair h₄ TO x b:=e4 _ _ Z.TOi2 jl;refine XJ (y1m mz rfl ?_);refine XJ (wpAny_updateSeq_pair mz λh₅ jg pj=>?_)
 replace jg:IsPair h₅ TO x y:=jg
 let e5:=pj.extBut;refine XJ (wpAny_letGo (XM (XM ?_)));refine XJ (y1m jg rfl ?_);refine XJ (wpAny_newTuple ?_);let hsz:h₅.objs.size=(c_ s):=by let q4:=qc.1;let q3:=j5.1;let q2:=j3.1;let q1:=sh.1;rw[pj.1];show q4.trans (q3.trans (q2.trans q1))
 let zm:IsZip h₅ z TI TO .ellipsis:=e5 _ _ Z.TOz.symm (e4 _ _ Z.i2z.symm (e3 _ _ Z.TOz.symm (e2 _ _ Z.i1z.symm jr)));let WS:∀c o,c≠z->c≠TO->c≠i1->c≠i2->s.heap.get? c=a_ o->h₅.get? c=a_ o:=λc o c1 c2 c3 c4 e=>e5 _ _ c2 (e4 _ _ c4 (e3 _ _ c2 (e2 _ _ c3 (e1 _ _ c1 e))));let Wv:S1 (k+1) h₅:=D1.frame _ _ _ Wt λb hb o e=>e5 b o (Z.a1 b hb).2.1 e;let Xz:S2 (k+1) h₅:=D2.frame _ _ _ Xn λb hb o e=>e5 b o (Z.a2 b hb).2.1 e;let qk:z<h₅.objs.size:=XZ zm
 change z_ (y1X (.ref z) (.ref h₅.objs.size) >>= _) _ _ _
 refine XJ ?_;unfold y1X;let Wr:IsZip (h₅.push {cls:=.type "tuple",data:=.seq #[x,y]}) z TI TO .ellipsis:=XO _ zm;refine XJ (y0W Wr (by simp) λh₇ vt tm=>?_)
 replace vt:IsZip h₇ z TI TO (rawInt h₅.objs.size):=vt
 refine y0W vt (by simp) λh₈ rj wu=>?_
 replace rj:IsZip h₈ z TI TO (rawInt h₅.objs.size):=rj
 let up:∀c o,c≠z->h₅.get? c=a_ o->h₈.get? c=a_ o:=λc o c1 e=>wu.extBut _ _ c1 (tm.extBut _ _ c1 (XO _ e));let yh:IsPair h₈ h₅.objs.size x y:=wu.extBut _ _ (Za qk) (tm.extBut _ _ (Za qk) (q0O 0));let w9:h₈.objs.size=h₅.objs.size+1:=by rw[wu.1,tm.1,Zn]
 rw[hsz]at rj yh w9;refine XM ⟨_,rfl,?_⟩
 change Q (.ref h₅.objs.size) _
 rw[hsz];show hQ x y h₈ _ px py rj (up _ _ Z.TOz jg) (D1.frame _ _ _ Wv λb hb o e=>up b o (Z.a1 b hb).1 e) (D2.frame _ _ _ Xz λb hb o e=>up b o (Z.a2 b hb).1 e) yh w9 λc o c1 c2 c3 c4 e=>up c o c1 (WS c o c1 c2 c3 c4 e)
theorem RB(D1:q0Z i1 f1 n1 P1 S1)(D2:q0Z i2 f2 n2 P2 S2)(Z:ZA z TI TO i1 i2 f1 f2){k:Nat}{a b:n_}{Q:PySem.Fin->oa->Prop}
  (hz:IsZip s.heap z TI TO .none) (bh:IsPair s.heap TI (.ref i1) (.ref i2)) (bg:IsPair s.heap TO a b) (s1:S1 k s.heap) (s2:S2 k s.heap) (hk:k=n1\/k<n1/\k=n2)
  (hE:∀h' e tk,(∀c o,c≠z->c≠TO->c≠i1->c≠i2->s.heap.get? c=a_ o->h'.get? c=a_ o)->(∃o,h'.get? e=a_ o/\o.cls=.type "StopIteration")->E (.ref e) {s with heap:=h',toks:=tk}):
  x_ (Builtin.«zip.__next__» ⟨[.ref z],[]⟩) Q E s:=by
 change z_ (field (.ref z) 2 >>= _) _ _ _
 refine XJ (ZL hz rfl (x:=.bool false) rfl ?_)
 change z_ (field (.ref z) 3 >>= _) _ _ _
 refine XJ (ZL hz rfl (x:=.ref TI) rfl ?_);refine XJ (y1m bh rfl ?_)
 change z_ (ZN (.ref z) >>= _) _ _ _
 refine XJ ?_;unfold ZN;refine XJ (ZL hz rfl (x:=.none) rfl (XM ?_));simp only[if_true];refine XJ (y0f ?_);refine XJ (ZL hz rfl (x:=.ref TO) rfl ?_);refine XJ (y0W hz (by simp) λh₁ jr sh=>?_)
 replace jr:IsZip h₁ z TI TO .ellipsis:=jr
 let e1:=sh.extBut;let qy:S1 k h₁:=D1.frame _ _ _ s1 λb hb o e=>e1 b o (Z.a1 b hb).1 e;let vb:S2 k h₁:=D2.frame _ _ _ s2 λb hb o e=>e1 b o (Z.a2 b hb).1 e;refine XJ ?_;simp only[List.zipIdx_cons,List.zipIdx_nil,List.forIn_cons,List.forIn_nil];refine XJ (XJ (wpAny_onRaise ?_))
 change z_ (y00 (.ref i1) >>= _) _ _ _
 rcases hk with rfl|⟨k1,rfl⟩
 ·refine XJ (D1.done _ _ _ qy λh₂ e j3 he=>?_);let⟨oe,j9,nh⟩:=he;let yj:IsZip h₂ z TI TO .ellipsis:=j3 _ _ Z.i1z.symm jr;let vm:e≠z:=λx=>by subst x;rw[yj]at j9;cases j9;simp at nh
  show y0W yj (by simp) λh₃ _ j5=>hE h₃ e _ (λc o c1 _ c3 _ x=>j5.extBut _ _ c1 (j3 _ _ c3 (e1 _ _ c1 x))) ⟨oe,j5.extBut _ _ vm j9,nh⟩
 ·refine XJ (D1.item k _ _ _ k1 qy λx h₂ t2 px y6 j3=>XM ?_);let e2:=j3.extBut;let uz:S2 k h₂:=D2.frame _ _ _ vb λb hb o e=>e2 b o (Z.a2 b hb).2.2 e;let gv:IsPair h₂ TO a b:=e2 _ _ Z.TOi1 (e1 _ _ Z.TOz bg);refine XJ (y1m gv rfl ?_);refine XJ (wpAny_updateSeq_pair gv λh₃ jl j5=>?_);let e3:=j5.extBut;let wy:S2 k h₃:=D2.frame _ _ _ uz λb hb o e=>e3 b o (Z.a2 b hb).2.1 e;refine XJ (wpAny_letGo (XM ?_));refine XJ (XJ (wpAny_onRaise ?_))
  change z_ (y00 (.ref i2) >>= _) _ _ _
  refine XJ (D2.done _ _ _ wy λh₄ e qc he=>?_);let⟨oe,j9,nh⟩:=he;let xb:IsZip h₄ z TI TO .ellipsis:=qc _ _ Z.i2z.symm (e3 _ _ Z.TOz.symm (e2 _ _ Z.i1z.symm jr));let vm:e≠z:=λx=>by subst x;rw[xb]at j9;cases j9;simp at nh
  show y0W xb (by simp) λh₅ _ pj=>hE h₅ e _ (λc o c1 c2 c3 c4 x=>pj.extBut _ _ c1 (qc _ _ c4 (e3 _ _ c2 (e2 _ _ c3 (e1 _ _ c1 x))))) ⟨oe,pj.extBut _ _ vm j9,nh⟩
end
section
variable{z TI TO:o_}{f1 f2:ve o_}
theorem LC(hh:A.handled=b_)(D1:∀A:q_,A.handled=b_->q0Z i1 f1 n1 P1 S1)(D2:∀A:q_,A.handled=b_->q0Z i2 f2 n2 P2 S2)(Z:ZA z TI TO i1 i2 f1 f2){k:Nat}{a b:n_}{Q:v_ n_->oa->Prop}
  (hz:IsZip s.heap z TI TO .none) (bh:IsPair s.heap TI (.ref i1) (.ref i2)) (bg:IsPair s.heap TO a b) (s1:S1 k s.heap) (s2:S2 k s.heap) (k1:k<n1) (k2:k<n2)
  (hQ:∀x y h' tk,P1 k x->P2 k y->IsZip h' z TI TO (rawInt (c_ s))->IsPair h' TO x y->S1 (k+1) h'->S2 (k+1) h'->IsPair h' (c_ s) x y->h'.objs.size=(c_ s)+1->
   (∀c o,c≠z->c≠TO->c≠i1->c≠i2->s.heap.get? c=a_ o->h'.get? c=a_ o)->Q (cu (c_ s)) {s with heap:=h',toks:=tk}):
  x_ (pyNext (.ref z)) Q E s:=by
 let hT:s.TypeIs (.ref z) "zip" := ⟨_,hz,rfl⟩;unfold pyNext;show XJ (y0t (YT (name:=Zj "__next__") hT y1G
  (Y1 y1G hT PySem.F.entry_zip_next
   (Ow (D1 A.in1 hh) (D2 A.in1 hh) Z hz bh bg s1 s2 k1 k2 λx y h' tk a1 a2 a3 a4 a5 a6 a7 a8 a9=>XM (hQ x y h' tk a1 a2 a3 a4 a5 a6 a7 a8 a9)) (PySem.F.args_zip_next_1 _))))
theorem EK(hh:A.handled=b_)(D1:∀A:q_,A.handled=b_->q0Z i1 f1 n1 P1 S1)(D2:∀A:q_,A.handled=b_->q0Z i2 f2 n2 P2 S2)(Z:ZA z TI TO i1 i2 f1 f2){k:Nat}{a b:n_}{Q:v_ n_->oa->Prop}
  (hz:IsZip s.heap z TI TO .none) (bh:IsPair s.heap TI (.ref i1) (.ref i2)) (bg:IsPair s.heap TO a b) (s1:S1 k s.heap) (s2:S2 k s.heap) (hk:k=n1\/k<n1/\k=n2)
  (hQ:∀h' tk,(∀c o,c≠z->c≠TO->c≠i1->c≠i2->s.heap.get? c=a_ o->h'.get? c=a_ o)->Q b_ {s with heap:=h',toks:=tk}):x_ (pyNext (.ref z)) Q E s:=by
 let hT:s.TypeIs (.ref z) "zip" := ⟨_,hz,rfl⟩;unfold pyNext;refine XJ (y0t (YT (name:=Zj "__next__") hT y1G
  (Y1 y1G hT PySem.F.entry_zip_next (RB (D1 A.in1 hh) (D2 A.in1 hh) Z hz bh bg s1 s2 hk λh' e tk hk he=>?_) (PySem.F.args_zip_next_1 _))))
 let⟨o,ho,hc⟩:=he;refine XJ (ZY (T:="StopIteration") (b:=true) ⟨o,ho,hc⟩ isSubtype_stop ?_);show XM (hQ _ _ hk)
theorem LD(hh:A.handled=b_)(it l:o_)(items:q0p 0)(i:Nat)(h:items[i]?=b_):q0Z it [it,l] i (λ_ _=>False) (λj g=>j=i/\g.IsListIter it l i/\g.IsList l items) where
 live:=λ_ _ st=>let ⟨o,ho,_⟩:=st.2.1;⟨o,ho⟩
 frame:=λ_ _ _ st hk=>⟨st.1,st.2.1.at λo e=>hk it (by simp) o e,st.2.2.at λo e=>hk l (by simp) o e⟩
 item:=λj s Q E hj st hQ=>absurd hj (by rw[st.1];show ZD _)
 done:=λs Q E st hE=>wpAny_nextOf_list_end hh st.2.1 st.2.2 h hE
theorem Ox(hh:A.handled=b_)(it:o_)(x:Str)(t:Tok)(i:Nat)(h:x.cps[i]?=b_):q0Z it [it] i (λ_ _=>False) (λj g=>j=i/\g.IsStrIter it "str_ascii_iterator" x t i) where
 live:=λ_ _ st=>let ⟨o,ho,_⟩:=st.2;⟨o,ho⟩
 frame:=λ_ _ _ st hk=>⟨st.1,let ⟨o,e,r⟩:=st.2;⟨o,hk it (by simp) o e,r⟩⟩
 item:=λj s Q E hj st hQ=>absurd hj (by rw[st.1];show ZD _)
 done:=λs Q E st hE=>wpAny_nextOf_ascii_end hh st.2 h hE
end
abbrev Oy(h:r_)(l1:o_):r_:=h.push {cls:=.type "list_iterator",data:=.fields #[.ref l1,.int 0 0]}
abbrev Oz(h:r_)(l1:o_)(x:Str)(t:Tok):r_:=(Oy h l1).push {cls:=.type "str_ascii_iterator",data:=.fields #[.str x t,.int 0 0]}
abbrev OA(h:r_)(l1:o_)(x:Str)(t:Tok):r_:=(Oz h l1 x t).push {cls:=.type "tuple",data:=.seq #[.ref h.objs.size,.ref (Oy h l1).objs.size]}
abbrev OB(h:r_)(l1:o_)(x:Str)(t:Tok):r_:=(OA h l1 x t).push {cls:=.type "tuple",data:=.seq #[.none,.none]}
abbrev Gv(h:r_)(l1:o_)(x:Str)(t:Tok):r_:=(OB h l1 x t).push {cls:=.type "zip",data:=.fields #[.none,.bool false,.bool false,.ref (Oz h l1 x t).objs.size,.ref (OA h l1 x t).objs.size]}
set_option maxHeartbeats 4000000 in
theorem EL(l1:o_)(xs:q0p 0)(x:Str)(t:Tok)(ha:x.cps.all (· < 128)=true):
  Meets (Builtin.«zip.__new__» ⟨[.type "zip",.ref l1,.str x t],[]⟩) (λ_ R s=>s.heap.IsList l1 xs/\R (.ok (.ret (.ref (OB s.heap l1 x t).objs.size))) {s with heap:=Gv s.heap l1 x t}):=
 .of_wp λprog w A R s h=>by
  let⟨hp,g,d,tk,os⟩:=s;let⟨sx,h⟩:=h;let fw:=sub_zip;let WV:Heap.IsList (Shared.heap ⟨hp,g,d,tk,os⟩) l1 xs:=sx
  wp_walk using y1M WV,wpAny_pyIter_ascii ha
  show⟨_,rfl,h⟩
variable{l1:o_}
theorem OC{xs:q0p 0}{t:Tok}(sx:s.heap.IsList l1 xs)(ha:x.cps.all (· < 128)=true)(h:∀h',IsZip h' (s.heap.objs.size+4) (s.heap.objs.size+2) (s.heap.objs.size+3) .none->IsPair h' (s.heap.objs.size+2) (.ref (c_ s)) (.ref (s.heap.objs.size+1))->
   IsPair h' (s.heap.objs.size+3) .none .none->h'.IsListIter (c_ s) l1 0->h'.IsStrIter (s.heap.objs.size+1) "str_ascii_iterator" x t 0->h'.objs.size=(c_ s)+5->
   (∀c o,s.heap.get? c=a_ o->h'.get? c=a_ o)->Q (.ref (s.heap.objs.size+4)) {s with heap:=h'}):
  x_ (call (.type "zip") [.ref l1,.str x t]) Q E s:=by
 refine callType_new PySem.F.called_zip nofun (PySem.F.typeCall_zip_2 _ _) (PySem.F.newCall_zip_2 _ _) (λobj=>PySem.F.args_object_init_3 obj _ _) PySem.F.entry_zip_new
  (EL l1 xs x t ha) ⟨sx,?_⟩
 let z1:(Oy s.heap l1).objs.size=(c_ s)+1:=Zn ..;let z2:(Oz s.heap l1 x t).objs.size=(c_ s)+2:=by rw[Zn,z1]
 let z3:(OA s.heap l1 x t).objs.size=(c_ s)+3:=by rw[Zn,z2]
 let z4:(OB s.heap l1 x t).objs.size=(c_ s)+4:=by rw[Zn,z3]
 let z5:(Gv s.heap l1 x t).objs.size=(c_ s)+5:=by rw[Zn,z4]
 let g5:(Gv s.heap l1 x t).get? (OB s.heap l1 x t).objs.size=a_ _:=q0O 0;let g4:(Gv s.heap l1 x t).get? (OA s.heap l1 x t).objs.size=a_ _:=XO _ (q0O 0);let g3:(Gv s.heap l1 x t).get? (Oz s.heap l1 x t).objs.size=a_ _:=XO _ (XO _ (q0O 0));let g2:(Gv s.heap l1 x t).get? (Oy s.heap l1).objs.size=a_ _:=XO _ (XO _ (XO _ (q0O 0)));let g1:(Gv s.heap l1 x t).get? (c_ s)=a_ _:=XO _ (XO _ (XO _ (XO _ (q0O 0))))
 change _/\_
 rw[z2,z3,z4]at g5;rw[z1,z2]at g3;rw[z3]at g4;rw[z1]at g2;rw[z4];show⟨⟨_,g5,rfl⟩,h _ g5 g3 g4 ⟨_,g1,rfl,rfl⟩ ⟨_,g2,rfl,rfl⟩ z5 λc o e=>XO _ (XO _ (XO _ (XO _ (XO _ e))))⟩
def ItZ(K:XQ)(l:o_)(x:Str):It:=
 ⟨λi H=>(∃vs v,q0S l vs/\vs[i]?=a_ v)/\i<x.cps.size,
  λi H y H'=>∃t v c,H t=b_/\(∀vs,q0S l vs->vs[i]?=a_ v)/\x.cps[i]?=a_ c/\y=.ref t/\H'=q0r t (.tup [v,.str ⟨#[c]⟩]),
  λi H=>∃vs,q0S l vs/\(vs.length<=i\/x.cps.size<=i)⟩
theorem fO{h:r_}{b:o_}{o p:Obj}{m n:String}(ha:h.get? a=a_ o)(hb:h.get? b=a_ p)(ca:o.cls=.type m)(cb:p.cls=.type n)(hn:m≠n):a≠b:=λe=>by
 subst e;rw[ha]at hb;cases hb
 rw[ca]at cb;cases cb
 show hn rfl
theorem C4{h:r_}{z TI TO l:o_}{a b:n_}{t:Tok}{xs:q0p 0}(o3:TI≠TO)(hz:IsZip h z TI TO .none)(bh:IsPair h TI (.ref i1) (.ref i2))(bg:IsPair h TO a b)(h1:h.IsListIter i1 l i)(h2:h.IsStrIter i2 "str_ascii_iterator" x t i)(hl:h.IsList l xs):
  ZA z TI TO i1 i2 [i1,l] [i2]/\l≠i1:=by
 let⟨ol,el,cl,_⟩:=hl;let⟨o1,e1,c1,d1⟩:=h1;let⟨o2,e2,c2,d2⟩:=h2;let xm:i1≠z:=fO e1 hz c1 rfl nofun;let z8:i2≠z:=fO e2 hz c2 rfl nofun;let Io:TO≠i1:=fO bg e1 rfl c1 nofun;let xc:TO≠i2:=fO bg e2 rfl c2 nofun;let oh:i1≠i2:=fO e1 e2 c1 c2 nofun;let lz:l≠z:=fO el hz cl rfl nofun;let lO:l≠TO:=fO el bg cl rfl nofun;let l2:l≠i2:=fO el e2 cl c2 nofun;refine⟨⟨fO bh hz rfl rfl nofun,fO bg hz rfl rfl nofun,xm,z8,o3,fO bh e1 rfl c1 nofun,fO bh e2 rfl c2 nofun,Io,xc,oh,λb hb=>?_,λb hb=>?_⟩,fO el e1 cl c1 nofun⟩
 ·simp only[Yf,ZJ,or_false]at hb;rcases hb with rfl|rfl
  ·show⟨xm,Io.symm,oh⟩
  ·show⟨lz,lO,l2⟩
 ·simp only[Yf,ZJ,or_false]at hb;subst hb;show⟨z8,xc.symm,oh.symm⟩
variable{elts:ve t_}{x1:Nat}
theorem LF(l:o_)(x:Str)(t:Tok)(z TI TO i1 i2:o_)(o3:TI≠TO):
  Turn P w K (.Tuple elts x1 pos) (ItZ K l x) [z,TI,TO,i1,i2] z (λi h=>IsZip h z TI TO .none/\IsPair h TI (.ref i1) (.ref i2)/\(∃a b,IsPair h TO a b)/\h.IsListIter i1 l i/\h.IsStrIter i2 "str_ascii_iterator" x t i) where
 mem:=by simp
 obj:=λi h ⟨hz,bh,⟨a,b,bg⟩,⟨o1,e1,_,d1⟩,⟨o2,e2,_,d2⟩⟩ b hb=>by
  simp only[Yf,ZJ,or_false]at hb;rcases hb with rfl|rfl|rfl|rfl|rfl
  ·show⟨_,hz,λv q=>by cases q⟩
  ·show⟨_,bh,λv q=>by cases q⟩
  ·show⟨_,bg,λv q=>by cases q⟩
  ·show⟨_,e1,λv q=>by rw[d1]at q;cases q⟩
  ·show⟨_,e2,λv q=>by rw[d2]at q;cases q⟩
 keep:=λi h h' ⟨hz,bh,⟨a,b,bg⟩,h1,⟨o2,e2,r2⟩⟩ k=>⟨k z (by simp) _ hz,k TI (by simp) _ bh,⟨a,b,k TO (by simp) _ bg⟩,h1.at λo e=>k i1 (by simp) o e,⟨o2,k i2 (by simp) _ e2,r2⟩⟩
 item:=by
  intro X hP hw hK hc i FR s σ H E I hf ⟨hz,bh,⟨a,b,bg⟩,h1,h2⟩ ⟨⟨vs,v,hq,hv⟩,hx⟩;subst hP hw hK;let⟨its,rv,p,hsz⟩:=I.list hq;let⟨u,hu,ru⟩:=rv.get hv;let hl:=p.isList;let⟨ol,el,cl,_⟩:=id hl;let⟨o1,e1,c1,d1⟩:=id h1;let⟨o2,e2,c2,d2⟩:=id h2;let hi:i<its.length:=(XN.mp hu).1;let⟨Z,l1⟩:=C4 o3 hz bh bg h1 h2 hl;refine LC (I.ok.hd hc) (λA hA=>Draws.list hA i1 l l1 its.toArray) (λA hA=>Draws.strAscii hA i2 x t) Z hz bh bg ⟨h1,hl⟩ h2 (i_ hi) hx λxx yy h' tk px py a1 a2 a3 a4 a5 a6 kp=>⟨_,rfl,?_⟩;let⟨cc,tu,WY,rfl⟩:=py;let We:xx=u:=by
   have:its[i]?=a_ xx:=by simpa using px
   rw[hu]at this;cases this;rfl
  subst We;refine wpAny_letOwnedTupleGo_zip (s:={s with heap:=h',toks:=tk}) a1 λfu hI same=>?_;let fr:H (c_ s)=b_:=I.hok.fresh (X1 _);let nt:∀{b:o_}{o:Obj},I_ 0=a_ o->(c_ s)≠b:=λe=>Za (XZ e);let sb:∀(b:o_)(o:Obj),b≠z->q0A 0=a_ o->fu.get? b=a_ o:=λb o hb e=>(same.2 b hb).trans e;let vn:=sb _ _ (nt hz) a5;let bu:∀(b:o_)(o:Obj),b∉[z,TO,i1,i2]->I_ 0=a_ o->fu.get? b=a_ o:=λb o hb e=>sb b o (λq=>hb (by simp[q])) (kp b o (λq=>hb (by simp[q])) (λq=>hb (by simp[q])) (λq=>hb (by simp[q])) (λq=>hb (by simp[q])) e);let sub:∀b,b∈[z,TO,i1,i2]->b∈[z,TI,TO,i1,i2]:=λb hb=>by simp only[Yf,ZJ,or_false]at hb⊢;rcases hb with q|q|q|q <;> simp[q]
  let du:∀b u,H b=a_ u->b∉[z,TO,i1,i2]:=λb u e q=>by have:=(hf b (sub b q)).1;rw[this]at e;cases e
  let gh:∀b u,H b=a_ u->b≠(c_ s):=λb u e q=>by rw[q,fr]at e;cases e
  refine⟨.ref (c_ s),q0r (c_ s) (.tup [v,.str ⟨#[cc]⟩]),?_,rfl,⟨_,v,cc,fr,λys hy=>by rw[I.list_inj hy hq];show hv,WY,rfl,rfl⟩,⟨hI,sb _ _ Z.TIz (kp _ _ Z.TIz o3 Z.TIi1 Z.TIi2 bh),⟨_,_,sb _ _ Z.TOz a2⟩,a3.1.at λo e=>sb _ _ Z.i1z e,?_⟩,λb hb=>?_⟩
  ·refine Inv.step (s:=s) (h':=fu) (H:=H) (g':=s.gens) (d':=s.drawn) (t':=tk) (ch:=[z,TO,i1,i2]) I (λb hb=>?_) (λb o _ _ hc e _=>bu b o hc e) (λb o _ _ hc e _=>⟨o.slots,bu b o hc e⟩) (λb o hc e n=>?_)
    (λb o hc e=>⟨o,bu b o hc e⟩) (λb xs e=>by rw[aS (gh _ _ e)];show e) (λb o u e=>by rw[aS (gh _ _ e)];show e) (λb ps e=>⟨#[],by rw[aS (gh _ _ e),e];simp⟩) (λm hm=>?_) (λb u e=>?_) I.bare
   ·let⟨f0,f1,f2,f3,f4,f5⟩:=hf b (sub b hb);show⟨f3,f1,f4,f5⟩
   ·rw[aS (Yj (XZ e))];show n
   ·let⟨o,es,ep,ho,r⟩:=hm;show⟨o,es,ep,bu _ o (λq=>(hf _ (sub _ q)).2.1 rfl) ho,r⟩
   ·by_cases hb:b=(c_ s)
    ·subst hb;rw[bH]at e;cases e
     show⟨by change 2<=X5;rw[kI];decide,[xx,.str ⟨#[cc]⟩ tu],.cons ru (.cons ⟨_,rfl⟩ .nil),_,vn,rfl,⟨_,rfl⟩,rfl⟩
    ·rw[aS hb]at e;refine(I.hok b u e).stay (λc v hc q=>bu c v ?_ q) (λc q=>by rw[aS (gh _ _ q)];show q) λc xs q=>by rw[aS (gh _ _ q)];show q
     rcases hc with q|q
     ·rw[q];show du b u e
     ·show du c _ q
  ·let⟨o,e,r⟩:=a4;show⟨o,sb _ _ Z.i2z e,r⟩
  ·let hb':=(hf b hb).1;have:b≠(c_ s):=by
    simp only[Yf,ZJ,or_false]at hb;rcases hb with rfl|rfl|rfl|rfl|rfl
    ·show(nt hz).symm
    ·show(nt bh).symm
    ·show(nt bg).symm
    ·show(nt e1).symm
    ·show(nt e2).symm
   rw[aS this];show hb'
 done:=by
  intro X hP hw hK hc i FR s σ H E I hf ⟨hz,bh,⟨a,b,bg⟩,h1,h2⟩ ⟨vs,hq,hd⟩;subst hP hw hK;let⟨its,rv,p,hsz⟩:=I.list hq;let hlen:=rv.length;let hl:=p.isList;let⟨ol,el,cl,_⟩:=id hl;let⟨o1,e1,c1,d1⟩:=id h1;let⟨o2,e2,c2,d2⟩:=id h2;let⟨Z,l1⟩:=C4 o3 hz bh bg h1 h2 hl;let sub:∀b,b∈[z,TO,i1,i2]->b∈[z,TI,TO,i1,i2]:=λb hb=>by simp only[Yf,ZJ,or_false]at hb⊢;rcases hb with q|q|q|q <;> simp[q]
  let du:∀b u,H b=a_ u->b∉[z,TO,i1,i2]:=λb u e q=>by have:=(hf b (sub b q)).1;rw[this]at e;cases e
  let fin:∀(h':r_)(tk:Nat),(∀c o,c≠z->c≠TO->c≠i1->c≠i2->s.heap.get? c=a_ o->h'.get? c=a_ o)->P_ {s with heap:=h',toks:=tk}:=λh' tk kp=>by
   let bu:∀(b:o_)(o:Obj),b∉[z,TO,i1,i2]->I_ 0=a_ o->q0A 0=a_ o:=λb o hb e=>kp b o (λq=>hb (by simp[q])) (λq=>hb (by simp[q])) (λq=>hb (by simp[q])) (λq=>hb (by simp[q])) e;refine Inv.step (s:=s) (h':=h') (H:=H) (g':=s.gens) (d':=s.drawn) (t':=tk) (ch:=[z,TO,i1,i2]) I (λb hb=>?_) (λb o _ _ hc e _=>bu b o hc e) (λb o _ _ hc e _=>⟨o.slots,bu b o hc e⟩) (λb o hc e n=>n)
    (λb o hc e=>⟨o,bu b o hc e⟩) (λb xs e=>e) (λb o u e=>e) (λb ps e=>⟨#[],by rw[e];simp⟩) (λm hm=>?_) (λb u e=>?_) I.bare
   ·let⟨f0,f1,f2,f3,f4,f5⟩:=hf b (sub b hb);show⟨f3,f1,f4,f5⟩
   ·let⟨o,es,ep,ho,r⟩:=hm;show⟨o,es,ep,bu _ o (λq=>(hf _ (sub _ q)).2.1 rfl) ho,r⟩
   ·refine(I.hok b u e).stay (λc v hc q=>bu c v ?_ q) (λ_ q=>q) λ_ _ q=>q;rcases hc with q|q
    ·rw[q];show du b u e
    ·show du c _ q
  by_cases hi:i<its.length
  ·let hx:x.cps.size<=i:=by rcases hd with q|q;omega;show q
   show EK (I.ok.hd hc) (λA hA=>Draws.list hA i1 l l1 its.toArray) (λA hA=>Ox hA i2 x t i (Ze hx)) Z hz bh bg ⟨h1,hl⟩ ⟨rfl,h2⟩ (.inr ⟨i_ hi,rfl⟩) λh' tk kp=>⟨rfl,fin h' tk kp⟩
  ·show EK (I.ok.hd hc) (λA hA=>LD hA i1 l its.toArray i (by simp;omega)) (λA hA=>Draws.strAscii hA i2 x t) Z hz bh bg ⟨rfl,h1,hl⟩ h2 (.inl rfl) λh' tk kp=>⟨rfl,fin h' tk kp⟩
 self:=λ_ _ _ _ _ ⟨hz,_⟩ h=>wpAny_pyIter_zip hz h
theorem boot_zip:y09 "zip" = a_ (.type "zip"):=by first|rfl|decide +kernel|kernel_rfl
def VD(X:Cx)(ta:TA):TI:=λσ H R=>ta σ H λvs H1=>∃l xs x,vs=[.ref l,.str x]/\SqL X.K H1 l xs/\(x.cps.all λc=>decide (c<128))=true/\R (ItZ X.K l x) H1
theorem RC{a b:t_}{ta:TA}{p:Pos}{tp:Pos}(hg:Gl X "zip")(hm:X.mg "zip" = b_)(ha:PA X [a,b] ta)(hs:Yr [a,b] X.env=[(false,eval a X.env),(false,eval b X.env)]:=by rfl)(dj:Yr [b] X.env=[(false,eval b X.env)]:=by rfl):
  PI X (.Tuple elts x1 tp) (.Call (.Name "zip" p) [a,b] [] pos) (VD X ta):=by
 intro FR s σ H R I h;refine Call_ (sH I hg hm boot_zip (ZT (thn (q0P 0) λus s1 hz=>?_) (by rw[hs,dj]) (by rw[dj];rfl)));let⟨vs,H1,I1,r1,q1⟩:=hz;let⟨l,xs,x,e,hq,asc,q⟩:=q1;subst e;cases r1 with
 |cons r rr=>
  cases rr with
  |cons r' rr=>
   cases rr
   cases r
   let⟨t,rfl⟩:=r';let⟨its,rv,pl,hz⟩:=I1.list hq;refine OC pl.isList asc λh' a1 a2 a3 a4 a5 a6 kp=>?_;refine wpAny_pyIter_zip a1 ?_;refine⟨(c_ s1)+4,[(c_ s1)+4,(c_ s1)+2,(c_ s1)+3,(c_ s1),(c_ s1)+1],_,_,H1,rfl,I1.kept (t':=s1.toks) kp,LF l x t _ _ _ _ _ (Yj (y1i (s1.heap.objs.size+2))),⟨a1,a2,⟨_,_,a3⟩,a4,a5⟩,λb hb=>?_,q⟩;let hle:(c_ s1)<=b:=by
    simp only[Yf,ZJ,or_false]at hb;rcases hb with e|e|e|e|e
    all_goals rw[e]
    all_goals first|exact X1 _|exact y0O _ _
   show I1.fpOk hle (I1.hok.fresh hle)
def yR(xs:ve PV)(x:Str):ve PV:=List.zipWith (λp c=>PV.tup [p,.str ⟨#[c]⟩]) xs x.cps.toList
def RD:ve PV->PH->Rs Wk:=λps h=>match ps with
 | [.ref n,.str x]=>if (x.cps.all fun c=>decide (c < 128))=true then (match aV h n with
   |some xs=>.ok ⟨yR xs x,uF n xs⟩ h
   |none=>.bad) else .bad
 |_=>.bad
def OD(ms:Ma):Mi:=λδ h=>(ms δ h).bind RD
theorem LG(xs:ve PV)(x:Str):(yR xs x).length=min xs.length x.cps.size:=by simp[yR]
theorem U2{k:Nat}{x y:t_}{tp p:Pos}(ha:SA C k X [x,y] ms)(hb:("zip" : Str)∈C.bs:=by decide)(hg:Gl X "zip" := by rfl)(hs:Yr [x,y] X.env=[(false,eval x X.env),(false,eval y X.env)]:=by rfl)(dj:Yr [y] X.env=[(false,eval y X.env)]:=by rfl):
  SI C k X (.Tuple elts x1 tp) (.Call (.Name "zip" p) [x,y] [] pos) (OD ms):=λc=>
 (RC hg (c.bn _ hb) (ha c) hs dj).imp λσ H R h=>by
  let⟨φ,δ,h,rh,re,p⟩:=h;refine⟨φ,δ,h,rh,re,(postA.bindI p).imp ?_⟩;rintro vs H1 ⟨φ1,xs,h1,p1,t1,ab,ae,q1⟩;unfold RD at q1;split at q1
  ·rename_i n x;let⟨v,w,rfl,rx,ry⟩:=ae.two;let⟨a,rfl,ha'⟩:=rx;cases ry
   split at q1
   ·rename_i asc;cases e:aV h1 n with
    |none=>rw[e]at q1;show q1.elim
    |some xs=>
     rw[e]at q1;let⟨a2,us,aq,sa,ra⟩:=cJ ab e;rw[ha']at aq;cases aq;rw[<-c.K]at sa;refine⟨a,us,x,rfl,sa,asc,q1 φ1 H1 (ItZ X.K a x) X0 (Kp.refl H1) ab λφ2 H2 h2 p2 t2 ar hg i=>?_⟩;let hg:(match aV h2 n with|some ys=>PV.beqs ys xs|none=>false)=true:=hg
     cases e2:aV h2 n with
     |none=>rw[e2]at hg;cases hg
     |some ys=>
      rw[e2]at hg;let j8:=PV.beqs_eq hg;subst j8;let⟨a3,f7,jo,su,ru⟩:=cJ ar e2;rw[kF p2 ha']at jo;cases jo;rw[<-c.K]at su;let hl:=ru.length
      change(i<(yR ys x).length->_)/\((yR ys x).length<=i->_)
      rw[LG];refine⟨λhi=>?_,λhi=>⟨f7,su,⋯⟩⟩;let wt:i<f7.length:=⋯;let WJ:i<x.cps.size:=⋯;refine⟨⟨⟨f7,f7[i],su,by simp[wt]⟩,WJ⟩,λy H' yl=>?_⟩;let⟨t,v,cc,ht,hv,ec,rfl,rfl⟩:=yl;let⟨pp,ep,rp⟩:=ru.get (hv f7 su);refine⟨⟨.tup [pp,.str ⟨#[cc]⟩],?_,?_⟩,Kp.new ht,ar.aside ht⟩
      ·let W1:x.cps.toList[i]?=a_ cc:=by simpa using ec
       change(yR ys x)[i]?=_
       unfold yR;rw[List.getElem?_zipWith,ep,W1]
      ·show⟨t,[v,.str ⟨#[cc]⟩],rfl,.inl (.inl bH),rp.mono X0 (Kp.new ht),rfl,trivial⟩
   ·show q1.elim
  ·show q1.elim
def LH(f:n_):Prop:=f=.none\/∃T:Nat,f=rawInt T
abbrev yD(h:r_)(it d:o_)(i n ep:Nat)(f0:n_)(f1:Bool)(ok ov:n_):Prop:=h.get? it=a_ {cls:=.type "dict_itemiterator",data:=.fields #[f0,.bool f1,.ref d,.int i 0,.int n 0,.int ep 0,ok,ov]}
variable{f0 ov:n_}
section
variable{v:o_}{es:Array y0o}{ok:n_}{f1:Bool}
theorem LI{Q:v_ Obj->oa->Prop}(h:Q (q0C 0) s):x_ (loadIfAlive a) Q E s:=λΓ p _=>by unfold loadIfAlive;rw[Sem.wp_loadIfAlive];show h
theorem Az(hI:yD s.heap it dc i n ep f0 f1 ok ov):s.TypeIs (.ref it) "dict_itemiterator" := ⟨_,hI,rfl⟩
theorem Gw{Q:v_ n_->oa->Prop}(hI:yD s.heap it dc i es.size ep f0 f1 ok ov)(h1:s.heap.get? dc=a_ oc)(h2:oc.data=.dict es ep)(ao:i<es.size)(hf:LH f0)(q:∀h' f0' f1' vc ud,LH f0'->yD h' it dc (i+1) es.size ep f0' f1' vc ud->h'.get? (c_ s)=a_ {cls:=.type "tuple",data:=.seq #[es[i].key,es[i].val]}->
   (∀(b:o_)(o:Obj),b≠it->I_ 0=a_ o->q0A 0=a_ o)->Q (cu (c_ s)) {s with heap:=h'}):x_ (pyNext (.ref it)) Q E s:=by
 let hT:=Az hI;unfold pyNext;refine XJ (y0t (YT (name:=Zj "__next__") hT ZI (Y1 ZI hT F.entry_dict_itemiterator_next ?_ (F.args_dict_itemiterator_next_1 _))));refine XJ (XM (XJ (XJ ?_)))
 first|refine XJ (y0d hT (XM ?_))|refine XJ (y01 hT (XM ?_))
 refine XJ (y1V hI rfl ?_);rw[show ZR "dict_itemiterator" = true by decide];simp only[if_true]
 change z_ (if(YH dc == Yn)=true then _ else _) _ _ s
 rw[if_neg (show ¬ ((YH dc == Yn)=true) from Yg)]
 refine XJ (XM (XJ (Zp h1 h2 ?_)));rw[if_neg (show ¬ _ by simp)];refine XJ (XM (XJ (y1A h1 h2 ?_)));rw[if_neg (show ¬ _ by simp)];refine XM ?_;simp only[show ¬ ((i:Int)<0) by omega,if_false,Z4,YX ao];refine XJ ?_
 first|refine XJ (y0d hT (XM ?_))|refine XJ (y01 hT (XM ?_))
 refine XJ (wpAny_isOneOf_itemiter hT (show z_ (setField (.ref it) 3 (rawInt ((i:Int)+1)) >>= _) _ _ s from XJ (y1U hI rfl (by simp) ?_)))
 let lq:yD (s.heap.update it (y0V (·.setIfInBounds 3 (rawInt ((i:Int)+1))))) it dc (i+1) es.size ep f0 f1 ok ov:=by
  change(s.heap.update it _).get? it=_
  rw[YR _ hI (y1C (y1r rfl _))];simp[y0V,rawInt]
 let kp:∀(b:o_)(o:Obj),b≠it->I_ 0=a_ o->(s.heap.update it (y0V (·.setIfInBounds 3 (rawInt ((i:Int)+1))))).get? b=a_ o:=λb o hb e=>by rw[(YB ..).2 b hb];show e
 let sz:(s.heap.update it (y0V (·.setIfInBounds 3 (rawInt ((i:Int)+1))))).objs.size=(c_ s):=(YB ..).1;generalize s.heap.update it (y0V (·.setIfInBounds 3 (rawInt ((i:Int)+1))))=hA at lq kp sz;let qu:({s with heap:=hA}:oa).TypeIs (.ref it) "dict_itemiterator" := Az lq;refine XJ (YZ (XJ (wpAny_isOneOf_itemiter qu (XJ (wpAny_isOneOf_itemiter qu ?_)))))
 change z_ (Builtin.Dict_items.pairFromOwner (.ref it) 6 es[i].key es[i].val) _ _ _
 unfold Builtin.Dict_items.pairFromOwner;simp only[newTuple];refine XJ (YJ ?_ (by size_fits));let kj:yD (hA.push {cls:=.type "tuple",data:=.seq #[es[i].key,es[i].val]}) it dc (i+1) es.size ep f0 f1 ok ov:=XO _ lq;let gt:(hA.push {cls:=.type "tuple",data:=.seq #[es[i].key,es[i].val]}).get? hA.objs.size=a_ {cls:=.type "tuple",data:=.seq #[es[i].key,es[i].val]}:=q0O 0;let tj:∀(b:o_)(o:Obj),b≠it->I_ 0=a_ o->(hA.push {cls:=.type "tuple",data:=.seq #[es[i].key,es[i].val]}).get? b=a_ o:=λb o hb e=>XO _ (kp b o hb e);rw[sz]at gt;let ne:(c_ s)≠it:=Za (XZ hI)
 change z_ _ _ _ {s with heap:=hA.push {cls:=.type "tuple",data:=.seq #[es[i].key,es[i].val]} }
 generalize hA.push {cls:=.type "tuple",data:=.seq #[es[i].key,es[i].val]}=hB at kj gt tj;let eA:(YH ({s with heap:=hA}:oa).heap.objs.size)=.ref (c_ s):=by rw[<-sz]
 simp only[eA];let stp:∀{h1:r_}{fs:q0p 0}{j:Nat}{x:n_}{α:Type}{f:Unit->Sem α}{R:α->oa->Prop}{E':d_ 0},h1.get? it=a_ {cls:=.type "dict_itemiterator",data:=.fields fs}->j<fs.size->
   (∀h2:r_,h2.get? it=a_ {cls:=.type "dict_itemiterator",data:=.fields (fs.setIfInBounds j x)}->(∀(b:o_),b≠it->h2.get? b=h1.get? b)->q1s (f ()) R E' {s with heap:=h2})->
   q1s (setField (.ref it) j x >>= f) R E' {s with heap:=h1}:=λ{h1 fs j x α f R E'} g hj k=>by
  refine XJ (y1U (s:={s with heap:=h1}) g rfl hj ?_);refine k _ ?_ λb hb=>(YB ..).2 b hb;rw[YR _ g (y1C (y1r rfl _))];simp[y0V]
 let free:∀E':d_ 0,q1s (y11 (.ref it)) (λ_ s'=>∃h9 g1,s'={s with heap:=h9}/\yD h9 it dc (i+1) es.size ep f0 g1 ok ov/\∀b,b≠it->h9.get? b=hB.get? b) E' {s with heap:=hB}:=λE'=>by
  unfold y11;refine XJ (ZL (s:={s with heap:=hB}) kj rfl (x:=f0) rfl ?_);rcases hf with rfl|⟨T,rfl⟩
  ·show XM ⟨hB,f1,rfl,kj,λ_ _=>rfl⟩
  ·change z_ (loadIfAlive ((T:Int).toNat) >>= _) _ _ _
   refine XJ (LI ?_);cases hB.get? ((T:Int).toNat) with
   |none=>exact XM ⟨hB,f1,rfl,kj,λ_ _=>rfl⟩
   |some o=>
    simp only[Option.isNone_some,YG,if_false];refine XJ (ZL (s:={s with heap:=hB}) kj rfl (x:=.bool f1) rfl ?_);cases f1 with
    |false=>rw[if_pos nofun];refine stp kj (by simp) λh3 g3 s3=>?_;show XM ⟨h3,true,rfl,by change h3.get? it=_;rw[g3];simp,s3⟩
    |true=>rw[q0a 0];show XM ⟨hB,true,rfl,kj,λ_ _=>rfl⟩
 refine XJ (ZG (free _) (λb s' hb=>?_) λ_ _ e=>e);let⟨h9,g1,rfl,qp,s9⟩:=hb;cases b with
 |true=>
  simp only[if_true];refine XJ (ZL (s:={s with heap:=h9}) qp rfl (x:=ok) rfl (XJ (ZL (s:={s with heap:=h9}) qp rfl (x:=ov) rfl ?_)));refine stp qp (by simp) λh3 g3 s3=>?_;refine stp g3 (by simp) λh4 g4 s4=>?_;refine stp g4 (by simp) λh5 g5 s5=>?_;refine stp g5 (by simp) λh6 g6 s6=>?_;refine XJ (wpAny_letGo (XM (XM ⟨_,rfl,XM (q h6 (rawInt (c_ s)) false es[i].key es[i].val (.inr ⟨_,rfl⟩) (by rw[<-sz];change h6.get? it=_;rw[g6];simp) ?_ λb o hb e=>?_)⟩)))
  ·rw[s6 _ ne,s5 _ ne,s4 _ ne,s3 _ ne,s9 _ ne];show gt
  ·rw[s6 _ hb,s5 _ hb,s4 _ hb,s3 _ hb,s9 _ hb];show tj b o hb e
 |false=>
  simp only[YG,if_false];refine XM (XM ⟨_,rfl,XM (q h9 f0 g1 ok ov hf qp ?_ λb o hb e=>?_)⟩)
  ·rw[s9 _ ne];show gt
  ·rw[s9 _ hb];show tj b o hb e
theorem Gx{Q:v_ n_->oa->Prop}(hh:A.handled=b_)(hI:yD s.heap it dc i es.size ep f0 f1 ok ov)(h1:s.heap.get? dc=a_ oc)(h2:oc.data=.dict es ep)(mq:es.size<=i)(q:∀h',Heap.ExtBut it s.heap h'->Q b_ {s with heap:=h'}):x_ (pyNext (.ref it)) Q E s:=by
 let hT:=Az hI;unfold pyNext;refine XJ (y0t (YT (name:=Zj "__next__") hT ZI (Y1 ZI hT F.entry_dict_itemiterator_next ?_ (F.args_dict_itemiterator_next_1 _))));refine XJ (XM (XJ (XJ ?_)))
 first|refine XJ (y0d hT (XM ?_))|refine XJ (y01 hT (XM ?_))
 refine XJ (y1V hI rfl ?_);rw[show ZR "dict_itemiterator" = true by decide];simp only[if_true]
 change z_ (if(YH dc == Yn)=true then _ else _) _ _ s
 rw[if_neg (show ¬ ((YH dc == Yn)=true) from Yg)]
 refine XJ (XM (XJ (Zp h1 h2 ?_)));rw[if_neg (show ¬ _ by simp)];refine XJ (XM (XJ (y1A h1 h2 ?_)));rw[if_neg (show ¬ _ by simp)];refine XM ?_;simp only[show ¬ ((i:Int)<0) by omega,if_false,Z4,Ze mq];refine XJ ?_
 first|refine XJ (y0d hT (XM ?_))|refine XJ (y01 hT (XM ?_))
 refine(show z_ (setField (.ref it) 2 .none >>= _) _ _ s from XJ (y1U hI rfl (by simp) ?_))
 refine(show z_ (newExc (.type "StopIteration") [] >>= _) _ _ _ from XJ ?_);simp only[newExc,newTuple]
 refine XJ (YJ (XJ (m:=y1W _ _) (y0Z (a:=Yn) (by first|rfl|(simp only[y1W];rfl)) (YJ ?_ (by size_fits)))) (by size_fits))
 simp only[raiseNew];refine XJ (wpAny_handled ?_);rw[show A.in1.handled=b_ from hh]
 refine XJ (XM (wpAny_throw ?_));refine XJ (ZY (T:="StopIteration") (b:=true) ⟨_,q0O 0,rfl⟩ isSubtype_stop ?_);show XM (q _ (((YB ..).extBut.push _).push _))
end
structure Prs(es:Array y0o)(lo:o_)(h:r_)(as:ve o_):Prop where
 above:∀a∈as,lo<a
 rise:as.Pairwise (· < ·)
 pairs:∀(j:Nat) a,as[j]?=some a->∃e,es[j]?=some e/\h.get? a=some {cls:=.type "tuple",data:=.seq #[e.key,e.val]}
variable{h₁:r_}
theorem LJ{es:Array y0o}{S d:o_}(hh:A.handled=b_)(my:S<I)(qw:d≠S)(Xr:d≠I)(h2:oc.data=.dict es ep)(hn:es.size<=X5)(res:n_)(hR:∀h' tk acc c as,(∀b o,b≠S->b≠I->h₁.get? b=a_ o->q0A 0=a_ o)->h'.get? S=a_ {cls:=.type "list",dict:=b_,data:=.seq acc c,slots:=#[]}->as.length=es.size->Prs es I h' as->
   acc.toList=as.map YH->R (.ok (.ret res)) {s with heap:=h',toks:=tk}):
  ∀(k i:Nat)(h:r_)(tk c:Nat)(acc:q0p 0)(as:ve o_)(f0:n_)(f1:Bool)(ok ov:n_),es.size-i=k->i<=es.size->LH f0->yD h I d i es.size ep f0 f1 ok ov->h.get? d=a_ oc->(∀b o,b≠S->b≠I->h₁.get? b=a_ o->h.get? b=a_ o)->
   h.get? S=a_ {cls:=.type "list",dict:=b_,data:=.seq acc c,slots:=#[]}->acc.toList=as.map YH->as.length=i->Prs es I h as->
   codeAny (q0M 0) A (.builtin "list.extend.loop" ⟨[.ref S,.ref I,res],[]⟩) R {s with heap:=h,toks:=tk}:=by
 let fq:S≠I:=Yj my;intro k
 induction k with
 |zero=>
  intro i h tk c acc as f0 f1 ok ov hk hi ff b9 hD hkeep hS ah hal hG;refine ZW PySem.F.entry_extend_loop ?_;rw[Zs Z6 _]
  change wpAny _ A.in1 (pyNext (.ref I) >>= _) _ _ _
  refine XJ (Gx (s:={s with heap:=h,toks:=tk}) (A:=A.in1) hh b9 hD h2 ⋯ λh' he=>?_);refine XM (hR h' tk acc c as (λb o h1 h2 e=>he b o h2 (hkeep b o h1 h2 e)) (he S _ fq hS) ⋯ ⟨hG.above,hG.rise,λj a hj=>?_⟩ ah);let⟨e,e1,e2⟩:=hG.pairs j a hj;show⟨e,e1,he a _ (Za (hG.above a (Yv hj))) e2⟩
 |succ k ih=>
  intro i h tk c acc as f0 f1 ok ov hk hi ff b9 hD hkeep hS ah hal hG;let ao:i<es.size:=⋯;let hsz:acc.size=i:=by rw[<-y0E,ah,XR,hal]
  let Xy:I<h.objs.size:=XZ b9;let XI:S<h.objs.size:=XZ hS;refine ZW PySem.F.entry_extend_loop ?_;rw[Zs Z6 _]
  change wpAny _ A.in1 (pyNext (.ref I) >>= _) _ _ _
  refine XJ (Gw (s:={s with heap:=h,toks:=tk}) (A:=A.in1) b9 hD h2 ao ff λh' g0 g1 vc ud Xp gb ht nj=>?_);dsimp only at ht nj⊢;let df:=nj S _ fq hS;let up:∀b o,b≠S->q0A 0=a_ o->(h'.update S (YO (·.push (YH h.objs.size)))).get? b=a_ o:=λb o hb e=>(Y8 _ _ (ZK hb)).trans e
  change wpAny _ A.in1 (updateSeq S (·.push (YH h.objs.size)) >>= _) _ _ _
  refine XJ ?_;refine wpAny_updateSeq df rfl (XM ⟨y0U Z6 _,ih (i+1) _ tk _ (acc.push (YH h.objs.size)) (as++[h.objs.size]) g0 g1 vc ud ⋯ ao Xp (up I _ (ZK fq) gb) (up d _ qw (nj d _ Xr hD))
   (λb o h1 h2 e=>up b o h1 (nj b o h2 (hkeep b o h1 h2 e))) (YR _ df rfl) (by rw[Array.toList_push,ah,YF];rfl) (by rw[X6,hal];rfl) ⟨?_,?_,?_⟩⟩) (by rw[hsz];omega) (by change(acc.push (YH h.objs.size)).size<=X5+1;rw[Array.size_push];omega)
  ·intro a ha;rcases X7.mp ha with ha|ha
   ·show hG.above a ha
   ·rw[YC.mp ha];show Xy
  ·refine Ya.mpr ⟨hG.rise,ZU _ _,λa ha b hb=>?_⟩;rw[YC.mp hb];let⟨j,hj⟩:=y0c.mp ha;let⟨e,_,e2⟩:=hG.pairs j a hj;show XZ e2
  ·intro j b hj;rcases Nat.lt_trichotomy j as.length with h1|h1|h1
   ·rw[Yb h1]at hj;let⟨e,e1,e2⟩:=hG.pairs j b hj;let hb:=hG.above b (Yv hj);show⟨e,e1,up b _ (Za (Nat.lt_trans my hb)) (nj b _ (Za hb) e2)⟩
   ·subst h1;let hb:h.objs.size=b:=by simpa using hj
    subst hb;show⟨es[i],by rw[hal];simp[ao],up _ _ (Za XI) ht⟩
   ·let qd:(as++[h.objs.size])[j]?=b_:=y0a (by rw[X6,List.length_singleton];omega);rw[qd]at hj;cases hj
open PySem.W
variable{as:ve o_}
theorem Prs.low{es:Array y0o}{lo y0:o_}{h:r_}(g:Prs es lo h as)(hl:y0<=lo):Prs es y0 h as:=⟨λa ha=>Nat.lt_of_le_of_lt hl (g.above a ha),g.rise,g.pairs⟩
theorem Gy{es:Array y0o}{r:o_}{d:o_}(hh:A.handled=b_)(hv:s.heap.IsItemsView r d)(hD:s.heap.get? d=a_ oc)(h2:oc.data=.dict es ep)(S:o_)(W6:S≠r)(qw:d≠S)(res:n_)(c₀:Nat)(hS:s.heap.get? S=a_ {cls:=.type "list",data:=.seq #[] c₀})(hR:∀h' tk acc c as,(∀b o,b≠S->I_ 0=a_ o->q0A 0=a_ o)->h'.get? S=a_ {cls:=.type "list",dict:=b_,data:=.seq acc c,slots:=#[]}->as.length=es.size->Prs es (c_ s) h' as->
   acc.toList=as.map YH->R (.ok (.ret res)) {s with heap:=h',toks:=tk})(hn:es.size<=X5):
  q1s (Zz (.ref S) (.ref r) res)
   (λfin s'=>match fin with|.done f=>R (.ok f) s'|.again c'=>c'.quiet=true/\codeAny (q0M 0) A c' R s') (λe s'=>R (.error e) s') s:=by
 let my:S<(c_ s):=XZ hS;let WZ:d<(c_ s):=XZ hD;let key:∀(h:r_)(c₁ tk:Nat),(∀b o,b≠S->(s.heap.push {cls:=.type "dict_itemiterator",data:=.fields #[.none,.bool false,.ref d,.int 0 0,.int es.size 0,.int ep 0,.none,.none]}).get? b=a_ o->h.get? b=a_ o)->
   h.get? S=a_ {cls:=.type "list",data:=.seq #[] c₁}->codeAny (q0M 0) A (.builtin "list.extend.loop" ⟨[.ref S,.ref (c_ s),res],[]⟩) R {s with heap:=h,toks:=tk}:=by
  intro h c₁ tk hk ja;let hI:=hk (c_ s) _ (Za my) (q0O 0);show LJ (es:=es) (ep:=ep) (oc:=oc) (s:=s) (h₁:=s.heap) hh my qw (Yj WZ) h2 hn res (λh' Xk acc c as g9 df hl hG ah=>hR h' Xk acc c as (λb o hb e=>g9 b o hb (Yj (XZ e)) e) df hl hG ah)
   es.size 0 h tk c₁ #[] [] .none false .none .none (y0v _) (YE _) (.inl rfl) hI (hk d _ qw (XO _ hD)) (λb o hb _ e=>hk b o hb (XO _ e)) ja rfl rfl
   ⟨(λ_ ha=>nomatch ha),ZE,(λj a hj=>by simp at hj)⟩
 unfold Zz;refine XJ (y1v (T:="dict_items") hv.typeIs ?_);let h1:y0j (.ref S) (.ref r)=false:=by simp[y0j,W6]
 let h3:(y0y "dict_items" == y0y "list")=false:=by decide
 let h4:(y0y "dict_items" == y0y "tuple")=false:=by decide
 simp only[h1,h3,h4,Bool.or_false,YG,if_false];refine XJ (FX hv hD h2 ?_);let ja:=XO {cls:=.type "dict_itemiterator",data:=.fields #[.none,.bool false,.ref d,.int 0 0,.int es.size 0,.int ep 0,.none,.none]} hS;refine XJ (YZ (kdx_hint (let ⟨o,ho,hc,_⟩:=hv;⟨o,XO _ ho,hc⟩) ?_));refine wpAny_ite_split (λ_=>?_) (λ_=>XM ⟨y0U Z6 _,key _ c₀ _ (λb o _ e=>e) ja⟩);refine XJ (y0f ?_);refine XJ ?_
 change z_ (updateSeq S (·.push .none) >>= λ_=>updateSeq S (·.pop)) _ _ _
 refine XJ (wpAny_updateSeq ja rfl ?_);let m7:=YR (YO (·.push Yn)) ja rfl;refine wpAny_updateSeq (hz:=by seq_fits) m7 rfl ?_;let vi:=YR (YO (·.pop)) m7 rfl;refine XM ⟨y0U Z6 _,key _ _ _ (λb o hb e=>?_) vi⟩;show(Y8 _ _ (ZK hb)).trans ((Y8 _ _ (ZK hb)).trans e)
theorem EM{es:Array y0o}{r:o_}{d:o_}{R:ve n_->oa->Prop}(hh:A.handled=b_)(hv:s.heap.IsItemsView r d)(hD:s.heap.get? d=a_ oc)(h2:oc.data=.dict es ep)(hn:es.size<=X5)(h:∀(h':r_)(tk:Nat)(as:ve o_),(∀b o,I_ 0=a_ o->q0A 0=a_ o)->as.length=es.size->Prs es (c_ s) h' as->R (as.map YH) {s with heap:=h',toks:=tk}):
  x_ (collect (.ref r)) R E s:=by
 let hr:r<(c_ s):=let ⟨_,ho,_⟩:=hv;XZ ho;let hd:d<(c_ s):=XZ hD;unfold collect;refine XJ (wpAny_runValue (ZW entry_proto_collect' ?_));rw[Zs PySem.F.plain_proto_collect _]
 change wpAny _ A.in1 (newList [] >>= λl=>again (.builtin "list.__iadd__" ⟨[l,.ref r],[]⟩)) _ _ s
 refine XJ (YJ ?_);refine XM ⟨y0U PySem.F.plain_list_iadd _,ZW entry_list_iadd' ?_⟩;rw[Zs PySem.F.plain_list_iadd _];let ja:(s.heap.push {cls:=.type "list",data:=.seq ([]:ve n_).toArray}).get? (c_ s)=a_ {cls:=.type "list",data:=.seq #[]}:=q0O 0
 change wpAny _ A.in1 (Zz (.ref (c_ s)) (.ref r) (.ref (c_ s))) _ _ _
 let key:=Gy (A:=A) (s:={s with heap:=s.heap.push {cls:=.type "list",data:=.seq ([]:ve n_).toArray} }) (prog:=prog) (w:=w) (es:=es) (ep:=ep) (oc:=oc) (r:=r) (d:=d)
  (R:=λ(q:Result)(s':oa)=>∃(h':r_)(tk:Nat)(av:q0p 0)(c':Nat)(as:ve o_),q=.ok (.ret (.ref (c_ s)))/\s'={s with heap:=h',toks:=tk}/\
   (∀b o,I_ 0=a_ o->q0A 0=a_ o)/\h'.get? (c_ s)=a_ {cls:=.type "list",dict:=b_,data:=.seq av c',slots:=#[]}/\as.length=es.size/\Prs es (c_ s) h' as/\av.toList=as.map YH)
  hh (let ⟨o,ho,x⟩:=hv;⟨o,XO _ ho,x⟩) (XO _ hD) h2 (c_ s) (Za hr) (Yj hd) (.ref (c_ s)) 0 ja
  (λh' tk av c' as hk df hl hG ah=>⟨h',tk,av,c',as,rfl,rfl,λb o e=>hk b o (Yj (XZ e)) (XO _ e),df,hl,hG.low (by change (c_ s)<=(s.heap.push _).objs.size;rw[Zn];show Nat.le_succ _),ah⟩) hn
 let fin:∀(h':r_)(tk:Nat)(av:q0p 0)(c':Nat)(as:ve o_),(∀b o,I_ 0=a_ o->q0A 0=a_ o)->h'.get? (c_ s)=a_ {cls:=.type "list",dict:=b_,data:=.seq av c',slots:=#[]}->as.length=es.size->Prs es (c_ s) h' as->av.toList=as.map YH->R av.toList {s with heap:=h',toks:=tk}:=λh' tk av c' as hk _ hl hG ah=>by rw[ah];show h h' tk as hk hl hG
 refine ZG key (λfn s' x=>?_) λe s' x=>?_
 ·cases fn with
  |done f=>
   let⟨h',tk,av,c',as,e,rfl,hk,df,hl,hG,ah⟩:=x;cases e
   change wpAny _ A (load (c_ s) >>= _) _ _ _
   refine XJ (wpAny_load df (XM ?_));show fin h' tk av c' as hk df hl hG ah
  |again c₁=>
   refine⟨x.1,y12 x.2 λq s₂ y=>?_⟩;let⟨h',tk,av,c',as,rfl,rfl,hk,df,hl,hG,ah⟩:=y
   change wpAny _ A (load (c_ s) >>= _) _ _ _
   refine XJ (wpAny_load df (XM ?_));show fin h' tk av c' as hk df hl hG ah
 ·let⟨_,_,_,_,_,e',_⟩:=x;cases e'
section
variable{k:Nat}
theorem LK:∀{ps:ve PV}{vs:ve V},ps.length=vs.length->(∀(i:Nat) p v,ps[i]?=a_ p->vs[i]?=a_ v->y_ p v)->C_ ps vs
 |[],[],_,_=>trivial
 |p::ps,v::vs,hl,h=>⟨h 0 p v rfl rfl,LK (i_ hl) λi a b ha hb=>h (i+1) a b (i_ ha) (i_ hb)⟩
 |[],_::_,hl,_=>by cases hl
 |_::_,[],hl,_=>by cases hl
end
def CS(h:PH)(n:Nat):v_ (ve PV):=match h[n]? with
 |some (.vw 0 d)=>match h[d]? with
  |some o=>wF o
  |none=>b_
 |_=>b_
open PySem.SeqAt PySem.W
def oU(x:PV)(h:PH):v_ (ve PV):=match x with
 |.ref n=>match aV h n with
  |some ys=>a_ ys
  |none=>CS h n
 |.fl ys=>a_ ys
 |_=>b_
noncomputable def jF(f:Fn)(b:Bool)(kb:Nat)(x:PV)(h:PH):Rs PV:=match oU x h with
 |some ys=>if ys.length<1000000 then jK f b kb ys ys [] h else .bad
 |none=>.bad
noncomputable def oV(f:Fn)(b:Bool)(kb:Nat)(me:Me):Me:=λδ h=>(me δ h).bind λx h1=>jF f b kb x h1
theorem Jk{k:Nat}{σ:St}{b:o_}{d:Nat}{o:MO}(c:q0n X)(I:P_ s)(rh:H_ h)(hb:φ[d]?=a_ b)(hH:H a=a_ (Ku 0 a b))(ho:h[d]?=a_ o)(ey:wF o=a_ ys)(hz:ys.length<1000000):
  wpAny (fI X) X.A.in1 (collect (.ref a)) (λits s1=>∃H1 us,zT H H1/\f_ H1 s1/\aW us its/\RVs C φ H1 ys us) X.xe s:=by
 let⟨ks,u,oc,es,ep,W⟩:=PQ c I rh hb ho (Jc ey);let hv:s.heap.IsItemsView a b:=(I.hok a _ hH).1;let⟨ly,ent⟩:=W.items ys ey;let lk:=W.len;let hn:es.size<=X5:=by rw[YL];omega
 refine EM (I.ok.hd c.calm) hv W.get W.data hn λh' tk as kp hl hG=>?_;let ub:(as.zip (ks.map λkv=>[kv.1,kv.2])).map (·.1)=as:=by
  change(as.zip _).map y0i=as
  rw[List.map_fst_zip];rw[XR];omega
 let bz:∀q∈as.zip (ks.map λkv=>[kv.1,kv.2]),(c_ s)<=q.1:=λq hq=>by
  have:q.1∈as:=by rw[<-ub];show Yt.mpr ⟨q,hq,rfl⟩
  show y1a (hG.above _ this)
 let nd:((as.zip (ks.map λkv=>[kv.1,kv.2])).map (·.1)).Nodup:=by rw[ub];show hG.rise.imp λh=>Yj h
 let each:∀(j:Nat)(t:o_),as[j]?=a_ t->∃(kv:V×V)(e:y0o),ks[j]?=a_ kv/\(as.zip (ks.map λkv=>[kv.1,kv.2]))[j]?=a_ (t,[kv.1,kv.2])/\RelV kv.1 e.key/\RelV kv.2 e.val/\h'.get? t=a_ {cls:=.type "tuple",data:=.seq #[e.key,e.val]}:=λj t ht=>by
  let⟨e,e1,e2⟩:=hG.pairs j t ht;let hj:=(XN.mp ht).1;let⟨kv,jw,r1,r2⟩:=W.ent j ⋯;let ee:es[j]'⋯=e:=by have:=YX (xs:=es) (i:=j) ⋯;rw[this]at e1;cases e1;rfl
  refine⟨kv,e,jw,?_,by rw[<-ee];show r1,by rw[<-ee];show r2,e2⟩;rw[y0Y];show⟨ht,by simp[jw]⟩
 let vr:∀l:ve o_,aW (l.map V.ref) (l.map YH):=λl=>by
  induction l with
  |nil=>exact .nil
  |cons a l ih=>exact .cons rfl ih
 refine⟨_,as.map V.ref,BN I bz,I.laidT (t':=tk) (ps:=as.zip (ks.map λkv=>[kv.1,kv.2])) kp bz (λp hp=>?_),vr as,?_⟩
 ·let⟨j,hj⟩:=y0c.mp hp;let ha:as[j]?=a_ p.1:=by have:=congrArg (λl=>l[j]?) ub;simp[hj]at this;show this.symm
  let⟨kv,e,_,e2,r1,r2,e3⟩:=each j p.1 ha;rw[hj]at e2;let eq2:p.2=[kv.1,kv.2]:=by have:=Yp e2;rw[this]
  refine⟨by rw[eq2,YL];change 2<=16777216;decide,[e.key,e.val],by rw[eq2];show .cons r1 (.cons r2 .nil),⟨_,e3,rfl,⟨0,rfl⟩,rfl⟩⟩
 ·refine LK (by rw[XR];omega) λi p v hp yz=>?_;rw[XT]at yz;let⟨t,ht,rfl⟩:=Yo.mp yz;let⟨kv,e,jw,e2,_⟩:=each i t ht;let⟨p1,p2,kv',rfl,pf,q1,q2⟩:=ent i p hp;rw[jw]at pf;cases pf
  let T:=Kp.same (BN I bz);show⟨t,[kv.1,kv.2],rfl,.inl (.inl (Eg nd e2)),q1.mono X0 T,q2.mono X0 T,trivial⟩
variable{kw:ve (Str×n_)}
theorem EO{k:Nat}{st:u_}{q:o_}{f:Fn}(c:q0n X)(D:Def C.K X.mg x st q fd pn)(G:q0d q fd pn (spM C 1 f))(hj:j+2<=k)(Wj:∀v,argsOk "sorted" ⟨[v],kw⟩)(aq:∀v,argsOk "list.sort" ⟨[.ref v],kw⟩)(ht:∀v,Builtin.«list.sort» ⟨[.ref v],kw⟩=ksk_tree v (.ref q) b){σ:St}{Q:VK}{v:V}(I:P_ s)(ru:RelV v u)(h:r1 C (jF f b kb) v H Q):
  wpAny (fI X) X.A (call (.builtin "sorted") [u] kw) (q0q Q) X.xe s:=by
 let⟨φ,h,p,rh,rp,po⟩:=h;unfold jF at po;cases ei:oU p h with
 |none=>rw[ei]at po;show po.elim
 |some ys=>
 rw[ei]at po;let⟨h64,po⟩:=po.ite;refine call_function_entry_kw kind_sorted plain_sorted entry_sorted (Wj u) ?_;unfold Builtin.«sorted»;refine XJ (m:=checkCount "sorted" 1 1 _) (XM ?_);let col:wpAny (fI X) X.A.in1 (collect u) (λits s1=>∃H1 us,zT H H1/\f_ H1 s1/\aW us its/\RVs C φ H1 ys us) X.xe s:=by
  let jq:∀{a:o_}{vs:ve V},v=.ref a->SqL C.K H a vs->C_ ys vs->wpAny (fI X) X.A.in1 (collect u) (λits s1=>∃H1 us,zT H H1/\f_ H1 s1/\aW us its/\RVs C φ H1 ys us) X.xe s:=λ{a vs} ev sa ra=>by
   subst ev;cases ru
   let lj:SqL X.K H a vs:=by rw[c.K];show sa
   let⟨its,rv,pl,hz⟩:=I.list lj;refine collect_list pl.isList ?_ (by have:=rv.length;have:=ra.length;rw[YL];omega);show⟨H,vs,λ_ _ z=>z,I.kept (t':=s.toks) λb o e=>by
    let ao:b<(c_ s):=XZ e
    first
     |(rw[Heap.get?_update_ne _ _ _ _ (Yj ao),y1K _ _ _ (Yj ao)];show e)
     |exact XO _ e,rv,ra⟩
  unfold oU at ei;split at ei
  ·rename_i n;let⟨a,ev,ha⟩:=rp;split at ei
   ·rename_i ys' e;cases ei
    let⟨a2,vs,aq,sa,ra⟩:=cJ rh e;rw[ha]at aq;cases aq;show jq ev sa ra
   ·unfold CS at ei;split at ei
    ·rename_i d hv;split at ei
     ·rename_i o ho;subst ev;cases ru
      let⟨bb,hb,hH⟩:=q0l hv;show Jk c I rh hb hH ho ei h64
     ·cases ei
    ·cases ei
  ·cases ei
   let⟨a,vs,ev,sa,ra⟩:=rp;show jq ev sa.sq ra
  ·cases ei
 refine XJ (ZG col (λits s1 hh=>?_) λ_ _ z=>z);let⟨H1,us,sm,I1,rv,ry⟩:=hh;let po:=po.weak X0 (Kp.same sm);let rh:=rh.same sm;clear sm I;let KP:us.length=its.length:=rv.length;let zx:ys.length=us.length:=ry.length;refine XJ (wpAny_newList ?_ (by rw[YL];omega));let jd:(s1.heap.push (seqObj "list" its.toArray 0)).get? (c_ s1)=a_ (seqObj "list" its.toArray 0):=q0O 0;let keep:∀b o,s1.heap.get? b=a_ o->b≠(c_ s1)/\(s1.heap.push (seqObj "list" its.toArray 0)).get? b=a_ o:=λb o q=>⟨Yj (XZ q),XO _ q⟩;let fr:∀kS,(c_ s1)<=kS->X.s₀.heap.objs.size<=kS/\kS≠X.env.locals/\(∀x c,Z_ 0=a_ c->c≠kS)/\(∀p∈X.pn++FR,p.1≠kS)/\kS∉X.fs:=λkS hk=>Li I1 hk
 change z_ _ _ _ {s1 with heap:=s1.heap.push (seqObj "list" its.toArray 0)}
 refine XJ (YZ (wpAny_call_entry_kw slot_list_sort ⟨_,jd,rfl⟩ entry_list_sort ?body (aq _)))
 case body=>
  change wpAny (fI X) X.A.in1.in1 (Builtin.«list.sort» ⟨[.ref (c_ s1)],kw⟩) _ _ _
  rw[ht (c_ s1)];refine G3 (s:={s1 with heap:=s1.heap.push (seqObj "list" its.toArray 0)}) (a:=(c_ s1)) (κ:=tuples' (decide (kb≠2))) (vs:=its) jd ⋯ (Lw C X FR σ φ H1 f b kb ys Q (c_ s1) (c_ s1)) ?h0 ?j6 ?turn ?fin
  case h0=>
   intro kS e1 h' kp hk g1 g2;let g9:(c_ s1)<kS:=by have:(s1.heap.push (seqObj "list" its.toArray 0)).objs.size<=kS:=hk;rw[Zn]at this;show this
   let I2:f_ H1 {s1 with heap:=h'}:=I1.kept (t':=s1.toks) λb o q=>kp b o (keep b o q).1 (keep b o q).2;let fk:=fr kS (y1a g9);let fa:=fr (c_ s1) (X1 _);refine⟨g9,H1,φ,h,[],[],I2.pins_of λp hp=>?_,X0,Kp.refl H1,rh,.nil,trivial,po⟩;rcases X7.mp hp with hp|hp
   ·show I2.pin p (XS _ hp)
   ·rcases Yf.mp hp with rfl|hp
    ·show⟨g2,I1.hok.fresh (y1a g9),fk.2.1,fk.2.2.2.2,qJ⟩
    ·rw[YC.mp hp];show⟨g1,I1.hok.fresh (X1 _),fa.2.1,fa.2.2.2.2,qJ⟩
  case j6=>rintro kS e1 ks e s' ⟨hz,H',φ',h',zs,ps,I',_⟩;show⟨Za hz,(I'.pin (s1.heap.objs.size,seqObj "list" #[] e1) (XS _ (XS _ (XW _ XY)))).1,(I'.pin (kS,seqObj "list" ks.toArray e) (XS _ (XS _ XY))).1⟩
  case turn=>intro kS e1 ks e s' y hy hJ;show Jj c D G hj ry rv rfl fr kS e1 ks e s' y hy hJ
  case fin=>
   rintro kS e1 ks e s' hl ⟨hz,H',φ',h',zs,ps,I',pp,tt,dk,rz,rp',po'⟩;let hd:ys.drop ks.length=[]:=List.drop_eq_nil_of_le ⋯;rw[hd]at po';unfold jK at po';cases es:C1 b kb ps ys with
   |none=>rw[es]at po';show po'.elim
   |some out=>
   rw[es]at po';unfold C1 at es;split at es
   ·rename_i hc;let⟨hc1,c9,ok,W9⟩:=hc;cases es
    let wq:ps.length=zs.length:=rp'.length;let hzk:zs.length=ks.length:=rz.length;let hu:=c.hu64;let hr:HRs s'.heap ps ks:=CH I' c.K 20 ok.ky rp' rz;let memD:∀i,i<its.length->ps.getD i .non∈ps:=λi hi=>by
     let h1:i<ps.length:=⋯;have:ps.getD i .non=ps[i]:=by simp[h1]
     rw[this];show Yw h1
    refine⟨λi j=>ltN (ps.getD i .non) (ps.getD j .non),λi j k hi hj hk h1 h2=>Gh h1 h2,λi j hi hj h=>Gi h,λh2 Q' E' hq=>?_,λi j hi hj Q' hq=>?_,λp g e2 a1 a2 kp he gk=>?_⟩
    ·show Ol ok.m3 hr ok.fk ⋯ hq
    ·let mi:=memD i hi;let mj:=memD j hj;let⟨bb,hb⟩:=y03.mp (ok.lt _ mi _ mj);let hq:Q' (ltN (ps.getD i .non) (ps.getD j .non)) s':=hq;rw[Ld hb]at hq;let⟨qs,eq,_⟩:=Lh ok.m3 (ok.fk _ mj);show Lg (n:=19) (by change X.A.units+1+1+19<cLine;omega) (ok.ky _ mi) (ok.ky _ mj) (Lh ok.m3 (ok.fk _ mi)) ⟨qs,eq⟩ (hr.getD ⋯) (hr.getD ⋯) hb hq
    ·let ix:∀i∈p,i<its.length:=λi hi=>by simpa using a1.mem_iff.mp hi
     let fa:=fr (c_ s1) (X1 _);let fk:=fr kS (y1a hz);let XG:=I'.pin (kS,seqObj "list" ks.toArray e) (XS _ (XS _ XY));let z9:=I'.pin (s1.heap.objs.size,seqObj "list" #[] e1) (XS _ (XS _ (XW _ XY)));let I5:f_ H' s':=I'.unpinned;let I6:=I5.adopt (a:=(c_ s1)) (d:=kS) (o:=.lst (p.map λi=>us.getD i .non)) (h':=g) z9.2.1 XG.2.1 fa fk (λx o h1 h2 q=>kp x o h1 h2 q) (by refine⟨?_,p.map (λi=>its.getD i Yn),e2,BO rv (λi hi=>by have:=ix i hi;omega),he⟩;rw[XR,a1.length_eq,y06,YL];omega)
     refine⟨_,rfl,XM ⟨_,rfl,.ref (c_ s1),_,I6,rfl,?_⟩⟩;refine po'.lnew dk ?_ z9.2.1;rw[<-EI (b:=b) c9 ok W9 (p:=p) (by rw[zx,KP];show a1) a2];show(ry.mono pp tt).pick (λi hi=>by have:=ix i hi;omega)
   ·cases es
section
variable{kf:Str}{st:u_}{q:o_}{jb:Nat}{f:Fn}{p kp fj rp i4:Pos}
theorem Jl{Q:VK}{σ:St}(h:rd C (oV f b kb me) σ H Q):Pt (rd C me) Qy σ H λvs H1=>∃x,vs=[x]/\r1 C (jF f b kb) x H1 Q:=by let⟨φ,δ,h,rh,re,po⟩:=h;refine⟨φ,δ,h,rh,re,(post.bind po).imp ?_⟩;rintro v H1 ⟨φ1,x,h1,p1,t1,ab,ae,q1⟩;show⟨v,rfl,φ1,h1,x,ab,ae,q1⟩
theorem AA{k:Nat}(D:Def C.K X.mg kf st q fd pn)(G:q0d q fd pn (spM C 1 f))(he:G_ e me)(hb:("sorted" : Str)∈C.bs)(hj:j+2<=k:=by decide)(hg:Gl X "sorted" := by rfl)(WG:Gl X kf:=by rfl)(hdk:(kf == ("__debug__" : Str))=false:=by decide)(b9:Yr [e] X.env=(false,q0j 0)::Yr [] X.env:=by rfl)(WL:q0Q (Yr [e] X.env)=(false,q0j 0)::q0Q (Yr [] X.env):=by rfl)(bz:(q0Q (Yr [e] X.env)).any (·.1)=false:=by rfl):
  G_ (.Call (.Name "sorted" p) [e] [⟨a_ "key",.Name kf kp,fj⟩] pos) (oV f false kb me):=λc FR s σ H Q I h=>by
 refine y1o (sH I hg (c.bn _ hb) PyProof.Rows.Boot.«sorted» ?_ nofun nofun);refine callWith_kw (thn (yX (he c) Cd b9 pos FR s σ H _ I (Jl h)) λus s1 hh=>?_) WL bz;let⟨vs,H1,I1,rv,x,rfl,r⟩:=hh;let⟨u,rfl,ru⟩:=vals1 rv;refine kws_cons (Ca I1 WG D.mg (kws_nil ?_) hdk)
 change z_ (call (.builtin "sorted") [u] [(Zj "key",.ref q)]) _ _ _
 show EO c D G hj (λv=>ksk_s1 _ _) (λv=>ksk_l1 _ _) (λv=>ksk_t1 _ _) I1 ru r
end
section
variable{α:Type}
theorem ES{key emb:α->PV}{f:Fn}{xs:ve α}{x:PV}{Q:PV->PH->Prop}(e:oU x h=a_ (xs.map emb))(h1:xs.length<1000000)(ok:OkN m (xs.map key))(hc:∀a∈xs,∀c∈xs,key a=key c->emb a=emb c)(hf:∀d∈xs,∀h(Q:PV->PH->Prop),(∀h',q0x 0->Q (key d) h')->(f [emb d] h).W Q)(k:∀(os:ve α) h',q0x 0->os.Perm xs->os.Pairwise (λa c=>ltN (key c) (key a)=false)->Q (.ref h'.length) (h'++[.lst (os.map emb)])):(jF f false m x h).W Q:=by
 let⟨os,p,pw,es⟩:=Ou h1 ok hc;unfold jF;rw[e];dsimp only;rw[if_pos (i_ h1)];show Hu xs [] h hf es λh' hx=>k os h' hx p pw
end
@[simp]theorem AB{m:Me}{f:Fn}:oV f b n m δ h=(m δ h).bind λx h1=>jF f b n x h1:=(rfl)
theorem AC(e:h[n]?=a_ (.lst xs)):oU (.ref n) h=a_ xs:=by simp[oU,aV,e]
theorem ET{d:Nat}{o:MO}(e:h[n]?=a_ (.vw 0 d))(e2:h[d]?=a_ o):oU (.ref n) h=wF o:=by simp[oU,aV,CS,e,e2]
theorem Jm:y09 "enumerate" = a_ (.type "enumerate"):=by first|rfl|decide +kernel|kernel_rfl
def ItE(K:XQ)(l:o_):It:=
 ⟨λi H=>∃vs v,q0S l vs/\vs[i]?=a_ v,
  λi H y H'=>∃t v,H t=b_/\(∀vs,q0S l vs->vs[i]?=a_ v)/\y=.ref t/\H'=q0r t (.tup [.int (i:Nat),v]),
  λi H=>∃vs,q0S l vs/\vs.length<=i⟩
theorem Jn(l e it:o_)(xa:e≠it):
  Turn P w K (.Tuple elts x1 pos) (ItE K l) [e,it] e (λi h=>(∃old,IsEnum h e it (i:Nat) old)/\h.IsListIter it l i) where
 mem:=by simp
 obj:=λi h ⟨⟨old,he⟩,⟨o1,e1,_,d1⟩⟩ b hb=>by
  simp only[Yf,ZJ,or_false]at hb;rcases hb with rfl|rfl
  ·show⟨_,he,λv q=>by cases q⟩
  ·show⟨_,e1,λv q=>by rw[d1]at q;cases q⟩
 keep:=λi h h' ⟨⟨old,he⟩,h1⟩ k=>⟨⟨old,k e (by simp) _ he⟩,h1.at λo q=>k it (by simp) o q⟩
 item:=by
  intro X hP hw hK hc i FR s σ H E I hf ⟨⟨old,he⟩,h1⟩ ⟨vs,v,hq,hv⟩;subst hP hw hK;let⟨its,rv,p,hsz⟩:=I.list hq;let⟨u,hu,ru⟩:=rv.get hv;let hl:=p.isList;let⟨o1,e1,c1,d1⟩:=id h1;refine wpAny_pyNext_enum_item he h1 hl (x:=u) (i_ hu) xa λh' a1 a2 a5 a6 kp=>⟨_,rfl,?_⟩;refine wpAny_letOwnedTupleGo_enum (s:={s with heap:=h',toks:=s.toks+1}) a1 λfu hI same=>?_;let fr:H (c_ s)=b_:=I.hok.fresh (X1 _);let nt:∀{b:o_}{o:Obj},I_ 0=a_ o->(c_ s)≠b:=λe=>Za (XZ e);let sb:∀(b:o_)(o:Obj),b≠e->q0A 0=a_ o->fu.get? b=a_ o:=λb o hb q=>(same.2 b hb).trans q;let vn:=sb _ _ (nt he) a5;let bu:∀(b:o_)(o:Obj),b∉[e,it]->I_ 0=a_ o->fu.get? b=a_ o:=λb o hb q=>sb b o (λz=>hb (by simp[z])) (kp b o (λz=>hb (by simp[z])) (λz=>hb (by simp[z])) q);let du:∀b u,H b=a_ u->b∉[e,it]:=λb u q z=>by have:=(hf b z).1;rw[this]at q;cases q
  let gh:∀b u,H b=a_ u->b≠(c_ s):=λb u q z=>by rw[z,fr]at q;cases q
  refine⟨.ref (c_ s),q0r (c_ s) (.tup [.int (i:Nat),v]),?_,rfl,⟨_,v,fr,λys hy=>by rw[I.list_inj hy hq];show hv,rfl,rfl⟩,⟨⟨_,i_ hI⟩,a2.at λo q=>sb _ _ (ZK xa) q⟩,λb hb=>?_⟩
  ·refine Inv.step (s:=s) (h':=fu) (H:=H) (g':=s.gens) (d':=s.drawn) (t':=s.toks+1) (ch:=[e,it]) I (λb hb=>?_) (λb o _ _ hc q _=>bu b o hc q) (λb o _ _ hc q _=>⟨o.slots,bu b o hc q⟩) (λb o hc q n=>?_)
    (λb o hc q=>⟨o,bu b o hc q⟩) (λb xs q=>by rw[aS (gh _ _ q)];show q) (λb o u q=>by rw[aS (gh _ _ q)];show q) (λb ps q=>⟨#[],by rw[aS (gh _ _ q),q];simp⟩) (λm hm=>?_) (λb u q=>?_) I.bare
   ·let⟨f0,f1,f2,f3,f4,f5⟩:=hf b hb;show⟨f3,f1,f4,f5⟩
   ·rw[aS (Yj (XZ q))];show n
   ·let⟨o,es,ep,ho,r⟩:=hm;show⟨o,es,ep,bu _ o (λq=>(hf _ q).2.1 rfl) ho,r⟩
   ·by_cases hb:b=(c_ s)
    ·subst hb;rw[bH]at q;cases q
     show⟨by change 2<=X5;rw[kI];decide,[.int (i:Nat) s.toks,_],.cons ⟨_,rfl⟩ (.cons ru .nil),_,vn,rfl,⟨_,rfl⟩,rfl⟩
    ·rw[aS hb]at q;refine(I.hok b u q).stay (λc v hc z=>bu c v ?_ z) (λc z=>by rw[aS (gh _ _ z)];show z) λc xs z=>by rw[aS (gh _ _ z)];show z
     rcases hc with z|z
     ·rw[z];show du b u q
     ·show du c _ z
  ·let hb':=(hf b hb).1;have:b≠(c_ s):=by
    simp only[Yf,ZJ,or_false]at hb;rcases hb with rfl|rfl
    ·show(nt he).symm
    ·show(nt e1).symm
   rw[aS this];show hb'
 done:=by
  intro X hP hw hK hc i FR s σ H E I hf ⟨⟨old,he⟩,h1⟩ ⟨vs,hq,hd⟩;subst hP hw hK;let⟨its,rv,p,hsz⟩:=I.list hq;let hlen:=rv.length;let hl:=p.isList;refine wpAny_pyNext_enum_end (I.ok.hd hc) he h1 hl (by simp;omega) λh' kp=>⟨rfl,?_⟩;let bu:∀(b:o_)(o:Obj),b∉[it]->I_ 0=a_ o->q0A 0=a_ o:=λb o hb q=>kp b o (λz=>hb (by simp[z])) q;let sub:∀b,b∈[it]->b∈[e,it]:=λb hb=>XW _ hb;let du:∀b u,H b=a_ u->b∉[it]:=λb u q z=>by have:=(hf b (sub b z)).1;rw[this]at q;cases q
  refine Inv.step (s:=s) (h':=h') (H:=H) (g':=s.gens) (d':=s.drawn) (t':=s.toks) (ch:=[it]) I (λb hb=>?_) (λb o _ _ hc q _=>bu b o hc q) (λb o _ _ hc q _=>⟨o.slots,bu b o hc q⟩) (λb o hc q n=>n)
   (λb o hc q=>⟨o,bu b o hc q⟩) (λb xs q=>q) (λb o u q=>q) (λb ps q=>⟨#[],by rw[q];simp⟩) (λm hm=>?_) (λb u q=>?_) I.bare
  ·let⟨f0,f1,f2,f3,f4,f5⟩:=hf b (sub b hb);show⟨f3,f1,f4,f5⟩
  ·let⟨o,es,ep,ho,r⟩:=hm;show⟨o,es,ep,bu _ o (λq=>(hf _ (sub _ q)).2.1 rfl) ho,r⟩
  ·refine(I.hok b u q).stay (λc v hc z=>bu c v ?_ z) (λ_ z=>z) λ_ _ z=>z;rcases hc with z|z
   ·rw[z];show du b u q
   ·show du c _ z
 self:=λ_ _ _ _ _ ⟨⟨_,he⟩,_⟩ h=>wpAny_pyIter_enum he h
def iEn(X:Cx)(ta:TA):TI:=λσ H R=>ta σ H λvs H1=>∃l xs,vs=[.ref l]/\SqL X.K H1 l xs/\R (ItE X.K l) H1
theorem OE{a:t_}{ta:TA}{p:Pos}{tp:Pos}(hg:Gl X "enumerate")(hm:X.mg "enumerate" = b_)(ha:PA X [a] ta)(hs:Yr [a] X.env=[(false,eval a X.env)]:=by rfl):
  PI X (.Tuple elts x1 tp) (.Call (.Name "enumerate" p) [a] [] pos) (iEn X ta):=by
 intro FR s σ H R I h;refine Call_ (sH I hg hm Jm (ZT (thn (q0P 0) λus s1 hz=>?_) hs rfl));let⟨vs,H1,I1,r1,q1⟩:=hz;let⟨l,xs,e,hq,q⟩:=q1;subst e;cases r1 with
 |cons r rr=>
  cases rr
  cases r
  let⟨its,rv,pl,hz⟩:=I1.list hq;refine call_enumerate_list pl.isList λh' a1 a2 a3 kp=>?_;refine wpAny_pyIter_enum a1 ?_;refine⟨(c_ s1)+1,[(c_ s1)+1,(c_ s1)],_,_,H1,rfl,I1.kept (t':=s1.toks) kp,Jn l _ _ (Za (y1i (c_ s1))),⟨⟨_,a1⟩,a2⟩,λb hb=>?_,q⟩;let hle:(c_ s1)<=b:=by
   simp only[Yf,ZJ,or_false]at hb;rcases hb with e|e
   all_goals rw[e]
   all_goals first|exact X1 _|exact y0O _ _
  show I1.fpOk hle (I1.hok.fresh hle)
def enP(xs:ve PV):ve PV:=xs.mapIdx λi p=>PV.tup [.int (i:Nat),p]
def enI:ve PV->PH->Rs Wk:=λps h=>match ps with
 | [.ref n]=>(match aV h n with
   |some xs=>.ok ⟨enP xs,uF n xs⟩ h
   |none=>.bad)
 |_=>.bad
def mEn(ms:Ma):Mi:=λδ h=>(ms δ h).bind enI
theorem RF{k:Nat}{x:t_}{tp p:Pos}(ha:SA C k X [x] ms)(hb:("enumerate" : Str)∈C.bs:=by decide)(hg:Gl X "enumerate" := by rfl)(hs:Yr [x] X.env=[(false,eval x X.env)]:=by rfl):
  SI C k X (.Tuple elts x1 tp) (.Call (.Name "enumerate" p) [x] [] pos) (mEn ms):=λc=>
 (OE hg (c.bn _ hb) (ha c) hs).imp λσ H R h=>by
  let⟨φ,δ,h,rh,re,p⟩:=h;refine⟨φ,δ,h,rh,re,(postA.bindI p).imp ?_⟩;rintro vs H1 ⟨φ1,xs,h1,p1,t1,ab,ae,q1⟩;unfold enI at q1;split at q1
  ·rename_i n;let⟨v,rfl,rx⟩:=ae.one;let⟨a,rfl,ha'⟩:=rx;cases e:aV h1 n with
   |none=>rw[e]at q1;show q1.elim
   |some xs=>
    rw[e]at q1;let⟨a2,us,aq,sa,ra⟩:=cJ ab e;rw[ha']at aq;cases aq;rw[<-c.K]at sa;refine⟨a,us,rfl,sa,q1 φ1 H1 (ItE X.K a) X0 (Kp.refl H1) ab λφ2 H2 h2 p2 t2 ar hg i=>?_⟩;let hg:(match aV h2 n with|some ys=>PV.beqs ys xs|none=>false)=true:=hg
    cases e2:aV h2 n with
    |none=>rw[e2]at hg;cases hg
    |some ys=>
     rw[e2]at hg;let j8:=PV.beqs_eq hg;subst j8;let⟨a3,f7,jo,su,ru⟩:=cJ ar e2;rw[kF p2 ha']at jo;cases jo;rw[<-c.K]at su;let hl:=ru.length
     change(i<(enP ys).length->_)/\((enP ys).length<=i->_)
     rw[show(enP ys).length=ys.length by simp[enP]];refine⟨λhi=>?_,λhi=>⟨f7,su,⋯⟩⟩;let wt:i<f7.length:=⋯
     refine⟨⟨f7,f7[i],su,by simp[wt]⟩,λy H' yl=>?_⟩;let⟨t,v,ht,hv,rfl,rfl⟩:=yl;let⟨pp,ep,rp⟩:=ru.get (hv f7 su);refine⟨⟨.tup [.int (i:Nat),pp],?_,?_⟩,Kp.new ht,ar.aside ht⟩
     ·change(enP ys)[i]?=_
      unfold enP;rw[List.getElem?_mapIdx,ep];rfl
     ·show⟨t,[.int (i:Nat),v],rfl,.inl (.inl bH),rfl,rp.mono X0 (Kp.new ht),trivial⟩
  ·show q1.elim
open PySem.W
def PR:Ms:=λ_ _=>.bad
theorem U3{k:Nat}{st:u_}:SSt C k X st PR:=λc _ _ σ H _ I h=>by let⟨φ,δ,h,rh,re,p⟩:=h;show p.elim
end L2
namespace K44
open PySem L2
local macro_rules|`(l_ $x)=>`(mC (.int $x))
noncomputable section
def EU:Ms:=
 (aO (aZ 2 (q0F (mV 2) (F_ (mV 1) (aD kX (mV 3) (l_ 26)))))
  (aZ 3 (q0F (aD A8 (mV 3) (l_ 26)) (aD IS (l_ 7) (mV 4)))))
def Gz:Ms:=
 (aO (aZ 1 (mC (.str "abcdefghijklmnopqrstuvwxyz")))
 (aO (aZ 2 (mC (.str "")))
 (aO (aZ 3 (aD A8 (mV 0) (l_ 8)))
 (aO (kH (Hl (aB (q0F (l_ 1) (aD kX (mV 0) (l_ 8))) aE)) (gN 4) EU)
 (bY (mV 2))))))
def AD:Fn:=mFn 5 Gz
def iV:Ms:=(Ar "kept" (mV 0) Ag)
def bT:Fn:=mFn 1 iV
def iW:Ms:=(Ar "standing" (mV 0) (iS aE))
def bU:Fn:=mFn 1 iW
def jW:Ms:=
 (aO (Ar "signs" (mV 0) (qK "Signs" 0 bT aE))
 (Ar "marks" (mV 0) (qK "Marks" 0 bU aE)))
def cH:Fn:=mFn 1 jW
def sY:Ms:=
 (aO (yP (mV 0) (gTp 2 (gCn (gN 2) (gCn (gN 3) gNl))))
 (aO (yP (mV 1) (gTp 2 (gCn (gN 4) (gCn (gN 5) gNl))))
 (bY (q0F (mV 2) (cO (aB (cO (aB (mV 3) (aB (mV 4) (aB (mV 5) (aB (l_ 0) aE))))) aE))))))
def lQ:Fn:=mFn 6 sY
def sG:Ms:=(pZ (mMt isL (onL gK) (mV 11) (aB (q0F (F_ (mV 11) (aD kG (mV 12) (l_ 1))) (cO (aB (cO (aB (l_ 1) (aB (mV 9) (aB (mV 10) (aB (mV 12) aE))))) aE))) aE)))
def qL:Ms:=
 (aO (yP (mV 0) (gTp 3 (gCn (gN 1) (gCn (gN 2) (gCn (gN 3) gNl)))))
 (aO (yP (mV 3) (gTp 5 (gCn (gN 4) (gCn (gN 5) (gCn (gN 6) (gCn (gN 7) (gCn (gN 8) gNl)))))))
 (aO (yP (mV 1) (gTp 2 (gCn (gN 9) (gCn (gN 10) gNl))))
 (aO (aZ 11 (iS (aB (bS 2 lQ (aB (cO (aB (mV 6) (aB (mV 7) aE))) (aB (mV 1) aE))) aE)))
 (aO (kH (Em (aB (l_ 1) (aB (q1h (aB (mV 8) aE)) aE))) (gN 12) sG)
 (bY (mV 11)))))))
def jL:Fn:=mFn 13 qL
def pU:Ms:=(BZ (mV 4) (mUn (fH "kept") (mV 0)) (mV 3))
def mU:Ms:=
 (aO (aZ 2 (F_ (F_ (mV 1) (l_ 2)) (l_ 4)))
 (kH (OD (aB (bS 1 jL (aB (mV 1) aE)) (aB (mV 2) aE))) (gTp 2 (gCn (gN 3) (gCn (gN 4) gNl))) pU))
def eK:Fn:=mFn 5 mU
def wH:Ms:=(bY (q0F (mV 0) (cO (aB (cO (aB (l_ 0) aE)) aE))))
def eM:Fn:=mFn 1 wH
def sZ:Ms:=(bY (bS 1 eM (aB (F_ (mV 0) (l_ 0)) aE)))
def fJ:Fn:=mFn 1 sZ
def mW:Ms:=
 (cZ (bP (aD Ak (mV 3) (mUn (fH "kept") (mV 0))))
   (pZ (mMt isL (onL gK) (mV 2) (aB (cO (aB (mV 3) (aB (mMt pS C3 (mUn (fH "kept") (mV 0)) (aB (mV 3) aE)) aE))) aE)))
   fE)
def qM:Ms:=
 (aO (aZ 2 (iS aE))
 (aO (kH (bZ (mV 1)) (gN 3) mW)
 (bY (oV fJ false 2 (mV 2)))))
def gU:Fn:=mFn 4 qM
def oW:Ms:=
 (aO (yP (mV 1) (gTp 3 (gCn (gN 2) (gCn (gN 3) (gCn (gN 4) gNl)))))
 (cZ (bP (aD rG (mV 2) (cS [b_] (bZ (mUn (fH "standing") (mV 0))) (gN 0) iU (F_ (mV 0) (l_ 0)))))
  (pZ (mMt isL (onL gK) (mUn (fH "standing") (mV 0)) (aB (cO (aB (mV 2) (aB (F_ (mV 4) (l_ 2)) (aB (F_ (mV 4) (l_ 3)) (aB (F_ (mV 4) (l_ 4)) (aB (cO aE) aE)))))) aE)))
  fE))
def fP:Fn:=mFn 5 oW
def AE:Str->v_ Fn:=λ(z:Str)=>if z=("Signs" : Str) then a_ eK else(λ_=>b_) z
def GA:Str->v_ Fn:=λ(z:Str)=>if z=("Signs" : Str) then a_ gU else(λ_=>b_) z
def CT:Str->v_ Fn:=λ(z:Str)=>if z=("Marks" : Str) then a_ fP else(λ_=>b_) z
def EV:Str->v_ Fn:=λ_=>b_
def jM:Ms:=
 (aO (aZ 2 (F_ (F_ (mV 1) (l_ 2)) (l_ 0)))
 (cZ (bP (aD vEq (mV 2) (mC (.str "write"))))
  (pZ (bM "write" 1 AE (mUn (fH "signs") (mV 0)) (aB (mV 1) aE)))
  (cZ (bP (aD vEq (mV 2) (mC (.str "cut"))))
   (pZ (bM "cut" 1 GA (mUn (fH "signs") (mV 0)) (aB (F_ (F_ (mV 1) (l_ 2)) (l_ 2)) aE)))
   (cZ (bP (aD vEq (mV 2) (mC (.str "mark"))))
    (pZ (bM "mark" 1 CT (mUn (fH "marks") (mV 0)) (aB (mV 1) aE)))
    (cZ (bP (aD vEq (mV 2) (mC (.str "clear"))))
     (pZ (bM "clear" 1 EV (mUn (fH "marks") (mV 0)) (aB (mV 1) aE)))
     fE)))))
def bK:Fn:=mFn 3 jM
def uU:Ms:=(pZ (mMt pS rH (mV 1) (aB (mV 2) (aB (mCB Ez (aB (mV 1) aE)) aE))))
def tB:Ms:=
 (aO (aZ 1 Ag)
 (aO (kH (bZ (oV eM false 2 (mV 0))) (gN 2) uU)
 (bY (mV 1))))
def oX:Fn:=mFn 3 tB
def tE:Ms:=(bY (q0F (iS (aB (cO (aB (F_ (mV 0) (l_ 1)) (aB (F_ (mV 0) (l_ 2)) aE))) aE)) (mCB mL (aB (F_ (mV 0) (l_ 4)) aE))))
def gO:Fn:=mFn 1 tE
def qN:Ms:=
 (aO (BZ (mC (.bl true)) (mV 1) (mV 3))
   (BZ (mC (.bl true)) (mV 1) (mV 4)))
def qO:Ms:=(kH (bZ (bS 1 gO (aB (mV 2) aE))) (gTp 2 (gCn (gN 3) (gCn (gN 4) gNl))) qN)
def oY:Ms:=
 (aO (aZ 1 Ag)
 (aO (kH (bZ (mUn (fH "standing") (mV 0))) (gN 2) qO)
 (bY (mCB mL (aB (mV 1) aE)))))
def fQ:Fn:=mFn 5 oY
def CU:Ms:=
 (aO (aZ 2 (cS [b_,b_,a_ 1] (bZ (mV 0)) (gTp 2 (gCn (gN 0) (gCn (gN 1) gNl))) iU (IX vLe vLe (mV 0) (mV 2) (mV 1))))
 (bY (Hi (F_ (mV 2) (l_ 0)) (Hj (mCB L5 (aB (mSl (mV 2) (mP (l_ 1)) fD) aE))))))
def rO:Fn:=mFn 3 CU
def CV:Str->v_ Fn:=λ(z:Str)=>if z=("Marks" : Str) then a_ fQ else(λ_=>b_) z
def iN:Ms:=(pZ (mMt isL (onL gK) (mV 3) (aB (cO (aB (F_ (mV 4) (l_ 3)) (aB (cS [b_,b_,a_ 2] (bZ (bS 1 gO (aB (mV 4) aE))) (gTp 2 (gCn (gN 0) (gCn (gN 1) gNl))) iU (cO (aB (F_ (mV 2) (mV 0)) (aB (F_ (mV 2) (mV 1)) aE)))) aE))) aE)))
def eO:Ms:=
 (aO (aZ 7 (F_ (mV 2) (mV 6)))
  (pZ (mMt isL (onL gK) (mV 5) (aB (mUn nS (cS [b_,b_,a_ 7] (bZ (mV 3)) (gTp 2 (gCn (gN 0) (gCn (gN 1) gNl))) (bP (bS 2 rO (aB (mV 1) (aB (mV 2) aE)))) (mV 0))) aE))))
def fX:Ms:=
 (aO (aZ 2 (bS 1 oX (aB (q0F (mV 1) (bM "ends" 0 CV (mV 0) aE)) aE)))
 (aO (aZ 3 (iS aE))
 (aO (kH (bZ (mUn (fH "standing") (mV 0))) (gN 4) iN)
 (aO (aZ 5 (iS aE))
 (aO (kH (bZ (mV 1)) (gN 6) eO)
 (bY (mV 5)))))))
def bQ:Fn:=mFn 8 fX
def oZ:Ms:=(bY (oV fJ false 2 (O8 pS rN (mUn (fH "kept") (mV 0)))))
def dE:Fn:=mFn 1 oZ
def mM:Str->v_ Fn:=λ(z:Str)=>if z=("Signs" : Str) then a_ dE else(λ_=>b_) z
def mX:Ms:=(bY (cS [b_,b_] (bZ (bM "rows" 0 mM (mUn (fH "signs") (mV 0)) aE)) (gTp 2 (gCn (gN 0) (gCn (gN 1) gNl))) iU (mV 0)))
def dH:Fn:=mFn 1 mX
def lT:Str->v_ Fn:=λ(z:Str)=>if z=("Marks" : Str) then a_ bQ else(λ_=>b_) z
def rP:Str->v_ Fn:=λ(z:Str)=>if z=("Text" : Str) then a_ dH else(λ_=>b_) z
def qP:Ms:=
 (aO (aZ 1 (bM "words_along" 1 lT (mUn (fH "marks") (mV 0)) (aB (bM "places" 0 rP (mV 0) aE) aE)))
 (bY (cS [b_,b_,a_ 1] (mEn (aB (bM "rows" 0 mM (mUn (fH "signs") (mV 0)) aE) aE)) (gTp 2 (gCn (gN 0) (gCn (gN 1) gNl))) iU (cO (aB (F_ (mV 1) (l_ 0)) (aB (F_ (mV 1) (l_ 1)) (aB (F_ (mV 2) (mV 0)) aE)))))))
def dX:Fn:=mFn 2 qP
def CW:Ms:=
 (aO (aZ 2 (aD kX (aD IS (q0F (q0F (mV 0) (aD IS (l_ 7919) (mV 1))) (l_ 1)) (l_ 48271)) (l_ 2147483647)))
 (bY (aD kX (aD IS (mV 2) (q0F (aD A8 (mV 2) (l_ 1009)) (l_ 69621))) (l_ 2147483647))))
def mN:Fn:=mFn 3 CW
def GB:Ms:=
 (aO (aZ 3 (cO aE))
 (aO (cZ (bP (aD vGt (mV 1) (l_ 1)))
  (aZ 3 (cO (aB (cO (aB (mV 0) (aB (aD kG (mV 1) (l_ 1)) aE))) aE)))
  fE)
 (bY (cO (aB (cO (aB (mV 0) (aB (mV 1) aE))) (aB (mV 3) (aB (mV 2) aE)))))))
def iX:Fn:=mFn 4 GB
def AF:Ms:=(bY (aD mK (bS 1 eM (aB (mV 0) aE)) (bS 1 eM (aB (mV 1) aE))))
def nT:Fn:=mFn 2 AF
def GC:Ms:=
 (aO (yP (mV 0) (gTp 3 (gCn (gN 4) (gCn (gN 5) (gCn (gN 6) gNl)))))
 (aO (cZ (bP (aD vEq (mV 6) (iS (aB (mV 2) aE))))
  (aZ 7 (l_ 0))
  (cZ (nO (bP (aD vEq (mV 6) (iS aE))) (bP (bS 2 nT (aB (mV 4) (aB (mV 3) aE)))))
   (aZ 7 (mUn wA (l_ 1)))
   (cZ (bP (aD vEq (mV 6) (iS aE)))
    (aZ 7 (l_ 1))
    (bY (mC .non)))))
 (aO (cZ (nO (bP (aD Ae (mV 1) (mC .non))) (bP (aD vNe (mV 1) (mV 7))))
  (bY (mC .non))
  fE)
 (bY (mV 7)))))
def pA:Fn:=mFn 8 GC
def LL:Ms:=
 (aO (aZ 4 (mUn wA (l_ 1)))
 (aO (aZ 5 (l_ 1))
 (aO (cZ (bP (aD vGt (mV 1) (l_ 0)))
  (aZ 4 (F_ (mV 0) (aD kG (mV 1) (l_ 1))))
  fE)
 (aO (cZ (bP (aD mK (mV 1) (q1h (aB (mV 2) aE))))
  (aZ 5 (F_ (mV 0) (mV 1)))
  fE)
 (aO (cZ (nO (bP (aD vGt (mV 1) (l_ 0))) (bP (aD vEq (F_ (F_ (mV 2) (aD kG (mV 1) (l_ 1))) (l_ 0)) (F_ (mV 3) (l_ 1)))))
  (bY (l_ 1))
  fE)
 (aO (cZ (nO (bP (aD mK (mV 1) (q1h (aB (mV 2) aE)))) (bP (aD vEq (F_ (F_ (mV 2) (mV 1)) (l_ 0)) (F_ (mV 3) (l_ 0)))))
  (bY (mUn wA (l_ 1)))
  fE)
 (aO (cZ (bP (aD vEq (mV 4) (mV 5)))
  (bY (mV 5))
  fE)
 (bY (mC .non)))))))))
def Hv:Fn:=mFn 6 LL
def fR:Str->v_ Fn:=λ(z:Str)=>if z=("Text" : Str) then a_ bK else(λ_=>b_) z
def dF:Str->v_ Fn:=λ(z:Str)=>if z=("Text" : Str) then a_ dX else(λ_=>b_) z
def wI:Ms:=
 (aO (aZ 6 (bS 4 Hv (aB (mV 2) (aB (mV 4) (aB (mV 1) (aB (mV 5) aE))))))
 (aO (pZ (bM "hear" 1 fR (mV 0) (aB (mV 3) aE)))
 (aO (aZ 7 (bM "told" 0 dF (mV 0) aE))
 (aO (aZ 8 (q1h (aB (F_ (F_ (mV 3) (l_ 2)) (l_ 4)) aE)))
 (aO (cZ (CA (bP (aD vNe (q1h (aB (mV 7) aE)) (q0F (q1h (aB (mV 1) aE)) (mV 8)))) (CA (bP (aD sT (mSl (mV 7) fD (mP (mV 4))) (mSl (mV 1) fD (mP (mV 4))))) (bP (aD sT (mSl (mV 7) (mP (q0F (mV 4) (mV 8))) fD) (mSl (mV 1) (mP (mV 4)) fD)))))
  (bY (mC .non))
  fE)
 (aO (cZ (bP (aD vNe (mMt Lq yB (mC (.str "")) (aB (cS [b_] (bZ (mSl (mV 7) (mP (mV 4)) (mP (q0F (mV 4) (mV 8))))) (gN 0) iU (F_ (mV 0) (l_ 1))) aE)) (F_ (F_ (mV 3) (l_ 2)) (l_ 4))))
  (bY (mC .non))
  fE)
 (aO (aZ 9 (cS [b_,a_ 6,a_ 5] (bZ (mSl (mV 7) (mP (mV 4)) (mP (q0F (mV 4) (mV 8))))) (gN 0) iU (bS 4 pA (aB (mV 0) (aB (mV 1) (aB (F_ (mV 2) (l_ 2)) (aB (F_ (mV 2) (l_ 0)) aE)))))))
 (bY (q0F (q0F (mSl (mV 2) fD (mP (mV 4))) (mV 9)) (mSl (mV 2) (mP (mV 4)) fD))))))))))
def nW:Fn:=mFn 10 wI
def LM:Ms:=
 (aO (cZ (bP (aD vIs (mV 1) (mC .non)))
  (bY (cO (aB (mV 0) (aB (l_ 1) aE))))
  fE)
 (aO (cZ (KF (bP (bS 2 nT (aB (mV 0) (aB (mV 1) aE)))))
  PR
  fE)
 (aO (cZ (bP (aD vEq (mSl (mV 1) fD (mP (q1h (aB (mV 0) aE)))) (mV 0)))
  (bY (cO (aB (mV 1) (aB (mUn wA (l_ 1)) aE))))
  fE)
 (bY (cO (aB (mV 0) (aB (l_ 1) aE)))))))
def C5:Fn:=mFn 2 LM
def CY:Ms:=
 (aO (aZ 3 (cO aE))
 (aO (aZ 4 (mC .non))
 (aO (cZ (bP (aD vGt (mV 1) (l_ 0)))
  (aZ 3 (F_ (F_ (mV 0) (aD kG (mV 1) (l_ 1))) (l_ 0)))
  fE)
 (aO (cZ (bP (aD mK (mV 1) (q1h (aB (mV 0) aE))))
  (aZ 4 (F_ (F_ (mV 0) (mV 1)) (l_ 0)))
  fE)
 (aO (yP (bS 2 C5 (aB (mV 3) (aB (mV 4) aE))) (gTp 2 (gCn (gN 5) (gCn (gN 6) gNl))))
 (aO (aZ 7 (mSl (mC (.str "abCD 9~!z")) (mP (aD kX (mV 2) (l_ 7))) (mP (q0F (q0F (aD kX (mV 2) (l_ 7)) (l_ 1)) (aD kX (aD A8 (mV 2) (l_ 7)) (l_ 3))))))
 (bY (cO (aB (mC (.str "write")) (aB (cO (aB (mC (.str "t")) (aB (l_ 1) aE))) (aB (mV 5) (aB (mV 6) (aB (mV 7) aE)))))))))))))
def uV:Fn:=mFn 8 CY
def CZ:Ms:=
 (aO (aZ 12 (bS 2 mN (aB (F_ (mV 0) (mV 11)) (aB (l_ 1) aE))))
  (aO (cZ (nO (bP (aD vEq (aD kX (F_ (mV 0) (mV 11)) (l_ 3)) (l_ 1))) (bP (aD sT (mV 5) (iS aE))))
   (aO (aZ 13 (aD kX (mV 12) (q1h (aB (mV 5) aE))))
   (aO (aZ 14 (mSl (mV 5) (mP (mV 13)) (mP (q0F (q0F (mV 13) (l_ 1)) (aD kX (aD A8 (mV 12) (l_ 301)) (l_ 3))))))
   (aO (pZ (bM "hear" 1 fR (mV 3) (aB (bS 3 iX (aB (mV 2) (aB (q0F (mV 11) (l_ 1)) (aB (cO (aB (mC (.str "cut")) (aB (cO (aB (mC (.str "t")) (aB (l_ 1) aE))) (aB (mCB sO (aB (cS [b_] (bZ (mV 14)) (gN 0) iU (F_ (mV 0) (l_ 0))) aE)) aE)))) aE)))) aE)))
   (aO (cZ (bP (aD sT (bM "told" 0 dF (mV 3) aE) (q0F (mSl (mV 5) fD (mP (mV 13))) (mSl (mV 5) (mP (q0F (mV 13) (q1h (aB (mV 14) aE)))) fD))))
    (bY (mC (.bl false)))
    fE)
   (aZ 10 (q0F (mSl (mV 10) fD (mP (mV 13))) (mSl (mV 10) (mP (q0F (mV 13) (q1h (aB (mV 14) aE)))) fD)))))))
   (aO (aZ 13 (aD kX (mV 12) (q0F (q1h (aB (mV 5) aE)) (l_ 1))))
   (aO (aZ 15 (bS 3 iX (aB (mV 2) (aB (q0F (mV 11) (l_ 1)) (aB (bS 3 uV (aB (mV 5) (aB (mV 13) (aB (aD A8 (mV 12) (l_ 7)) aE)))) aE)))))
   (aO (aZ 10 (bS 6 nW (aB (mV 3) (aB (mV 5) (aB (mV 10) (aB (mV 15) (aB (mV 13) (aB (mV 9) aE))))))))
   (cZ (CA (bP (aD vIs (mV 10) (mC .non))) (bP (aD Ak (mC .non) (mV 10))))
    (bY (mC (.bl false)))
    fE)))))
  (aZ 5 (bM "told" 0 dF (mV 3) aE))))
def LO:Ms:=
 (aO (aZ 1 (q0F (mSl (mV 0) fD (mP (l_ 2))) (aD nR (iS (aB (l_ 5) aE)) (aD kG (l_ 2) (q1h (aB (mSl (mV 0) fD (mP (l_ 2))) aE))))))
 (aO (aZ 2 (bS 1 AD (aB (bS 2 mN (aB (F_ (mV 1) (l_ 0)) (aB (l_ 2) aE))) aE)))
 (aO (aZ 3 (qK "Text" 0 cH aE))
 (aO (aZ 4 (q0F (l_ 2) (aD kX (F_ (mV 1) (l_ 0)) (l_ 11))))
 (aO (pZ (bM "hear" 1 fR (mV 3) (aB (bS 3 iX (aB (mV 2) (aB (l_ 1) (aB (cO (aB (mC (.str "write")) (aB (cO (aB (mC (.str "t")) (aB (l_ 1) aE))) (aB (cO aE) (aB (l_ 1) (aB (mSl (mC (.str "ab c.D1~x[yz")) fD (mP (mV 4))) aE)))))) aE)))) aE)))
 (aO (aZ 5 (bM "told" 0 dF (mV 3) aE))
 (aO (aZ 6 (aD kX (F_ (mV 1) (l_ 1)) (mV 4)))
 (aO (aZ 7 (q0F (mV 6) (aD kX (aD A8 (F_ (mV 1) (l_ 1)) (l_ 13)) (aD kG (mV 4) (mV 6)))))
 (aO (aZ 8 (bS 1 AD (aB (bS 2 mN (aB (F_ (mV 1) (l_ 1)) (aB (l_ 2) aE))) aE)))
 (aO (pZ (bM "hear" 1 fR (mV 3) (aB (bS 3 iX (aB (mV 2) (aB (l_ 2) (aB (cO (aB (mC (.str "mark")) (aB (cO (aB (mC (.str "t")) (aB (l_ 1) aE))) (aB (F_ (F_ (mV 5) (mV 6)) (l_ 0)) (aB (F_ (F_ (mV 5) (mV 7)) (l_ 0)) (aB (mV 8) aE)))))) aE)))) aE)))
 (aO (aZ 9 (cO (aB (F_ (F_ (mV 5) (mV 6)) (l_ 0)) (aB (F_ (F_ (mV 5) (mV 7)) (l_ 0)) (aB (mV 8) aE)))))
 (aO (aZ 5 (bM "told" 0 dF (mV 3) aE))
 (aO (aZ 10 (q0F (q0F (aD nR (iS (aB (mUn wA (l_ 1)) aE)) (mV 6)) (aD nR (iS (aB (l_ 0) aE)) (aD kG (q0F (mV 7) (l_ 1)) (mV 6)))) (aD nR (iS (aB (l_ 1) aE)) (aD kG (aD kG (mV 4) (l_ 1)) (mV 7)))))
 (aO (cZ (bP (aD vNe (cS [b_,a_ 8,a_ 9] (bZ (mV 5)) (gN 0) iU (bS 4 pA (aB (mV 0) (aB (mC .non) (aB (mV 1) (aB (F_ (mV 2) (l_ 0)) aE)))))) (mV 10)))
  (bY (mC (.bl false)))
  fE)
 (aO (kH (Em (aB (l_ 2) (aB (mCB O7 (aB (q1h (aB (mV 0) aE)) (aB (l_ 22) aE))) aE))) (gN 11) CZ)
 (bY (mC (.bl true))))))))))))))))))
def LP:Fn:=mFn 16 LO
end
abbrev Seen:=ve (Str×Int)
def sv(S:Seen):PV:=.tup (S.map λp=>.tup [.str p.1,.int p.2])
abbrev LQ:Str:="abcdefghijklmnopqrstuvwxyz"
theorem LR:LQ.cps.toList.length=26:=by decide +kernel
theorem Jo:LQ.length=26:=by decide +kernel
theorem LS:∀i:Fin 26,LQ.cps.toList[i.val]?=a_ (97+i.val):=by decide +kernel
variable{c:Nat}
theorem LU{x:Str}:(x++(⟨#[c]⟩:Str)).length=x.length+1:=by rw[Str.length_append];rfl
theorem OF{i:Int}(h0:0<=i)(h1:i<26):atI LQ.cps.toList i=a_ (97+i.toNat):=by rw[Oc h0 (by rw[LR];show h1)];show LS ⟨i.toNat,⋯⟩
theorem app_list(x y:Str):(x++y).cps.toList=x.cps.toList++y.cps.toList:=PySem.W.KT.app_list x y
theorem len_list(z:Str):z.cps.toList.length=z.length:=by simp[Str.length]
def pv(p:Str×Int):PV:=.tup [.str p.1,.int p.2]
structure St where
 s:Int
 h:Str
 n:Int
 k:Int
 deriving DecidableEq
local macro_rules|`(h_ 0)=>`(List (List St×Nat))
def stp(x:St):PV:=.tup [.int x.s,.str x.h,.int x.n,.int x.k]
theorem Hw{x y:St}(h:stp x=stp y):x=y:=by let⟨a,b,c,d⟩:=x;let⟨a',b',c',d'⟩:=y;simp[stp]at h;simp[h]
def pl(xs:ve St):PV:=.tup (xs.map stp)
theorem tG{xs ys:ve St}(h:pl xs=pl ys):xs=ys:=by
 let h:xs.map stp=ys.map stp:=by simpa[pl] using h
 induction xs generalizing ys with
 |nil=>cases ys <;> simp at h⊢
 |cons x xs ih=>
  cases ys with
  |nil=>simp at h
  |cons y ys=>simp at h;rw[Hw h.1,ih (by simp[pl,h.2]) h.2]
theorem C6(xs:ve St):(pl xs).pl 40=true:=by
 change(xs.map stp).all (PV.pl 39)=true
 rw[Yy];intro p hp;let⟨x,_,rfl⟩:=Yt.mp hp;rfl
abbrev uW:PV:=.tup [.int 0]
def wJ(x y:St):Bool:=if x.s=y.s then(if x.h=y.h then(if x.n=y.n then decide (x.k<y.k) else decide (x.n<y.n)) else decide (x.h.cps.toList<y.h.cps.toList)) else decide (x.s<y.s)
def bef:ve St->ve St->Bool
 |[],[]=>false
 |[],y::_=>decide (0<=y.s)
 |x::_,[]=>decide (x.s<0)
 |x::xs,y::ys=>if x=y then bef xs ys else wJ x y
theorem RG(n:Nat)(x y:St)(fq:x≠y):ltP (n+1) (stp x) (stp y)=a_ (wJ x y):=by
 let⟨a,b,c,d⟩:=x;let⟨a',b',c',d'⟩:=y;by_cases h1:a=a'
 ·by_cases h2:b=b'
  ·by_cases h3:c=c'
   ·by_cases h4:d=d'
    ·show absurd (by simp[h1,h2,h3,h4]) fq
    ·simp[ltP,ltL,stp,wJ,h1,h2,h3,h4]
   ·simp[ltP,ltL,stp,wJ,h1,h2,h3]
  ·simp[ltP,ltL,stp,wJ,h1,h2]
 ·simp[ltP,ltL,stp,wJ,h1]
theorem D0(n:Nat):∀xs ys:ve St,ltL (ltP (n+2)) (xs.map stp++[uW]) (ys.map stp++[uW])=a_ (bef xs ys)
 |[],[]=>by simp[ltL,bef]
 |[],y::ys=>by
  let fq:uW≠stp y:=by simp[stp,uW]
  simp only[y1b,Zx,YA,y1j,ltL,if_neg fq,bef];simp only[ltP,stp,ltL];by_cases h:(0:Int)=y.s
  ·simp[<-h]
  ·have:decide ((0:Int)<y.s)=decide (0<=y.s):=by rw[Y3];simp;omega
   simp[h,this]
 |x::xs,[]=>by
  let fq:stp x≠uW:=by simp[stp,uW]
  simp only[y1b,Zx,YA,y1j,ltL,if_neg fq,bef];simp only[ltP,stp,ltL];by_cases h:x.s=0
  ·simp[h]
  ·simp[h]
 |x::xs,y::ys=>by
  simp only[YA,y1j,ltL,bef];by_cases h:x=y
  ·subst h;simp only[if_true];show D0 n xs ys
  ·rw[if_neg λz=>h (Hw z),if_neg h];show RG (n+1) x y h
theorem Hx(xs:ve St):(PV.tup (xs.map stp++[uW])).pl 40=true:=by
 change(xs.map stp++[uW]).all (PV.pl 39)=true
 rw[List.all_append,YU];show⟨C6 xs,rfl⟩
theorem D4(xs:ve St)(h:PH)(hx:xs.length<=1000):eM [pl xs] h=.ok (.tup (xs.map stp++[uW])) h:=by
 let w:(eM [pl xs] h).W λp h'=>p=.tup (xs.map stp++[uW])/\h'=h:=by refine hW ?_;simp(disch:=first|omega|(simp;omega)) [wH,pl]
 let⟨p,h',e,rfl,rfl⟩:=iC w;show e
theorem LV{a b:Str}(h:a.cps.toList=b.cps.toList):a=b:=by
 let⟨x⟩:=a;let⟨y⟩:=b;congr 1;show y1Y.mp h
theorem Jp{a b:W_ 0}(h:a<b):¬ b<a:=List.lt_asymm h
theorem OG{a b:W_ 0}(h:¬ a<b)(h':¬ b<a):a=b:=List.le_antisymm h' h
theorem LW{x y:St}(h:x≠y):wJ y x=!wJ x y:=by
 let⟨a,b,c,d⟩:=x;let⟨a',b',c',d'⟩:=y;unfold wJ;by_cases h1:a=a'
 ·subst h1;by_cases h2:b=b'
  ·subst h2;by_cases h3:c=c'
   ·subst h3;let h4:d≠d':=λz=>h (by rw[z]);simp;rw[Y3];simp;omega
   ·let Xe:¬ c'=c:=λz=>h3 z.symm;simp[h3,Xe];rw[Y3];simp;omega
  ·let cy:¬ b'=b:=λz=>h2 z.symm;let n1:b.cps.toList≠b'.cps.toList:=λz=>h2 (LV z);simp[h2,cy];rw[Y3];simp only[decide_eq_true_eq,y0B,decide_eq_false_iff_not];constructor
   ·intro z;show Jp z
   ·intro z;rcases Classical.em (b'.cps.toList<b.cps.toList) with q|q
    ·show q
    ·show absurd (OG z q) n1
 ·let ie:¬ a'=a:=λz=>h1 z.symm;simp[h1,ie];rw[Y3];simp;omega
theorem uX:∀xs:ve St,bef xs xs=false
 |[]=>rfl
 |x::xs=>by simp[bef,uX xs]
theorem zE:∀{xs ys:ve St},xs≠ys->bef ys xs=!bef xs ys
 |[],[],h=>absurd rfl h
 |[],y::ys,_=>by simp only[bef];rw[Y3];simp
 |x::xs,[],_=>by simp only[bef];rw[Y3];simp
 |x::xs,y::ys,h=>by
  simp only[bef];by_cases e:x=y
  ·subst e;simp only[if_true];show zE λz=>h (by rw[z])
  ·rw[if_neg e,if_neg λz=>e z.symm];show LW e
variable{n:Nat}
theorem Hy{d k:Nat}(h:k<=n):HT.sIx n d (a_ (k:Int))=k:=by
 change(if(k:Int)<0 then((k:Int)+(n:Int)).toNat else min (k:Int).toNat n)=k
 rw[if_neg ⋯];omega
theorem LX{α:Type}{xs:ve α}(h:n<=xs.length):oO xs b_ (a_ (n:Int))=xs.take n:=by
 unfold oO;rw[Hy h]
 change(xs.drop 0).take (n-0)=_
 simp
theorem LY{α:Type}{xs:ve α}(h:n<=xs.length):oO xs (a_ (n:Int)) b_=xs.drop n:=by
 unfold oO;rw[Hy h]
 change(xs.drop n).take (xs.length-n)=_
 rw[YW (by rw[Yi];omega)]
theorem OH(ws:ve Str):(ws.map PV.str).all (PV.pl 39)=true:=by rw[Yy];intro y hy;let⟨q,_,rfl⟩:=Yt.mp hy;rfl
def rk(xs:ve St):PV:=.tup (xs.map stp++[uW])
theorem OI(xs ys:ve St)(h:PH):mK (rk xs) (rk ys) h=.ok (.bl (bef xs ys)) h:=L1 (Hx xs) (Hx ys) (D0 37 xs ys)
def inB(p:ve St)(s:ve St×ve St):Bool:=!bef p s.1 && !bef s.2 p
variable{Q:PV->PH->Prop}{elt:Me}{g:PH->Bool}{h h1:PH}{js:ve (v_ Nat)}{mi:Mi}{tg:Mg}{tst:Ev->PH->Rs Bool}{δ:Ev}
theorem OJ{α:Type}{ys:ve α}{emb:α->PV}(p:α->Bool)(f:α->PV)(e:mi δ h=.ok ⟨ys.map emb,g⟩ h1)(hg:∀h,Ext h1 h->g h=true)(hz:ys.length<=16777216)(step:∀y∈ys,∃δ1,tg (emb y) (jU js δ)=a_ δ1/\(∀h,Ext h1 h->∀Q:Bool->PH->Prop,(∀h',q0x 0->Q (p y) h')->(tst δ1 h).W Q)/\∀h,Ext h1 h->elt δ1 h=.ok (f y) h)(k:∀l h',Ext h1 h'->h1.length<=l->h'[l]?=a_ (.lst ((ys.filter p).map f))->Q (.ref l) h'):(cS js mi tg tst elt δ h).W Q:=by
 unfold cS;rw[e,Rs.bind_ok];refine zC (λi h'=>Ext h1 h'/\h'[h1.length]?=a_ (.lst (((ys.take i).filter p).map f))) (ys.map emb) 0 _ ⟨O_ _,by simp⟩ (λi x h' _ hx hi=>?_) (λh' hi=>?_)
 ·let⟨x1,g1⟩:=hi;let hx:(ys.map emb)[i]?=a_ x:=by simpa using hx
  rw[XT]at hx;let⟨y,hy,rfl⟩:=Yo.mp hx;let mw:=(XN.mp hy).1;let⟨δ1,ht,hs,he⟩:=step y (Yv hy);let dm:ys.take (i+1)=ys.take i++[y]:=by rw[y0C,hy];rfl
  refine⟨hg _ x1,δ1,ht,?_⟩;refine hs h' x1 _ λh2 x2=>?_;cases ep:p y with
  |true=>
   rw[q0s 0,he h2 (x1.trans x2),jV];refine⟨_,x2 _ _ g1,?_,(x1.trans x2).setN (X1 _),?_⟩
   ·have:=y1F p (ys.take i);rw[X9]at this;rw[XR];omega
   ·rw[lL (x2 _ _ g1),dm,List.filter_append,YF];simp[ep]
  |false=>rw[if_neg (by simp)];refine⟨x1.trans x2,?_⟩;rw[x2 _ _ g1,dm,List.filter_append];simp[ep]
 ·let⟨x1,g1⟩:=hi;refine⟨hg _ x1,k _ _ x1 (X1 _) ?_⟩;rw[Z9,XR,y1l]at g1;show g1
def prI(s:Int×Int):PV:=.tup [.int s.1,.int s.2]
def inI(n:Int)(s:Int×Int):Bool:=decide (s.1<=n)&&decide (n<=s.2)
theorem uY(p:ve St):(PV.tup (p.map stp)).ky 6=true:=by
 change(p.map stp).all (PV.ky 5)=true
 rw[y16];show Yy.mpr λy _=>rfl
def jN(es:ve (ve St))(p:ve St):ve (ve St):=if p∈es then es else es++[p]
theorem nX{es:ve (ve St)}{p x:ve St}:x∈jN es p↔x∈es\/x=p:=by
 unfold jN;split
 ·rename_i h;show⟨.inl,λz=>z.elim id λe=>e▸h⟩
 ·simp
theorem OK{es:ve (ve St)}{p:ve St}(h:es.Nodup):(jN es p).Nodup:=by
 unfold jN;split
 ·show h
 ·rename_i hp;rw[Zo];show⟨h,by simp,λa ha b hb=>by simp at hb;subst hb;show λz=>hp (z▸ha)⟩
theorem Hz(f:ve St->PV)(es:ve (ve St))(p:ve St):bR (es.map λp=>(pl p,f p)) (pl p)=if p∈es then a_ (f p) else b_:=by
 induction es with
 |nil=>rfl
 |cons e es ih=>
  change(if pl e=pl p then a_ (f e) else bR (es.map λp=>(pl p,f p)) (pl p))=_
  by_cases h:e=p
  ·subst h;simp
  ·rw[if_neg λz=>h (tG z),ih];have:(p∈e::es)↔p∈es:=⟨λz=>(Yf.mp z).elim (λq=>absurd q.symm h) id,λz=>XW _ z⟩;simp only[this]
def ED(es:ve (ve St)):ve (PV×PV):=es.map λp=>(pl p,.bl true)
theorem LZ(es:ve (ve St))(p:ve St):kJ (ED es) (pl p) (.bl true)=ED (jN es p):=by
 unfold kJ;rw[show bR (ED es) (pl p)=_ from Hz (λ_=>.bl true) es p]
 unfold jN ED;by_cases h:p∈es
 ·simp only[if_pos h,Option.isSome_some,if_true,Y2];refine y0I λx _=>?_;simp only[Function.comp];split <;> rfl
 ·simp[h]
variable{kvs kvs':ve (PV×PV)}
theorem uZ(e:bJ h n=a_ kvs):bJ (h.set n (.dD kvs')) n=a_ kvs':=by
 let hn:∃o,h[n]?=a_ o:=by
  unfold bJ at e;split at e
  ·show⟨_,by assumption⟩
  ·show⟨_,by assumption⟩
  ·cases e
 let⟨o,ho⟩:=hn;show Oh (lL ho)
variable{xs:ve PV}
theorem M0{p:PV}(e:bJ h n=a_ kvs)(hk:(PV.tup xs).ky 6=true)(hl:bR kvs (.tup xs)=a_ p):vAt (.ref n) (.tup xs) h=.ok p h:=by
 let k1:(PV.tup xs).isKt=true:=hk;have:sP (.tup xs) (.ref n) h=a_ (bR kvs (.tup xs)):=by simp only[sP,k1,if_true,e,Option.map_some]
 unfold vAt;rw[this,hl]
def DN(ks:ve (ve St)):ve (PV×PV):=ks.map λp=>(pl p,.int (ks.idxOf p:Nat))
theorem D5(ks:ve (ve St))(p:ve St):bR (DN ks) (pl p)=if p∈ks then cx (ks.idxOf p:Nat) else b_:=Hz (λp=>.int (ks.idxOf p:Nat)) ks p
theorem RI{ks:ve (ve St)}{p:ve St}(h:p∉ks):kJ (DN ks) (pl p) (.int (ks.length:Nat))=DN (ks++[p]):=by
 unfold kJ;rw[D5,if_neg h];simp only[Option.isSome_none,YG,if_false];unfold DN;rw[YF];congr 1
 ·refine y0I λx hx=>?_;rw[List.idxOf_append,if_pos hx]
 ·simp only[YA,y1b];rw[List.idxOf_append,if_neg h];simp
def uqP(os:ve (ve St)):ve (ve St):=os.foldl jN []
theorem D6:∀(os es:ve (ve St)),es.Nodup->(os.foldl jN es).Nodup/\(∀p,p∈os.foldl jN es↔p∈es\/p∈os)/\(os.foldl jN es).Sublist (es++os)
 |[],es,h=>⟨h,λp=>by simp,by simp⟩
 |o::os,es,h=>by
  let⟨a,b,c⟩:=D6 os (jN es o) (OK h);refine⟨a,λp=>?_,?_⟩
  ·rw[y1w,b,nX,Yf,or_assoc]
  ·rw[y1w];refine c.trans ?_;unfold jN;split
   ·show List.Sublist.append_left (List.sublist_cons_self o os) es
   ·simp
theorem U4(Ps:ve (ve St)):OkN 2 (Ps.map rk):=by
 refine⟨⋯,λv hv=>?_,λv hv=>?_,λv hv u hu=>?_⟩
 ·let⟨xs,_,rfl⟩:=Yt.mp hv
  change(xs.map stp++[uW]).all (PV.ky 19)=true
  rw[List.all_append,YU,y16];show⟨Yy.mpr λy _=>rfl,rfl⟩
 ·let⟨xs,_,rfl⟩:=Yt.mp hv;cases xs <;> rfl
 ·let⟨xs,_,rfl⟩:=Yt.mp hv;let⟨ys,_,rfl⟩:=Yt.mp hu
  change(ltL (ltP 19) (xs.map stp++[uW]) (ys.map stp++[uW])).isSome=true
  rw[D0 17 xs ys];rfl
theorem M1{xs ys:ve St}(h:rk xs=rk ys):pl xs=pl ys:=by unfold rk at h;unfold pl;have:=PV.tup.inj h;rw[(List.append_inj' this rfl).1]
theorem D7(xs ys:ve St):ltN (rk xs) (rk ys)=bef xs ys:=Ld (n:=20) (by change ltL (ltP 19) _ _=_;show D0 17 xs ys)
theorem RJ{ks:ve (ve St)}(nd:ks.Nodup)(pw:ks.Pairwise λa b=>bef b a=false){p q:ve St}(hp:p∈ks)(hq:q∈ks):decide (((ks.idxOf p:Nat):Int)<=(ks.idxOf q:Nat))=!bef q p:=by
 let ip:=List.idxOf_lt_length_iff.mpr hp;let iq:=List.idxOf_lt_length_iff.mpr hq;let ep:ks[ks.idxOf p]=p:=List.getElem_idxOf ip;let eq:ks[ks.idxOf q]=q:=List.getElem_idxOf iq;rw[Yq]at pw;by_cases h:ks.idxOf p<=ks.idxOf q
 ·rw[decide_eq_true ⋯];rcases Nat.lt_or_eq_of_le h with z|z
  ·have:=pw _ _ ip iq z;rw[ep,eq]at this;rw[this];rfl
  ·let e2:p=q:=by rw[<-ep,<-eq];simp[z]
   rw[e2,uX];rfl
 ·rw[decide_eq_false ⋯];have:=pw _ _ iq ip ⋯;rw[ep,eq]at this;let ne:p≠q:=λz=>h (by rw[z];show X1 _);let t:=zE ne;rw[this]at t;rw[t];rfl
variable{ln:Nat}
theorem EW{Ps:ve (ve St)}(lP:Ps.length<1000)(hP:∀p∈Ps,p.length<=1000)(g:h[ln]?=a_ (.lst (Ps.map pl)))(Q:PV->PH->Prop)(k:∀(nu:ve St->Int) (kvs:ve (PV×PV)) d h',q0x 0->h.length<=d->bJ h' d=a_ kvs->(∀p∈Ps,bR kvs (pl p)=cx (nu p))->(∀p∈Ps,∀q∈Ps,decide (nu p<=nu q)=!bef q p)->Q (.ref d) h'):(oX [.ref ln] h).W Q:=by
 refine hW ?_;unfold tB;rw[aQ];simp;let x0:Ext h (h++[MO.dK []]):=O_ _;let g0:bJ (h++[MO.dK []]) h.length=a_ (DN (uqP [])):=by have:(h++[MO.dK []])[h.length]?=a_ (.dK []):=aM;simp[bJ,this,uqP,DN]
 let dl:h.length<(h++[MO.dK []]).length:=by simp
 generalize h++[MO.dK []]=hA at x0 g0 dl;rfl';rw[aQ];obtain⟨p,hC,eC,os,hB,rfl,rfl,xB,pm,pw⟩:∃p h',jF eM false 2 (.ref ln) hA=.ok p h'/\∃(os:ve (ve St))(hB:PH),p=.ref hB.length/\h'=hB++[.lst (os.map pl)]/\Ext hA hB/\os.Perm Ps/\os.Pairwise (λa c=>ltN (rk c) (rk a)=false):=by
  have:=ES (key:=rk) (emb:=pl) (f:=eM) (m:=2) (xs:=Ps) (x:=.ref ln) (h:=hA) (Q:=λp h'=>∃(os:ve (ve St))(hB:PH),p=.ref hB.length/\h'=hB++[.lst (os.map pl)]/\Ext hA hB/\os.Perm Ps/\os.Pairwise (λa c=>ltN (rk c) (rk a)=false)) (AC (x0 _ _ g)) ⋯ (U4 Ps) (λa _ c _ e=>M1 e)
   (λd hd h Q k=>by rw[D4 d h (hP d hd),jV];show k h (Ext.refl h)) λos h' x p w=>⟨os,h',rfl,rfl,x,p,w⟩
  show iC this
 let gC:(hB++[MO.lst (os.map pl)])[hB.length]?=a_ (.lst (os.map pl)):=aM;let xC:Ext hA (hB++[MO.lst (os.map pl)]):=xB.trans (O_ _);let lo:os.length<1000:=by rw[pm.length_eq];show lP
 let bl:hA.length<=hB.length:=xB.len;refine Ai (n:=hB.length) (xs:=os.map pl) (h1:=hB++[MO.lst (os.map pl)]) (λr δ h'=>q0x 0/\h'[hB.length]?=a_ (.lst (os.map pl))/\bJ h' h.length=a_ (DN (uqP (os.take r)))/\∃x2,δ=[cu ln,q0X 0,x2]) (by simp[eC]) gC ⟨x0.trans xC,gC,by let⟨o,ho,_,hh⟩:=cE g0;show hh _ (xC _ _ ho),_,rfl⟩ (λq δ h' _ i=>i.2.1) ?_ ?_
 ·rintro r y δ h' hy ⟨x1,gl,g1,x2,rfl⟩;rw[XT]at hy;let⟨p,hp,rfl⟩:=Yo.mp hy;let dm:os.take (r+1)=os.take r++[p]:=by rw[y0C,hp];rfl
  refine⟨[cu ln,q0X 0,a_ (pl p)],by simp,?_⟩;let⟨_,_,sl⟩:=D6 (os.take r) [] (by simp);let l1:(uqP (os.take r)).length<=os.length:=by have:=sl.length_le;rw[Zx,X9]at this;show Y9 this ⋯
  let lv:=Oq g1;rw[show(DN (uqP (os.take r))).length=(uqP (os.take r)).length by simp[DN]]at lv;let⟨o,ho,di,hh⟩:=cE g1;let sd:=λz=>J9 (z:=z) g1 (uY p) (by simp[DN];omega);let sd:=sd (.int ((uqP (os.take r)).length:Nat));rw[show PV.tup (p.map stp)=pl p from rfl,D5]at sd
  let eu:uqP (os.take (r+1))=jN (uqP (os.take r)) p:=by rw[dm];simp[uqP,List.foldl_append]
  unfold uU;by_cases hm:p∈uqP (os.take r)
  ·rw[if_pos hm]at sd;simp[di,lv,sd];refine⟨x1,gl,?_⟩;rw[eu];unfold jN;rw[if_pos hm];show g1
  ·rw[if_neg hm]at sd;dsimp only at sd;rw[RI hm]at sd;simp[di,lv,sd];refine⟨x1.setN (X1 _),?_,?_⟩
   ·rw[Ye ⋯];show gl
   ·rw[eu];unfold jN;rw[if_neg hm];show uZ g1
 ·rintro δ h' ⟨x1,_,g1,x2,rfl⟩;rw[XR,y1l]at g1;rfl';simp;let⟨nd,mm,sl⟩:=D6 os [] (by simp);let mm:∀p∈Ps,p∈uqP os:=λp hp=>(mm p).mpr (.inr (pm.mem_iff.mpr hp));let Wf:(uqP os).Pairwise λa b=>bef b a=false:=(pw.imp λ{a c} e=>by rw[D7]at e;show e).sublist (by rw[Zx]at sl;show sl);show k (λp=>((uqP os).idxOf p:Nat)) _ _ h' x1 (X1 _) g1 (λp hp=>by rw[D5,if_pos (mm p hp)]) λp hp q hq=>RJ nd Wf (mm p hp) (mm q hq)
theorem tH{d:Nat}(e:h[n]?=a_ (.lst xs))(t:bJ h d=a_ kvs):n≠d:=λz=>by unfold bJ at t;rw[<-z,e]at t;cases t
theorem M3(t:bJ h n=a_ kvs):n<h.length:=let ⟨_,ho,_⟩:=cE t;(XN.mp ho).1
structure Mrk where
 nm:Str×Int
 f:ve St
 l:ve St
 w:Str
abbrev spP(m:Mrk):PV:=.tup [pl m.f,pl m.l]
def mkV(m:Mrk):PV:=.tup [pv m.nm,pl m.f,pl m.l,.str m.w,.tup []]
def fS(h:PH)(lm ls:Nat)(S:ve Mrk):Prop:=h[lm]?=a_ (.ins "Marks" [("standing",.ref ls)])/\h[ls]?=a_ (.lst (S.map mkV))
variable{S:ve Mrk}{h':PH}{lm ls:Nat}
theorem fS.ext(t:fS h lm ls S)(x:q0x 0):fS h' lm ls S:=⟨x _ _ t.1,x _ _ t.2⟩
theorem fS.fm(t:fS h lm ls S):fH "standing" (.ref lm) h=.ok (.ref ls) h:=rK t.1 rfl
variable{mm:Str}
theorem lk0{v:PV}(h:(mm == ("standing" : Str))=false):[(("standing" : Str),v)].lookup mm=b_:=by simp[y1u,h]
variable{mo:Me}{ms:Ma}{tb:Str->v_ Fn}
theorem M4{f:Fn}(t:fS h lm ls S)(og:tb "Marks" = a_ f)(vd:(mm == ("standing" : Str))=false)(h0:mo δ h=.ok (.ref lm) h):bM mm n tb mo ms δ h=(ms δ h).bind λps h2=>if ps.length=n then f (.ref lm::ps) h2 else .bad:=iE h0 t.1 og (lk0 vd)
theorem EX(m:Mrk)(h:PH):∃h' n,q0x 0/\h.length<=n/\h'[n]?=a_ (.lst [spP m])/\gO [mkV m] h=.ok (.ref n) h':=by
 let vp:=gR (h:=h++[.lst [spP m],.lst []]) (n:=h.length) (m:=h.length+1) (xs:=[spP m]) (ys:=[]) (by simp) (by simp) (by simp);let lv:∀h,mL [.tup []] h=.ok (.ref h.length) (h++[.lst []]):=λh=>rfl;let w:(gO [mkV m] h).W λv h'=>∃n,v=.ref n/\q0x 0/\h.length<=n/\h'[n]?=a_ (.lst [spP m]):=by refine hW ?_;unfold tE mkV;simp[lv,vp];show O_ _
 let⟨v,h',e,n,rfl,x,b,g⟩:=iC w;show⟨h',n,x,b,g,e⟩
variable{r:Nat}{s0:Int×Int}
theorem M5(g:h[r]?=a_ (.lst [prI s0]))(n:Int):∃h',q0x 0/\rO [.ref r,.int n] h=.ok (.bl (inI n s0)) h':=by
 let hc:=nP (m:=mV 0) (n:=r) (js:=[b_,b_,a_ 1]) (tg:=gTp 2 (gCn (gN 0) (gCn (gN 1) gNl))) (tst:=iU) (elt:=IX vLe vLe (mV 0) (mV 2) (mV 1)) (δ:=[cu r,cx n,b_]) (h:=h) (h1:=h) (ys:=[s0]) (emb:=prI)
  (λs=>a_ (.bl (inI n s))) (by simp) g (by simp) (λs hs=>⟨[cx s.1,cx s.2,cx n],by simp[jU,prI],λh _=>by
   refine⟨rfl,?_⟩;by_cases e:s.1<=n
   ·simp[e,inI]
   ·simp[e,inI]⟩)
 let w:(rO [.ref r,.int n] h).W λv h'=>v=.bl (inI n s0)/\q0x 0:=by
  refine hW ?_;unfold CU;rw[aQ,qa_ 3 [PV.ref r,PV.int n] [cu r,cx n,b_]]
  simp only[sE,hc,jV,List.set_cons_succ,List.set_cons_zero];let x1:=Ext.app h [MO.lst [.bl (inI n s0)]];let g1:(h++[MO.lst [.bl (inI n s0)]])[h.length]?=a_ (.lst [.bl (inI n s0)]):=aM
  change Lt _ _ _ (h++[MO.lst [.bl (inI n s0)]])
  generalize h++[MO.lst [.bl (inI n s0)]]=hA at x1 g1;rfl';let v0:vIx (.ref h.length) (.int 0) hA=.ok (.bl (inI n s0)) hA:=by rw[mJ g1];rfl
  let vs:vSl (.ref h.length) (a_ 1) b_ hA=.ok (.ref hA.length) (hA++[.lst []]):=by rw[uM g1];rfl
  let va:=L6 (h:=hA++[.lst []]) (n:=hA.length) (ns:=[]) aM;cases e:inI n s0 with
  |false=>rw[e]at v0;simp[v0];show x1
  |true=>rw[e]at v0;simp[v0,vs,va];show x1.trans (O_ _)
 let⟨v,h',e,rfl,x⟩:=iC w;show⟨h',x,e⟩
variable{E:FE}{body:Ms}
theorem M6{m:Me}(e:m δ h=.ok (.ref n) h1)(g:h1[n]?=a_ (.lst []))(k:E.nx δ h1):(kH (bZ m) tg body δ h).W E:=Ai (λ_ δ' h'=>δ'=δ/\h'=h1) e g ⟨rfl,rfl⟩ (λ_ _ _ _ i=>i.2▸g) (λq x _ _ hx=>by simp at hx) λ_ _ i=>i.1▸i.2▸k
variable{x:PV}{δ1:Ev}
theorem M7{m:Me}(e:m δ h=.ok (.ref n) h1)(g:h1[n]?=a_ (.lst [x]))(ht:tg x δ=a_ δ1)(hb:(body δ1 h1).W { nx:=λδ h'=>h'[n]?=a_ (.lst [x])/\E.nx δ h',ct:=λδ h'=>h'[n]?=a_ (.lst [x])/\E.nx δ h',rt:=E.rt,bk:=E.nx}):(kH (bZ m) tg body δ h).W E:=by
 refine Ai (λq δ' h'=>match q with|0=>δ'=δ/\h'=h1|_+1=>h'[n]?=a_ (.lst [x])/\E.nx δ' h') e g ⟨rfl,rfl⟩ (λq _ _ _ i=>?_) (λq y δ' h' hy i=>?_) λ_ _ i=>i.2
 ·match q,i with
  |0,i=>exact i.2▸g
  |_+1,i=>exact i.1
 ·match q,hy,i with
  |0,hy,i=>
   let⟨rfl,rfl⟩:=i;cases hy
   show⟨δ1,ht,hb⟩
def EN:ve Mrk->ve (ve St)
 |[]=>[]
 |m::_=>jN (jN [] m.f) m.l
theorem RK(S:ve Mrk):(EN S).length<=2:=by
 cases S with
 |nil=>exact YE _
 |cons m S=>
  change(jN (jN [] m.f) m.l).length<=2
  unfold jN;simp;split <;> simp
theorem OL(lS:S.length<=1)(t:fS h lm ls S)(Q:PV->PH->Prop)(k:∀n h',q0x 0->h'[n]?=a_ (.lst ((EN S).map pl))->Q (.ref n) h'):(fQ [.ref lm] h).W Q:=by
 refine hW ?_;unfold oY;rw[aQ];simp;let x0:=Ext.app h [MO.dK []];let g0:bJ (h++[MO.dK []]) h.length=a_ (ED []):=by have:(h++[MO.dK []])[h.length]?=a_ (.dK []):=aM;simp[bJ,this,ED]
 generalize h++[MO.dK []]=hA at x0 g0;rfl';rw[aQ];let fin:∀x2 x3 x4 h',q0x 0->bJ h' h.length=a_ (ED (EN S))->Lt (bY (mCB mL (aB (mV 1) aE))) { nx:=λ_ h=>Q .non h,rt:=Q} [cu lm,q0X 0,x2,x3,x4] h':=λx2 x3 x4 h' x1 g1=>by rfl';let lv:=Jd g1;rw[show(ED (EN S)).map (·.1)=(EN S).map pl by unfold ED;rw[Y2];rfl]at lv;simp[lv];show k _ _ (x1.trans (O_ _)) aM
 let tA:=t.ext x0
 match S,lS,tA,fin with
 |[],_,tA,fin=>exact M6 (by simp[tA.fm]) tA.2 (fin _ _ _ _ x0 g0)
 |[M],_,tA,fin=>
  refine M7 (x:=mkV M) (by simp[tA.fm]) tA.2 rfl ?_;let⟨hB,n,xB,bB,gB,eB⟩:=EX M hA;let hl:=M3 g0;let hls:=(XN.mp tA.2).1;let qx:ls≠h.length:=tH tA.2 g0;unfold qO;refine M7 (x:=spP M) (n:=n) (h1:=hB) (by simp[eB]) gB (by simp;rfl) ?_;let xh:=x0.trans xB;let z7:bJ hB h.length=a_ (ED []):=let ⟨_,ho,_,hh⟩:=cE g0;hh _ (xB _ _ ho);let p1:∀z,sF (.ref h.length) (pl M.f) z hB=a_ (hB.set h.length (.dD (kJ (ED []) (pl M.f) z))):=λz=>CL z7 (uY _) (by simp[ED]);let p1:=p1 (.bl true);rw[LZ]at p1;let g2:=uZ (kvs':=ED (jN [] M.f)) z7;let x2:=xh.setN (o:=.dD (ED (jN [] M.f))) (X1 _);let k2:∀i o,i≠h.length->hB[i]?=a_ o->(hB.set h.length (.dD (ED (jN [] M.f))))[i]?=a_ o:=λi o hi ho=>by rw[Ye (ZK hi)];show ho
  generalize hB.set h.length (.dD (ED (jN [] M.f)))=hC at p1 g2 x2 k2;let p2:∀z,sF (.ref h.length) (pl M.l) z hC=a_ (hC.set h.length (.dD (kJ (ED (jN [] M.f)) (pl M.l) z))):=λz=>CL g2 (uY _) (by simp[ED,jN]);let p2:=p2 (.bl true);rw[LZ]at p2;unfold qN;rw[aQ];simp[p1];rfl';simp[p2];refine⟨?_,?_,fin _ _ _ _ (x2.setN (X1 _)) (uZ g2)⟩
  ·rw[Ye ⋯];show k2 _ _ ⋯ gB
  ·rw[Ye (ZK qx)];show k2 _ _ qx (xB _ _ tA.2)
def yS(p:ve St)(S:ve Mrk):ve Str:=(S.filter λm=>inB p (m.f,m.l)).map (·.w)
def ysV(y:Mrk×Nat):PV:=.tup [.str y.1.w,.ref y.2]
theorem M8(lS:S.length<=1)(lE:∀m∈S,m.f.length<=1000/\m.l.length<=1000){Ps:ve (ve St)}(hp:∀p∈Ps,p.length<=1000)(lP:Ps.length<=900){l1:Nat}(t:fS h lm ls S)(g1:h[l1]?=a_ (.lst (Ps.map pl)))(Q:PV->PH->Prop)(k:∀n h'(zs:h_ 0),q0x 0->h.length<=n->zs.map (·.1)=Ps->h'[n]?=a_ (.lst (zs.map λz=>PV.ref z.2))->(∀z∈zs,n<z.2/\h'[z.2]?=a_ (.lst ((yS z.1 S).map PV.str)))->Q (.ref n) h'):(bQ [.ref lm,.ref l1] h).W Q:=by
 let hm:∀m∈S,m.f∈Ps++EN S/\m.l∈Ps++EN S:=λm hm=>by
  match S,lS,hm with
  |[M],_,hm=>rw[YC.mp hm];show⟨XS _ (nX.mpr (.inl (nX.mpr (.inr rfl)))),XS _ (nX.mpr (.inr rfl))⟩
 let hE:∀p∈EN S,p.length<=1000:=λp hp=>by
  match S,lS,hp with
  |[M],_,hp=>
   rcases nX.mp hp with z|z
   ·rcases nX.mp z with z|z
    ·cases z
    ·rw[z];show(lE M XY).1
   ·rw[z];show(lE M XY).2
 let lEN:=RK S;refine hW ?_;unfold fX;rw[aQ,qa_ 8 [PV.ref lm,PV.ref l1] [cu lm,cu l1,b_,b_,b_,b_,b_,b_]]
 -- the ends
 let⟨q,hA,eA,le,rfl,xA,gA⟩:=iC (OL lS t (λq h'=>∃n,q=.ref n/\q0x 0/\h'[n]?=a_ (.lst ((EN S).map pl))) λn h' x g=>⟨n,rfl,x,g⟩);let me:bM "ends" 0 CV (mV 0) aE [cu lm,cu l1,b_,b_,b_,b_,b_,b_] h=.ok (.ref le) hA:=by rw[M4 t (f:=fQ) (by rfl) nofun (by simp)];simp[eA]
 let vp:=gR (xA _ _ g1) gA (by simp;omega);rw[<-YF]at vp;let gB:(hA++[MO.lst ((Ps++EN S).map pl)])[hA.length]?=a_ (.lst ((Ps++EN S).map pl)):=aM;let xB:Ext h (hA++[MO.lst ((Ps++EN S).map pl)]):=xA.trans (O_ _);generalize hA++[MO.lst ((Ps++EN S).map pl)]=hB at vp gB xB;generalize hA.length=lb at vp gB;simp[me,vp];refine EW (Ps:=Ps++EN S) (by rw[X6];omega) (λq hq=>(X7.mp hq).elim (hp q) (hE q)) gB _ λnu kvs d hC xC nC gd look zk=>?_;let xC:Ext h hC:=xB.trans xC;let bC:h.length<=d:=Y9 xB.len nC;clear me vp gA gB xB eA
 -- the marks by number
 rfl';rw[aQ];simp;let xD:Ext h (hC++[MO.lst []]):=xC.trans (O_ _);let gD:(hC++[MO.lst []])[hC.length]?=a_ (.lst (([]:ve (Mrk×Nat)).map ysV)):=aM;let sr:bJ (hC++[MO.lst []]) d=a_ kvs:=let ⟨_,ho,_,hh⟩:=cE gd;hh _ (O_ _ _ _ ho);let dC:d<hC.length:=M3 gd;let lC:h.length<=hC.length:=xC.len;generalize hC++[MO.lst []]=hD at xD gD sr;generalize hC.length=lk at gD dC lC;clear xC gd;let yb:=(XN.mp gD).1;rfl';rw[aQ];let rest:∀(ys:ve (Mrk×Nat)) x4 h1,Ext h h1->lk<h1.length->bJ h1 d=a_ kvs->h1[lk]?=a_ (.lst (ys.map ysV))->ys.map (·.1)=S->(∀y∈ys,h1[y.2]?=a_ (.lst [prI (nu y.1.f,nu y.1.l)]))->Lt (aO (aZ 5 (iS aE)) (aO (kH (bZ (mV 1)) (gN 6) eO) (bY (mV 5)))) { nx:=λ_ h=>Q .non h,rt:=Q} [cu lm,cu l1,cu d,cu lk,x4,b_,b_,b_] h1:=λys x4 h1 x1 Xi g2 gy ey oy=>by
  -- the words
  rfl';rw[aQ];simp;let xG:Ext h1 (h1++[MO.lst []]):=O_ _;let gw:(h1++[MO.lst []])[h1.length]?=a_ (.lst []):=aM;generalize h1++[MO.lst []]=hG at xG gw;let lw:h.length<=h1.length/\lk<h1.length:=⟨x1.len,Xi⟩;let VX:∀y∈ys,y.2<h1.length:=λy hy=>(XN.mp (oy y hy)).1;generalize h1.length=lw' at gw lw VX;let u4:=x1.trans xG;let Xl:bJ hG d=a_ kvs:=by let⟨o,ho,_,hh⟩:=cE g2;show hh _ (xG _ _ ho)
  rfl';rw[aQ];let Wu:=xG _ _ gy;let sx:l1<h.length:=(XN.mp g1).1;let lwG:=(XN.mp gw).1;let lys:ys.length<=1:=by have:=q0Y ey;rw[XR]at this;omega
  let WN:d≠lw':=⋯;let Wh:lk≠lw':=⋯;let W4:∀y∈ys,y.2≠lw':=λy hy=>Yj (VX y hy);refine Ai (n:=l1) (xs:=Ps.map pl) (h1:=hG) (λq δ h'=>(∀n o,n≠lw'->hG[n]?=a_ o->h'[n]?=a_ o)/\(∃zs:h_ 0,zs.map (·.1)=Ps.take q/\h'[lw']?=a_ (.lst (zs.map λz=>PV.ref z.2))/\∀z∈zs,lw'<z.2/\h'[z.2]?=a_ (.lst ((yS z.1 S).map PV.str)))/\∃x6 x7,δ=[cu lm,cu l1,cu d,cu lk,x4,cu lw',x6,x7]) (by simp) (u4 _ _ g1) ⟨λ_ _ _ e=>e,⟨[],by simp,gw,λz hz=>by simp at hz⟩,_,_,rfl⟩ (λq δ h' _ i=>i.1 _ _ ⋯ (u4 _ _ g1)) ?_ ?_
  ·rintro q y δ h' hy ⟨fr,⟨zs,ez,gz,oz⟩,x6,x7,rfl⟩;rw[XT]at hy;let⟨p,yi,rfl⟩:=Yo.mp hy;let wm:=Yv yi;let dm:Ps.take (q+1)=Ps.take q++[p]:=by rw[y0C,yi];rfl
   refine⟨[cu lm,cu l1,cu d,cu lk,x4,cu lw',a_ (pl p),x7],by simp,?_⟩;let WR:bJ h' d=a_ kvs:=by let⟨o,ho,_,hh⟩:=cE Xl;show hh _ (fr _ _ WN ho)
   let an:vAt (.ref d) (pl p) h'=.ok (.int (nu p)) h':=M0 WR (uY _) (look p (Yu _ wm));let z6:=fr _ _ Wh Wu;let Wz:zs.length<=Ps.length:=by have:=q0Y ez;rw[XR,X9]at this;omega
   unfold eO;rw[aQ];simp[an];rfl';let il:=uI gz;let wc:(cS [b_,b_,a_ 7] (bZ (mV 3)) (gTp 2 (gCn (gN 0) (gCn (gN 1) gNl))) (bP (bS 2 rO (aB (mV 1) (aB (mV 2) aE)))) (mV 0) [cu lm,cu l1,cu d,cu lk,x4,cu lw',a_ (pl p),cx (nu p)] h').W λz hE=>∃n,z=.ref n/\Ext h' hE/\h'.length<=n/\hE[n]?=a_ (.lst ((yS p S).map PV.str)):=by
    refine OJ (h1:=h') (ys:=ys) (emb:=ysV) (g:=uF lk (ys.map ysV)) (λy=>inB p (y.1.f,y.1.l)) (λy=>.str y.1.w) (Aj (by simp) z6) (uN z6) ⋯ (λy hy=>?_) λl h2 x b g=>⟨l,rfl,x,b,?_⟩
    ·let zw:y.1∈S:=by rw[<-ey];show List.mem_map_of_mem hy
     refine⟨[a_ (.str y.1.w),cu y.2,cx (nu p)],by simp[jU,ysV],λh2 x2 Q k2=>?_,λh2 x2=>by simp⟩;let gr:=x2 _ _ (fr _ _ (W4 y hy) (xG _ _ (oy y hy)));let⟨h3,x3,eb⟩:=M5 gr (nu p);let hb:inI (nu p) (nu y.1.f,nu y.1.l)=inB p (y.1.f,y.1.l):=by unfold inI inB;rw[zk _ (hm _ zw).1 _ (Yu _ wm),zk _ (Yu _ wm) _ (hm _ zw).2]
     rw[hb]at eb;simp[eb];show k2 h3 x3
    ·rw[g];congr 2;unfold yS;rw[<-ey,List.filter_map,Y2,Y2];rfl
   let⟨z,hE,eE,n,rfl,xE,nE,gE⟩:=iC wc;let WD:(yS p S).length<=1:=by unfold yS;rw[XR];have:=y1F (λm=>inB p (m.f,m.l)) S;omega
   let so:=EH gE WD;let gS:(hE++[MO.lst ((yS p S).map PV.str)])[hE.length]?=a_ (.lst ((yS p S).map PV.str)):=aM;let xS:Ext hE (hE++[MO.lst ((yS p S).map PV.str)]):=O_ _;generalize hE++[MO.lst ((yS p S).map PV.str)]=hS at so gS xS;let WC:lw'<hE.length:=Yl (XN.mp gz).1 xE.len;let zp:=xS _ _ (xE _ _ gz);let ap:=lK (p:=PV.ref hE.length) zp (by rw[XR];omega);simp[il,eE,so,ap];refine⟨λn' o hn ho=>?_,zs++[(p,hE.length)],by rw[YF,ez,dm];rfl,by rw[lL zp,YF];rfl,λz y hz=>?_⟩
   ·rw[Ye (ZK hn)];show xS _ _ (xE _ _ (fr _ _ hn ho))
   ·rcases X7.mp hz with c|c
    ·let⟨z1,z2⟩:=oz (z,y) c;let z1:lw'<y:=z1;show⟨z1,by rw[Ye ⋯];show xS _ _ (xE _ _ z2)⟩
    ·simp at c;let⟨rfl,rfl⟩:=c;show⟨WC,by rw[Ye ⋯];show gS⟩
  ·rintro δ h' ⟨fr,⟨zs,ez,gz,oz⟩,x6,x7,rfl⟩;rw[XR,y1l]at ez;rfl';simp;refine k lw' h' zs (λn o e=>fr n o (λz=>?_) (u4 _ _ e)) lw.1 ez gz oz;have:=(XN.mp e).1;omega
 let tD:=t.ext xD
 match S,lS,tD,rest,hm with
 |[],_,tD,rest,hm=>exact M6 (by simp[tD.fm]) tD.2 (rest [] _ _ xD yb sr gD rfl λy hy=>by cases hy)
 |[M],_,tD,rest,hm=>
  refine M7 (x:=mkV M) (by simp[tD.fm]) tD.2 rfl ?_;let⟨hA,n,xA,bA,gA,eA⟩:=EX M hD;let a3:∀h,vIx (mkV M) (.int 3) h=.ok (.str M.w) h:=λh=>by unfold mkV;simp
  let WA:bJ hA d=a_ kvs:=let ⟨_,ho,_,hh⟩:=cE sr;hh _ (xA _ _ ho);let⟨mf,ml⟩:=hm M XY;let hc:=nP (m:=bS 1 gO (aB (mV 4) aE)) (n:=n) (js:=[b_,b_,a_ 2]) (tg:=gTp 2 (gCn (gN 0) (gCn (gN 1) gNl))) (tst:=iU) (elt:=cO (aB (F_ (mV 2) (mV 0)) (aB (F_ (mV 2) (mV 1)) aE))) (δ:=[cu lm,cu l1,cu d,cu lk,a_ (mkV M),b_,b_,b_]) (h:=hD) (h1:=hA) (ys:=[M]) (emb:=spP)
   (λm=>a_ (prI (nu M.f,nu M.l))) (by simp[eA]) gA (by simp) (λm hm=>⟨[a_ (pl m.f),a_ (pl m.l),cu d],by simp[jU],λh' x'=>by rw[YC.mp hm];refine⟨rfl,?_⟩;let zy:bJ h' d=a_ kvs:=let ⟨_,ho,_,hh⟩:=cE WA;hh _ (x' _ _ ho);let a1:vAt (.ref d) (pl M.f) h'=.ok (.int (nu M.f)) h':=M0 zy (uY _) (look _ mf);let a2:vAt (.ref d) (pl M.l) h'=.ok (.int (nu M.l)) h':=M0 zy (uY _) (look _ ml);simp[a1,a2,prI]⟩)
  let xE:=xA.trans (Ext.app hA [MO.lst [prI (nu M.f,nu M.l)]]);let gE:(hA++[MO.lst [prI (nu M.f,nu M.l)]])[hA.length]?=a_ (.lst [prI (nu M.f,nu M.l)]):=aM;let hc:cS _ _ _ _ _ _ _=Rs.ok (.ref hA.length) (hA++[MO.lst [prI (nu M.f,nu M.l)]]):=hc;let lA:=xA.len;generalize hA++[MO.lst [prI (nu M.f,nu M.l)]]=hE at hc xE gE;generalize hA.length=r at hc gE lA;let gy:=xE _ _ gD;let ap:=lK (p:=ysV (M,r)) gy (by simp);let ap:onL gK (.ref lk) [.tup [.str M.w,.ref r]] hE=.ok .non _:=ap;let qx:ls≠lk:=λz=>by have:=(XN.mp t.2).1;omega
  unfold iN;simp[uI gD,a3,hc,ap];refine⟨by rw[Ye (ZK qx)];show xE _ _ tD.2,rest [(M,r)] _ _ ((xD.trans xE).setN lC) (by rw[Zm];show Yl yb xE.len) ?_ (lL gy) rfl λy hy=>?_⟩
  ·let⟨o,ho,_,hh⟩:=cE sr;show hh _ (by rw[Ye ⋯];show xE _ _ ho)
  ·rw[YC.mp hy];rw[Ye (by change lk≠r;omega)];show gE
theorem RL(p:Str×Int):(pv p).pl 39=true:=rfl
variable{p:Str×Int}
theorem OM{q:Str×Int}(h:pv p=pv q):p=q:=by let⟨a,b⟩:=p;let⟨c,d⟩:=q;simp[pv]at h;simp[h]
theorem ON(lS:S.length<64)(t:fS h lm ls S)(nm:Str×Int)(sn th:PV)(f l:ve St)(w:Str)(fr:∀m∈S,m.nm≠nm)(Q:PV->PH->Prop)(k:∀h',fS h' lm ls (S++[⟨nm,f,l,w⟩])->(∀n o,n≠ls->h[n]?=a_ o->h'[n]?=a_ o)->Q .non h'):(fP [.ref lm,.tup [pv nm,sn,.tup [.str "mark",th,pl f,pl l,.str w]]] h).W Q:=by
 refine hW ?_;unfold oW;let hc:=nP (m:=mUn (fH "standing") (mV 0)) (n:=ls) (js:=[b_]) (tg:=gN 0) (tst:=iU) (elt:=F_ (mV 0) (l_ 0)) (δ:=[cu lm,a_ (.tup [pv nm,sn,.tup [.str "mark",th,pl f,pl l,.str w]]),a_ (pv nm),a_ sn,a_ (.tup [.str "mark",th,pl f,pl l,.str w])]) (h:=h) (h1:=h) (ys:=S) (emb:=mkV)
  (λm=>a_ (pv m.nm)) (by simp[t.fm]) t.2 ⋯ (λm hm=>⟨[a_ (mkV m)],by simp[jU],λh' x'=>⟨rfl,by simp[mkV]⟩⟩)
 let em:S.filterMap (λm=>a_ (pv m.nm))=S.map λm=>pv m.nm:=List.filterMap_eq_map (f:=λm:Mrk=>pv m.nm)▸rfl;rw[em]at hc;rw[aQ];simp;rfl';let g1:(h++[MO.lst (S.map λm=>pv m.nm)])[h.length]?=a_ (.lst (S.map λm=>pv m.nm)):=aM;let x1:Ext h (h++[MO.lst (S.map λm=>pv m.nm)]):=O_ _;generalize h++[MO.lst (S.map λm=>pv m.nm)]=hA at hc g1 x1;let hn:rG (pv nm) (.ref h.length) hA=.ok (.bl true) hA:=by
  rw[Eu g1,Ga g1 (RL nm) (by rw[y16];show Yy.mpr λy _=>rfl)];congr 2;have:pv nm∉S.map λm=>pv m.nm:=λz=>by let⟨m,hm,e⟩:=Yt.mp z;show fr m hm (OM e)
  simp[this]
 let tA:=t.ext x1;let ap:=lK (p:=mkV ⟨nm,f,l,w⟩) tA.2 (by rw[XR];omega);let s1:=lL (o':=MO.lst (S.map mkV++[mkV ⟨nm,f,l,w⟩])) tA.2;let il:=uI tA.2;let Wn:onL gK (.ref ls) [.tup [pv nm,pl f,pl l,.str w,.tup []]] hA=.ok .non (hA.set ls (.lst (S.map mkV++[mkV ⟨nm,f,l,w⟩]))):=ap;let ne:lm≠ls:=λz=>by let a:=t.1;rw[z,t.2]at a;cases a
 rw[fG];simp[hc,hn,tA.fm,il,Wn];refine k _ ⟨?_,?_⟩ λn o hn ho=>?_
 ·rw[Ye (ZK ne)];show tA.1
 ·rw[s1,YF];rfl
 ·rw[Ye (ZK hn)];show x1 _ _ ho
theorem OO(g:h[n]?=a_ (.ins "Marks" [])):bU [.ref n] h=.ok .non ((h++[MO.lst []]).set n (.ins "Marks" [("standing",.ref h.length)])):=by
 let w:(bU [.ref n] h).W λp h'=>p=.non/\h'=(h++[MO.lst []]).set n (.ins "Marks" [("standing",.ref h.length)]):=by refine hW ?_;let g':=Ext.app h [MO.lst []] _ _ g;simp[iW,uS g',mT]
 let⟨p,h',e,rfl,rfl⟩:=iC w;show e
def mixed(c k:Int):Int:=
 letI n:=(c+7919*k+1)*48271%2147483647
 n*(n/1009+69621)%2147483647
@[simp]theorem U5(c k:Int)(h:PH):mN [.int c,.int k] h=.ok (.int (mixed c k)) h:=by simp(disch:=omega) [mN,mFn,CW,aO,aZ,bY,mixed]
theorem M9:(Zj "").cps.toList=[]:=by decide +kernel
def Low(w:Str):Prop:=∀c∈w.cps.toList,97<=c/\c<=122
theorem HC(n:Int)(h:PH)(Q:PV->PH->Prop)(k:∀w:Str,1<=w.length->w.length<=8->Low w->Q (.str w) h):(AD [.int n] h).W Q:=by
 refine hW ?_;simp(disch:=omega) [Gz,CC];refine Rf (j:=1+n%8) (λq δ h'=>h'=h/\∃w r x4,δ=[cx n,a_ (.str LQ),a_ (.str w),cx r,x4]/\w.length=q/\Low w) ?_ ?_ ?_ ?_ ?_
 ·simp(disch:=omega)
 ·omega
 ·show⟨rfl,_,_,_,rfl,rfl,λc hc=>by rw[M9]at hc;cases hc⟩
 ·rintro q δ h' hq ⟨rfl,w,r,x4,rfl,hw,hlow⟩;let hc:=OF (i:=r%26) ⋯ ⋯;let hl:=Jo;let h1:(⟨#[97+(r%26).toNat]⟩:Str).length=1:=rfl;simp(disch:=omega) [EU,hc,CC];refine⟨by rw[LU];omega,λc hc=>?_⟩;rw[app_list]at hc;rcases X7.mp hc with hc|hc
  ·show hlow c hc
  ·simp at hc;omega
 ·rintro δ h' ⟨rfl,w,r,x4,rfl,hw,hlow⟩;simp;show k w ⋯ ⋯ hlow
theorem Mb(u:ve St)(s n:Int)(hd:Str)(h:PH)(hu:u.length<=1000):lQ [.tup [pl u,.int s],.tup [.str hd,.int n]] h=.ok (pl (u++[⟨s,hd,n,0⟩])) h:=by
 let w:(lQ [.tup [pl u,.int s],.tup [.str hd,.int n]] h).W λp h'=>p=pl (u++[⟨s,hd,n,0⟩])/\h'=h:=by refine hW ?_;simp(disch:=first|omega|(simp;omega)) [sY,CC,pl,stp]
 let⟨p,h',e,rfl,rfl⟩:=iC w;show e
def yT(u:ve St)(s:Int)(hd:Str)(n:Int):Nat->ve St
 |0=>u++[⟨s,hd,n,0⟩]
 |k+1=>yT u s hd n k++[⟨1,hd,n,((k+1:Nat):Int)⟩]
def jX(u:ve St)(s:Int)(hd:Str)(n:Int)(m:Nat):ve (ve St):=(YN m).map (yT u s hd n)
variable{hd:Str}{m:Nat}{s:Int}
theorem vA{u:ve St}{n:Int}:(jX u s hd n m).length=m:=by simp[jX]
theorem Mc{u:ve St}{n:Int}{k:Nat}(hk:k<m):(jX u s hd n m)[k]?=a_ (yT u s hd n k):=by simp[jX,hk]
theorem Jq{u:ve St}{n:Int}:jX u s hd n (m+1)=jX u s hd n m++[yT u s hd n m]:=by simp[jX,List.range_succ]
theorem lX{u:ve St}{s:Int}{hd:Str}{n:Int}:∀k,(yT u s hd n k).length=u.length+1+k
 |0=>by simp[yT]
 |k+1=>by simp[yT,lX k];omega
theorem tI{u:ve St}{s:Int}{hd:Str}{n:Int}(j:Nat):∀d,∃r,yT u s hd n (j+d)=yT u s hd n j++r/\∀x∈r,x.s=1
 |0=>⟨[],by simp,by simp⟩
 |d+1=>by
  let⟨r,e,h⟩:=tI j d;refine⟨r++[⟨1,hd,n,((j+d+1:Nat):Int)⟩],?_,λx hx=>?_⟩
  ·change yT u s hd n (j+d)++[⟨1,hd,n,((j+d+1:Nat):Int)⟩]=_
   rw[e,XU]
  ·rcases X7.mp hx with hx|hx
   ·show h x hx
   ·rw[YC.mp hx]
theorem Jr(u:ve St)(s n:Int)(hd w:Str)(sn th:PV)(wd:Str)(h:PH)(Q:PV->PH->Prop)(hu:u.length<=900)(h0:1<=w.length)(h1:w.length<=12)(k:Q (.ref h.length) (h++[.lst ((q0m 0).map pl)])):
  (jL [.tup [.tup [.str hd,.int n],sn,.tup [.str wd,th,pl u,.int s,.str w]]] h).W Q:=by
 refine hW ?_;simp(disch:=omega) [qL,CC,Mb u s n hd _ ⋯];refine KW (lo:=1) (j:=w.length) (λq δ h'=>h'=h++[.lst ((jX u s hd n (q+1)).map pl)]/\∃x0 x1 x2 x3 x4 x5 x6 x7 dn,δ=[x0,x1,x2,x3,x4,x5,x6,x7,a_ (.str w),a_ (.str hd),cx n,q0X 0,dn]) ?_ ?_ ?_ ?_ ?_
 ·simp(disch:=omega)
 ·omega
 ·show⟨rfl,_,_,_,_,_,_,_,_,_,rfl⟩
 ·rintro q δ h' hq ⟨rfl,x0,x1,x2,x3,x4,x5,x6,x7,dn,rfl⟩;let e1:(h++[MO.lst ((jX u s hd n (q+1)).map pl)])[h.length]?=a_ (.lst ((jX u s hd n (q+1)).map pl)):=aM;let e2:atI ((jX u s hd n (q+1)).map pl) (1+(q:Int)-1)=a_ (pl (yT u s hd n q)):=by
   have:(1+(q:Int)-1)=(q:Int):=⋯;rw[this];show vW (by rw[XT,Mc ⋯];rfl)
  let e3:=lX (u:=u) (s:=s) (hd:=hd) (n:=n) q;let e4:=vA (u:=u) (s:=s) (hd:=hd) (n:=n) (m:=q+1);simp(disch:=first|omega|(simp;omega)) [sG,uI e1,mJ e1,e2,lK e1,pl]
  rw[Jq (m:=q+1)];simp[yT,pl,stp];omega
 ·rintro δ h' ⟨rfl,x0,x1,x2,x3,x4,x5,x6,x7,dn,rfl⟩;simp;have:w.length-1+1=w.length:=⋯;rw[this];show k
def rwP(r:ve St×Nat):PV:=.tup [pl r.1,.str ⟨#[r.2]⟩]
def cA(u:ve St)(s:Int)(hd:Str)(n:Int)(w:Str):h_ 0:=(q0m 0).zip w.cps.toList
def kvR(R:h_ 0):ve (PV×PV):=R.map λr=>(pl r.1,.str ⟨#[r.2]⟩)
def AG(R:h_ 0)(r:ve St×Nat):h_ 0:=if r.1∈R.map (·.1) then R.map λq=>if q.1=r.1 then r else q else R++[r]
theorem EY(R:h_ 0)(p:ve St):bR (kvR R) (pl p)=(R.find? λr=>decide (r.1=p)).map λr=>.str ⟨#[r.2]⟩:=by
 induction R with
 |nil=>rfl
 |cons r R ih=>
  unfold kvR at ih⊢;by_cases e:r.1=p
  ·simp[bR,e]
  ·have:pl r.1≠pl p:=λz=>e (tG z);let qj:pl p≠pl r.1:=λz=>this z.symm;simp[bR,e,this,qj,ih]
theorem EZ(R:h_ 0)(p:ve St):(bR (kvR R) (pl p)).isSome=decide (p∈R.map (·.1)):=by rw[EY,Option.isSome_map,Y3,List.find?_isSome,decide_eq_true_iff,Yt];simp
theorem OP(R:h_ 0)(r:ve St×Nat):kJ (kvR R) (pl r.1) (.str ⟨#[r.2]⟩)=kvR (AG R r):=by
 unfold kJ AG;rw[EZ];by_cases c:r.1∈R.map (·.1)
 ·rw[if_pos (i_ c),if_pos c];unfold kvR;rw[Y2,Y2];refine y0I λq _=>?_
  change(if pl q.1=pl r.1 then(pl q.1,PV.str ⟨#[r.2]⟩) else(pl q.1,PV.str ⟨#[q.2]⟩))=(pl (if q.1=r.1 then r else q).1,PV.str ⟨#[(if q.1=r.1 then r else q).2]⟩)
  by_cases e:q.1=r.1
  ·rw[if_pos (by rw[e]),if_pos e,e]
  ·rw[if_neg (λz=>e (tG z)),if_neg e]
 ·rw[if_neg (i_ c),if_neg c];simp[kvR]
theorem Md(R:h_ 0)(p:ve St):xX (kvR R) (pl p)=kvR (R.filter λr=>decide (r.1≠p)):=by
 unfold xX kvR;rw[List.filter_map];congr 1;refine List.filter_congr λr _=>?_
 change decide (pl r.1≠pl p)=decide (r.1≠p)
 by_cases e:r.1=p
 ·simp[e]
 ·have:pl r.1≠pl p:=λz=>e (tG z);simp[e,this]
def Asc(w:Str):Prop:=∀c∈w.cps.toList,c<128
def wr(hd:Str)(n:Int)(sn:PV)(u:ve St)(s:Int)(w:Str):PV:=.tup [.tup [.str hd,.int n],sn,.tup [.str "write",.tup [.str "t",.int 1],pl u,.int s,.str w]]
theorem RM{x:Str}(I:Nat->Ev->PH->Prop)(e:ms δ h=.ok [.ref n,.str x] h1)(ha:(x.cps.all λc=>decide (c<128))=true)(el:aV h1 n=a_ xs)(h0:I 0 δ h1)(keep:∀q δ h,I q δ h->uF n xs h=true)(step:∀(q:Nat) y δ h,(yR xs x)[q]?=a_ y->I q δ h->∃δ1,tg y δ=a_ δ1/\(body δ1 h).W { nx:=I (q+1),ct:=I (q+1),rt:=E.rt,bk:=E.nx})(fin:∀δ h,I (yR xs x).length δ h->E.nx δ h):(kH (OD ms) tg body δ h).W E:=by
 let go:(kC (uF n xs) tg body (yR xs x) δ h1).W E:=wC I _ 0 δ h1 h0 (λq y δ h _ hx hi=>⟨keep q δ h hi,by rw[y0v]at hx;show step q y δ h hx hi⟩) (λδ h hi=>⟨keep _ δ h hi,fin δ h (i_ hi)⟩);unfold kH OD;rw[e,Rs.bind_ok];unfold RD;dsimp only;rw[if_pos ha,el];show go
theorem C7(u:ve St)(s n:Int)(hd w:Str):yR ((q0m 0).map pl) w=(q0K 0).map rwP:=by unfold yR cA;rw[List.map_zip_eq_zipWith,List.zipWith_map_left];rfl
def tJ(h:PH)(a d:Nat)(R:h_ 0):Prop:=h[a]?=a_ (.ins "Signs" [("kept",.ref d)])/\bJ h d=a_ (kvR R)
variable{a:Nat}
theorem tJ.fld{d:Nat}{R:h_ 0}(t:tJ h a d R):fH "kept" (.ref a) h=.ok (.ref d) h:=rK t.1 rfl
variable{w:Str}
theorem OQ(h:Asc w):(w.cps.all λc=>decide (c<128))=true:=by rw[Array.all_eq_true_iff_forall_mem];intro c hc;show decide_eq_true (h c (i_ hc))
theorem Mh(R:h_ 0)(r:ve St×Nat):(AG R r).length<=R.length+1:=by
 unfold AG;split
 ·rw[XR];omega
 ·simp
theorem Js(l:h_ 0):∀R,(l.foldl AG R).length<=R.length+l.length:=by
 induction l with
 |nil=>intro R;simp
 |cons r l ih=>intro R;have:=ih (AG R r);have:=Mh R r;simp only[y1w,YM];omega
theorem Mj{d:Nat}{R:h_ 0}(t:tJ h a d R)(lR:R.length<=100000)(u:ve St)(s n:Int)(hd w:Str)(sn:PV)(hu:u.length<=900)(h0:1<=w.length)(h1:w.length<=12)(asc:Asc w)(Q:PV->PH->Prop)(k:∀h',(∀i o,i≠d->h[i]?=a_ o->h'[i]?=a_ o)->bJ h' d=a_ (kvR ((q0K 0).foldl AG R))->Q .non h'):(eK [.ref a,wr hd n sn u s w] h).W Q:=by
 refine hW ?_;let ep:jL [wr hd n sn u s w] h=.ok (.ref h.length) (h++[.lst ((q0m 0).map pl)]):=by have:=Jr u s n hd w sn (.tup [.str "t",.int 1]) "write" h (λp h'=>p=.ref h.length/\h'=h++[.lst ((q0m 0).map pl)]) hu h0 h1 ⟨rfl,rfl⟩;let⟨p,h',e,rfl,rfl⟩:=iC this;show e
 unfold mU;rw[aQ];let e4:vIx (wr hd n sn u s w) (.int 2) h=.ok (.tup [.str "write",.tup [.str "t",.int 1],pl u,.int s,.str w]) h:=by simp[wr]
 simp[e4];rfl';let dl:d<h.length:=by
  let g:=t.2;unfold bJ at g;split at g
  ·rename_i e;show(XN.mp e).1
  ·rename_i e;show(XN.mp e).1
  ·cases g
 let hA:(h++[MO.lst ((q0m 0).map pl)])[h.length]?=a_ (.lst ((q0m 0).map pl)):=aM;let xA:Ext h (h++[MO.lst ((q0m 0).map pl)]):=O_ _;generalize h++[MO.lst ((q0m 0).map pl)]=hB at ep hA xA;let ad:a≠d:=λe=>by let g:=t.2;rw[<-e]at g;unfold bJ at g;rw[t.1]at g;cases g
 let lw:(q0K 0).length<=12:=by unfold cA;rw[List.length_zip,vA];omega
 refine RM (n:=h.length) (xs:=(q0m 0).map pl) (x:=w) (h1:=hB) (λr δ h'=>(∀i o,i≠d->hB[i]?=a_ o->h'[i]?=a_ o)/\bJ h' d=a_ (kvR (((q0K 0).take r).foldl AG R))/\∃x3 x4,δ=[cu a,a_ (wr hd n sn u s w),a_ (.str w),x3,x4]) (by simp[ep]) (OQ asc) (by unfold aV;rw[hA]) ?_ ?_ ?_ ?_
 ·refine⟨λ_ _ _ e=>e,?_,_,_,rfl⟩;let⟨o,ho,_,hh⟩:=cE t.2;simpa using hh _ (xA _ _ ho)
 ·rintro r δ h' ⟨k1,_⟩;unfold uF aV;rw[k1 _ _ ⋯ hA];show PV.beqs_self _
 ·rintro r y δ h' hy ⟨k1,g1,x3,x4,rfl⟩;rw[C7,XT]at hy;let⟨q,hq,rfl⟩:=Yo.mp hy;refine⟨[cu a,a_ (wr hd n sn u s w),a_ (.str w),a_ (pl q.1),a_ (.str ⟨#[q.2]⟩)],by simp[rwP],?_⟩;let hr:=(XN.mp hq).1;let dm:(q0K 0).take (r+1)=(q0K 0).take r++[q]:=by rw[y0C,hq];rfl
  let l1:=Js ((q0K 0).take r) R;rw[X9]at l1;let p1:sF (.ref d) (pl q.1) (.str ⟨#[q.2]⟩) h'=a_ (h'.set d (.dD (kJ (kvR (((q0K 0).take r).foldl AG R)) (pl q.1) (.str ⟨#[q.2]⟩)))):=CL g1 (uY _) (by simp[kvR];omega);rw[OP]at p1;let ef:fH "kept" (.ref a) h'=.ok (.ref d) h':=rK (k1 _ _ ad (xA _ _ t.1)) rfl;unfold pU;simp[ef,p1];refine⟨λi o hi ho=>by rw[Ye (ZK hi)];show k1 i o hi ho,?_⟩;rw[dm,List.foldl_append];show uZ g1
 ·rintro δ h' ⟨k1,g1,x3,x4,rfl⟩;rw[C7,XR,y1l]at g1;show k h' (λi o hi ho=>k1 i o hi (xA _ _ ho)) g1
theorem GD{α β:Type}:∀{l:ve (α×β)},(l.map (·.1)).Nodup->∀{a b:α×β},a∈l->b∈l->a.1=b.1->a=b
 |[],_,a,b,ha,_,_=>by cases ha
 |x::r,nd,a,b,ha,hb,e=>by
  rw[YA,Z7]at nd;rcases Yf.mp ha with q|ha'
  ·rcases Yf.mp hb with z|hb'
   ·rw[q,z]
   ·show(nd.1 (Yt.mpr ⟨b,hb',by rw[<-e,q]⟩)).elim
  ·rcases Yf.mp hb with z|hb'
   ·show(nd.1 (Yt.mpr ⟨a,ha',by rw[e,z]⟩)).elim
   ·show GD nd.2 ha' hb' e
def SRt(os:h_ 0):Prop:=os.Pairwise λa c=>bef c.1 a.1=false
theorem SRt.uniq{os m9:h_ 0}(h:SRt os)(h':SRt m9)(p:os.Perm m9)(nd:(os.map (·.1)).Nodup):os=m9:=by
 refine List.Perm.eq_of_pairwise (λa b ha hb l1 l2=>?_) h h' p;let hb':=p.mem_iff.mpr hb;let e:a.1=b.1:=by
  by_cases c:a.1=b.1
  ·show c
  ·have:=zE c;rw[l1,l2]at this;cases this
 show GD nd ha hb' e
theorem yE(r:ve St×Nat)(h:PH)(hr:r.1.length<=1000):fJ [rwP r] h=.ok (rk r.1) h:=by
 let w:(fJ [rwP r] h).W λp h'=>p=rk r.1/\h'=h:=by refine hW ?_;simp[sZ,rwP,D4 r.1 h hr,rk]
 let⟨p,h',e,rfl,rfl⟩:=iC w;show e
theorem F0{f:Fn}(hf:∀r h,r.1.length<=1000->f [rwP r] h=.ok (rk r.1) h){R:h_ 0}(lR:R.length<1000)(hp:∀r∈R,r.1.length<=1000)(nd:(R.map (·.1)).Nodup)(e:oU x h=a_ (R.map rwP))(Q:PV->PH->Prop)(k:∀os h',q0x 0->os.Perm R->SRt os->Q (.ref h'.length) (h'++[.lst (os.map rwP)])):(jF f false 2 x h).W Q:=by
 refine ES (key:=λr:ve St×Nat=>rk r.1) (emb:=rwP) e ⋯ ?_ (λa ha c hc z=>?_) (λr hr h Q q=>?_) λos h' hx p pw=>k os h' hx p (pw.imp λ{a c} z=>by rw[D7]at z;show z)
 ·have:=U4 (R.map (·.1))
  rwa[Y2]at this
 ·let e1:a.1=c.1:=tG (M1 z);rw[GD nd ha hc e1]
 ·rw[hf r h (hp r hr)];simpa using q h (Ext.refl h)
theorem zF(e:bJ h n=a_ kvs):∃o,h[n]?=a_ o/\Lr (a_ o)=true/\wF o=a_ (kvs.map λkv=>.tup [kv.1,kv.2]):=by
 unfold bJ at e;split at e
 ·rename_i k hk;cases e;show⟨_,hk,rfl,rfl⟩
 ·rename_i hk;cases e;show⟨_,hk,rfl,rfl⟩
 ·cases e
theorem Jt(R:h_ 0):(kvR R).map (λkv=>PV.tup [kv.1,kv.2])=R.map rwP:=by unfold kvR;rw[Y2];rfl
theorem Mm{d:Nat}{R:h_ 0}(t:tJ h a d R)(lR:R.length<1000)(hp:∀r∈R,r.1.length<=1000)(nd:(R.map (·.1)).Nodup)(Q:PV->PH->Prop)(k:∀os h' l,q0x 0->h.length<=l->h'[l]?=a_ (.lst (os.map rwP))->os.Perm R->SRt os->Q (.ref l) h'):(dE [.ref a] h).W Q:=by
 refine hW ?_;unfold oZ;let⟨o,ho,hd,hi⟩:=zF t.2;rw[Jt]at hi;let⟨_,_,hD,_⟩:=cE t.2;let e0:O8 pS rN (mUn (fH "kept") (mV 0)) [cu a] h=.ok (.ref h.length) (h++[.vw 0 d]):=by simp[t.fld,hD,Gr ho hd]
 let fv:(h++[MO.vw 0 d])[d]?=a_ o:=O_ _ _ _ ho;let hl:h.length<=(h++[MO.vw 0 d]).length:=(Ext.app h [MO.vw 0 d]).len;simp only[Eo,AB];refine(congrArg (λr=>Rs.W (Rs.bind r _) _) e0).mpr ?_;rw[Rs.bind_ok];show F0 yE lR hp nd (by rw[ET aM fv,hi]) _ λos h' hx p s=>k os _ _ ((O_ _).trans (hx.trans (O_ _))) (Y9 hl hx.len) aM p s
theorem OR(p:ve St):(pl p).isKt=true:=uY p
theorem AH:∀{l:h_ 0}{r:ve St×Nat},(l.map (·.1)).Nodup->r∈l->l.filter (λq=>decide (q.1=r.1))=[r]
 |[],r,_,h=>by cases h
 |x::l,r,nd,h=>by
  rw[YA,Z7]at nd;rcases Yf.mp h with rfl|h
  ·rw[List.filter_cons_of_pos (by simp)];congr 1;rw[List.filter_eq_nil_iff];intro q hq e;show nd.1 (Yt.mpr ⟨q,hq,i_ e⟩)
  ·have:x.1≠r.1:=λe=>nd.1 (Yt.mpr ⟨r,h,e.symm⟩);rw[List.filter_cons_of_neg (i_ this)];show AH nd.2 h
theorem C8{l:h_ 0}{p:ve St×Nat->Bool}(nd:(l.map (·.1)).Nodup):((l.filter p).map (·.1)).Nodup:=List.Sublist.nodup (List.Sublist.map _ List.filter_sublist) nd
def eQ(R:h_ 0)(g:ve (ve St)):h_ 0:=R.filter λr=>decide (r.1∉g)
def inR(R:h_ 0)(g:ve (ve St)):h_ 0:=R.filter λr=>decide (r.1∈g)
theorem wK(R:h_ 0)(g:ve (ve St))(p:ve St):eQ R (g++[p])=(eQ R g).filter λr=>decide (r.1≠p):=by
 unfold eQ;rw[List.filter_filter];refine List.filter_congr λr _=>?_;by_cases h1:r.1∈g <;> by_cases h2:r.1=p <;> simp[h1,h2]
theorem F3(R:h_ 0)(p:ve St)(h:p∉R.map (·.1)):R.filter (λr=>decide (r.1≠p))=R:=by rw[y1g];intro r hr;show decide_eq_true λe=>h (Yt.mpr ⟨r,hr,e⟩)
theorem OS{G R:h_ 0}{g:ve (ve St)}(h:(G++eQ R g).Perm R):G.Perm (inR R g):=by
 let h2:(inR R g++eQ R g).Perm R:=by
  have:=List.filter_append_perm (λr:ve St×Nat=>decide (r.1∈g)) R;let e:(λr:ve St×Nat=>!decide (r.1∈g))=λr=>decide (r.1∉g):=by funext r;simp
  rw[e]at this;show this
 show(List.perm_append_right_iff _).mp (h.trans h2.symm)
def Ju(h:PH)(a d:Nat)(P:PV)(R:h_ 0)(g:ve (ve St))(q:Nat)(δ:Ev)(h':PH):Prop:=
 ∃G x3,δ=[cu a,a_ P,q0X 0,x3]/\(∀i o,i≠d->h[i]?=a_ o->h'[i]?=a_ o)/\h'[h.length]?=a_ (.lst (G.map rwP))/\bJ h' d=a_ (kvR (eQ R (g.take q)))/\(G++eQ R (g.take q)).Perm R
variable{P:PV}
theorem F4{d:Nat}{R:h_ 0}{g:ve (ve St)}{q:Nat}{p:ve St}(t:tJ h a d R)(lR:R.length<=100000)(nd:(R.map (·.1)).Nodup)(hq:g[q]?=a_ p)(I:Ju h a d P R g q δ h')(k:∀δ h',Ju h a d P R g (q+1) δ h'->E.nx δ h'):
  (mW (δ.set 3 (a_ (pl p))) h').W E:=by
 let⟨G,x3,rfl,k1,k2,k3,k4⟩:=I;let dm:g.take (q+1)=g.take q++[p]:=by rw[y0C,hq];rfl
 let ad:a≠d:=λe=>by let g:=t.2;rw[<-e]at g;unfold bJ at g;rw[t.1]at g;cases g
 let dl:d≠h.length:=λe=>by let⟨o,ho,_⟩:=zF t.2;have:=(XN.mp ho).1;omega
 let ef:∀h2,(∀i o,i≠d->h[i]?=a_ o->h2[i]?=a_ o)->fH "kept" (.ref a) h2=.ok (.ref d) h2:=λh2 kk=>rK (kk _ _ ad t.1) rfl;let e1:Ak (pl p) (.ref d) h'=.ok (.bl (decide (p∈(eQ R (g.take q)).map (·.1)))) h':=by rw[<-EZ];show Ru k3 (uY p)
 let⟨_,_,hD,_⟩:=cE k3;unfold mW;let x9:((eQ R (g.take q)).map (·.1)).Nodup:=C8 nd;by_cases c:p∈(eQ R (g.take q)).map (·.1)
 ·let⟨r,hr,er⟩:=Yt.mp c;let lk:bR (kvR (eQ R (g.take q))) (pl p)=a_ (.str ⟨#[r.2]⟩):=by
   rw[EY];let e2:(eQ R (g.take q)).find? (λx=>decide (x.1=p))=a_ r:=by have:=AH x9 hr;rw[er]at this;rw[<-List.head?_filter,this];rfl
   rw[e2];rfl
  let ep:=LB k3 (OR p) lk;rw[Md]at ep;let lG:G.length<=100000:=by have:=k4.length_eq;rw[X6]at this;omega
  let g2:(h'.set d (.dD (kvR ((eQ R (g.take q)).filter λr=>decide (r.1≠p)))))[h.length]?=a_ (.lst (G.map rwP)):=by rw[Ye dl];show k2
  let ap:=lK (p:=rwP r) g2 (by rw[XR];omega);let xr:eQ R (g.take (q+1))=(eQ R (g.take q)).filter λr=>decide (r.1≠p):=by rw[dm,wK]
  rw[<-xr]at ep g2 ap;let Xx:PV.tup [pl p,.str ⟨#[r.2]⟩]=rwP r:=by rw[<-er];rfl
  simp[ef h' k1,e1,c,uI k2,hD,ep,Xx,ap];refine k _ _ ⟨G++[r],_,rfl,λi o hi ho=>?_,?_,?_,?_⟩
  ·have:i≠h.length:=by have:=(XN.mp ho).1;omega
   rw[Ye (ZK this),Ye (ZK hi)];show k1 i o hi ho
  ·rw[YF];show lL g2
  ·let e3:=uZ (kvs':=kvR (eQ R (g.take (q+1)))) k3;let⟨o,ho,_,hh⟩:=cE e3;refine hh _ ?_;rw[Ye (ZK dl)];show ho
  ·rw[xr];let e4:=List.filter_append_perm (λx:ve St×Nat=>decide (x.1=r.1)) (eQ R (g.take q));rw[AH x9 hr]at e4;let e5:(λx:ve St×Nat=>!decide (x.1=r.1))=λx=>decide (x.1≠p):=by funext x;rw[er];simp
   rw[e5]at e4;rw[XU];show(Ys G e4).trans k4
 ·simp[ef h' k1,e1,c];refine k _ _ ⟨G,_,rfl,k1,k2,?_,?_⟩
  ·rw[dm,wK,F3 _ _ c];show k3
  ·rw[dm,wK,F3 _ _ c];show k4
theorem RN{d:Nat}{R:h_ 0}(t:tJ h a d R)(lR:R.length<=900)(hp:∀r∈R,r.1.length<=1000)(nd:(R.map (·.1)).Nodup)(g:ve (ve St))(P:PV)(hP:P=.tup (g.map pl)\/∃n,P=.ref n/\h[n]?=a_ (.lst (g.map pl)))(Q:PV->PH->Prop)(k:∀os h' l,(∀i o,i≠d->h[i]?=a_ o->h'[i]?=a_ o)->bJ h' d=a_ (kvR (eQ R g))->h.length<=l->h'[l]?=a_ (.lst (os.map rwP))->os.Perm (inR R g)->SRt os->Q (.ref l) h'):(gU [.ref a,P] h).W Q:=by
 refine hW ?_;unfold qM;rw[aQ];simp;rfl';rw[aQ];let dl:∃o,h[d]?=a_ o:=let ⟨o,ho,_⟩:=zF t.2;⟨o,ho⟩;let x0:=Ext.app h [MO.lst []];let i0:Ju h a d P R g 0 [cu a,a_ P,q0X 0,b_] (h++[MO.lst []]):=by
  let e0:eQ R (g.take 0)=R:=by unfold eQ;rw[y1g];intro r _;simp
  show⟨[],b_,rfl,λi o _ ho=>x0 _ _ ho,aM,by rw[e0];show Aq x0 t.2,by rw[e0];show Zd _⟩
 let fin:∀δ h',Ju h a d P R g g.length δ h'->Lt (bY (oV fJ false 2 (mV 2))) { nx:=λ_ h=>Q .non h,rt:=Q} δ h':=by
  rintro δ h' ⟨G,x3,rfl,k1,k2,k3,k4⟩;rw[y1l]at k3 k4;rfl';simp only[Eo,AB]
  change Rs.W (jF fJ false 2 (.ref h.length) h') _
  let XH:(G.map (·.1)).Nodup:=by have:=(k4.map y0i).nodup_iff.mpr nd;rw[YF]at this;show(Zo.mp this).1
  let lG:G.length<1000:=by have:=k4.length_eq;rw[X6]at this;omega
  refine F0 yE lG (λr hr=>hp r (k4.mem_iff.mp (Yu _ hr))) XH (AC k2) _ λos h2 hx p s=>?_;let x2:Ext h' (h2++[MO.lst (os.map rwP)]):=hx.trans (O_ _);let l1:h.length<=h2.length:=by have:=(XN.mp k2).1;have:=hx.len;omega
  show k os _ _ (λi o hi ho=>x2 _ _ (k1 i o hi ho)) (Aq x2 k3) l1 aM (p.trans (OS k4)) s
 rcases hP with rfl|⟨n,rfl,hn⟩
 ·refine Ri (xs:=g.map pl) (Ju h a d _ R g) (.inl (by simp)) i0 ?_ (λδ h' hh=>fin δ h' (i_ hh));intro q x δ h' hx hi;rw[XT]at hx;let⟨p,j0,rfl⟩:=Yo.mp hx;show⟨_,rfl,F4 t ⋯ nd j0 hi λ_ _ z=>z⟩
 ·let vx:n≠d:=λe=>by have:=t.2;unfold bJ at this;rw[<-e,hn]at this;cases this
  refine Ai (n:=n) (xs:=g.map pl) (h1:=h++[MO.lst []]) (Ju h a d _ R g) (by simp) (x0 _ _ hn) i0 ?_ ?_ (λδ h' hh=>fin δ h' (i_ hh))
  ·rintro q δ h' _ ⟨G,x3,_,k1,_⟩;show k1 _ _ vx hn
  ·intro q x δ h' hx hi;rw[XT]at hx;let⟨p,j0,rfl⟩:=Yo.mp hx;show⟨_,rfl,F4 t ⋯ nd j0 hi λ_ _ z=>z⟩
theorem OT(e:h[n]?=a_ (.lst xs)):sO [.ref n] h=.ok (.tup xs) h:=by simp[sO,aV,e]
theorem RP{d:Nat}{R:h_ 0}{f:Fn}(t:tJ h1 a d R)(og:tb "Signs" = a_ f)(vd:[(("kept" : Str),PV.ref d)].lookup mm=b_)(h0:mo δ h=.ok (.ref a) h1):bM mm n tb mo ms δ h=(ms δ h1).bind λps h2=>if ps.length=n then f (.ref a::ps) h2 else .bad:=iE h0 t.1 og vd
theorem tJ.ext{d:Nat}{R:h_ 0}(t:tJ h a d R)(x:q0x 0):tJ h' a d R:=⟨x _ _ t.1,Aq x t.2⟩
theorem OU{R:h_ 0}{r:ve St×Nat}(h:r.1∉R.map (·.1)):AG R r=R++[r]:=if_neg h
theorem Mn(g:h[n]?=a_ (.ins "Signs" [])):bT [.ref n] h=.ok .non ((h++[MO.dK []]).set n (.ins "Signs" [("kept",.ref h.length)])):=by
 let w:(bT [.ref n] h).W λp h'=>p=.non/\h'=(h++[MO.dK []]).set n (.ins "Signs" [("kept",.ref h.length)]):=by refine hW ?_;let g':=Ext.app h [MO.dK []] _ _ g;simp[iV,uS g',mT]
 let⟨p,h',e,rfl,rfl⟩:=iC w;show e
structure Rk(R:h_ 0):Prop where
 nd:(R.map (·.1)).Nodup
 hp:∀r∈R,r.1.length<=1000
 len:R.length<=900
theorem Rk.perm{R S:h_ 0}(k:Rk R)(p:S.Perm R):Rk S:=⟨(p.map y0i).nodup_iff.mpr k.nd,λr hr=>k.hp r (p.mem_iff.mp hr),by rw[p.length_eq];show k.len⟩
theorem Rk.out{R:h_ 0}(k:Rk R)(g:ve (ve St)):Rk (eQ R g):=⟨C8 k.nd,λr hr=>k.hp r (List.mem_filter.mp hr).1,Y9 (y1F _ _) k.len⟩
theorem Mp{R S:h_ 0}(p:S.Perm R)(g:ve (ve St)):(eQ S g).Perm (eQ R g):=p.filter _
theorem HE{d:Nat}{R S:h_ 0}(t:tJ h1 a d R)(k:Rk R)(p:S.Perm R)(s:SRt S)(og:tb "Signs" = a_ dE)(e0:mo δ h=.ok (.ref a) h1):∃h' l,Ext h1 h'/\h1.length<=l/\h'[l]?=a_ (.lst (S.map rwP))/\bM "rows" 0 tb mo aE δ h=.ok (.ref l) h':=by
 let w:(dE [.ref a] h1).W λv h'=>∃l,v=.ref l/\Ext h1 h'/\h1.length<=l/\h'[l]?=a_ (.lst (S.map rwP)):=by refine Mm t (by have:=k.len;omega) k.hp k.nd _ λos h' l x hl g p1 s1=>?_;let e:os=S:=SRt.uniq s1 s (p1.trans p.symm) (k.perm p1).nd;rw[e]at g;show⟨l,rfl,x,hl,g⟩
 let⟨v,h',e,l,rfl,x,hl,g⟩:=iC w;refine⟨h',l,x,hl,g,?_⟩;rw[RP t og rfl e0,mI,Rs.bind_ok,if_pos (by rfl),e]
theorem D8(n:Nat):∀xs:ve PV,PV.ds (xs++[.ref n])=b_
 |[]=>rfl
 |x::xs=>by
  change PV.ds (x::(xs++[.ref n]))=b_
  simp[PV.ds,D8 n xs]
theorem RQ(hx:x.pl 40=true):∀n,eqF n x x h=a_ true
 |0=>by unfold eqF;rw[zA hx hx];simp
 |n+1=>by unfold eqF;rw[zA hx hx];simp
variable{b:Nat}
theorem D9(g1:h[a]?=a_ (.lst xs))(g2:h[b]?=a_ (.lst xs))(hx:xs.all (PV.pl 39)=true):∀n,eqF n (.ref a) (.ref b) h=a_ true
 |0=>by unfold eqF;rw[uJ g1 g2 hx hx];simp
 |n+1=>by unfold eqF;rw[uJ g1 g2 hx hx];simp
theorem F5{f:PV->PV->v_ Bool}{x y:PV}(e:f x y=a_ true):∀xs:ve PV,(∀z∈xs,f z z=a_ true)->eqL f (xs++[x]) (xs++[y])=a_ true
 |[],_=>by simp[eqL,e]
 |z::xs,h=>by
  change eqL f (z::(xs++[x])) (z::(xs++[y]))=_
  simp[eqL,h z XY,F5 e xs λw hw=>h w (XW _ hw)]
def rF{α:Type}(F:α->ve PV)(z:α×Nat):PV:=.tup (F z.1++[.ref z.2])
theorem OV{α:Type}{F G:α->ve PV}(hF:∀a,(F a).all (PV.pl 40)=true)(hG:∀a,(G a).all (PV.pl 39)=true){z u:α×Nat}(e:z.1=u.1)(o1:h[z.2]?=a_ (.lst (G z.1)))(o2:h[u.2]?=a_ (.lst (G u.1)))(n:Nat):eqF (n+1) (rF F z) (rF F u) h=a_ true:=by
 unfold eqF rF;let n2:kY (.tup (F z.1++[.ref z.2])) (.tup (F u.1++[.ref u.2])) h=b_:=by unfold kY;simp[PV.d,D8,gG]
 rw[n2,<-e];rw[<-e]at o2;show F5 (D9 o1 o2 (hG _) n) _ λy hy=>RQ (Yy.mp (hF z.1) y hy) n
theorem Mq{α:Type}{F G:α->ve PV}(hF:∀a,(F a).all (PV.pl 40)=true)(hG:∀a,(G a).all (PV.pl 39)=true){zs us:ve (α×Nat)}(e:zs.map (·.1)=us.map (·.1))(o1:∀z∈zs,h[z.2]?=a_ (.lst (G z.1)))(o2:∀z∈us,h[z.2]?=a_ (.lst (G z.1)))(g1:h[a]?=a_ (.lst (zs.map (rF F))))(g2:h[b]?=a_ (.lst (us.map (rF F))))(n:Nat):eqF (n+2) (.ref a) (.ref b) h=a_ true:=by
 let all:∀(zs us:ve (α×Nat)),zs.map (·.1)=us.map (·.1)->(∀z∈zs,h[z.2]?=a_ (.lst (G z.1)))->(∀z∈us,h[z.2]?=a_ (.lst (G z.1)))->eqL (λa b=>eqF (n+1) a b h) (zs.map (rF F)) (us.map (rF F))=a_ true:=by
  intro zs
  induction zs with
  |nil=>intro us e _ _;cases us with
   |nil=>rfl
   |cons _ _=>simp at e
  |cons z zs ih=>intro us e p q;cases us with
   |nil=>simp at e
   |cons u us=>simp only[YA,List.cons.injEq]at e;simp[eqL,OV hF hG e.1 (p z XY) (q u XY) n,ih us e.2 (λy hy=>p y (XW _ hy)) (λy hy=>q y (XW _ hy))]
 cases zs with
 |nil=>
  cases us with
  |nil=>exact D9 g1 g2 rfl _
  |cons _ _=>simp at e
 |cons z zs=>
  let q1:gG (.ref a) h=a_ ((z::zs).map (rF F)):=by simp[gG,aV,g1]
  let q2:gG (.ref b) h=a_ (us.map (rF F)):=by simp[gG,aV,g2]
  let q3:PV.ds ((z::zs).map (rF F))=b_:=by simp[PV.ds,PV.d,rF,D8]
  let n2:kY (.ref a) (.ref b) h=b_:=by unfold kY;simp only[PV.d,q1,q2,q3]
  unfold eqF;rw[n2];simp only[q1,q2];show all _ _ e o1 o2
structure cI(h:PH)(t a d m l:Nat)(R:h_ 0)(S:ve Mrk):Prop where
 tx:h[t]?=some (.ins "Text" [("signs",.ref a),("marks",.ref m)])
 sg:tJ h a d R
 mr:fS h m l S
variable{l:Nat}
theorem cI.ext{t d:Nat}{R:h_ 0}(T:q0y S)(x:q0x 0):cI h' t a d m l R S:=⟨x _ _ T.tx,T.sg.ext x,T.mr.ext x⟩
theorem cI.f1{t d:Nat}{R:h_ 0}(T:q0y S):fH "signs" (.ref t) h=.ok (.ref a) h:=rK T.tx (by rfl)
theorem cI.f2{t d:Nat}{R:h_ 0}(T:q0y S):fH "marks" (.ref t) h=.ok (.ref m) h:=rK T.tx (by rfl)
structure OKm(R:h_ 0)(S:ve Mrk):Prop where
 rk:Rk R
 lS:S.length<=1
 lE:∀m∈S,m.f.length<=1000/\m.l.length<=1000
def tF(r:ve St×Nat):ve PV:=[pl r.1,.str ⟨#[r.2]⟩]
theorem U6(r:ve St×Nat):(tF r).all (PV.pl 40)=true:=by
 change((pl r.1).pl 40&&((PV.str ⟨#[r.2]⟩).pl 40&&true))=true
 rw[C6];rfl
def wds(S:ve Mrk)(r:ve St×Nat):ve PV:=(yS r.1 S).map PV.str
theorem F6:∀(Ro kr:h_ 0),kr.map (·.1)=Ro.map (·.1)->∃zs:ve ((ve St×Nat)×Nat),zs.map (·.1)=Ro/\zs.map (λz=>(z.1.1,z.2))=kr
 |[],[],_=>⟨[],rfl,rfl⟩
 |[],z::kr,e=>by simp at e
 |r::Ro,[],e=>by simp at e
 |r::Ro,z::kr,e=>by simp only[YA,List.cons.injEq]at e;let⟨zs,e1,e2⟩:=F6 Ro kr e.2;show⟨(r,z.2)::zs,by simp[e1],by simp[e2,<-e.1]⟩
theorem filterMap_some{α β:Type}(f:α->β)(l:ve α):l.filterMap (λy=>a_ (f y))=l.map f:=List.filterMap_eq_map (f:=f)▸rfl
theorem Jv{t d:Nat}{R Ro:h_ 0}(T:q0y S)(rk:Rk R)(p:Ro.Perm R)(s:SRt Ro):∃h' n,dH [.ref t] h=.ok (.ref n) h'/\q0x 0/\h.length<=n/\h'[n]?=a_ (.lst ((Ro.map (·.1)).map pl)):=by
 let⟨h1,l1,x1,b1,g1,e1⟩:=HE (δ:=[cu t]) (h:=h) (tb:=mM) (mo:=mUn (fH "signs") (mV 0)) T.sg rk p s (by rfl) (by simp[T.f1]);let lR:=rk.len;let yq:=p.length_eq;let hc:=nP (m:=bM "rows" 0 mM (mUn (fH "signs") (mV 0)) aE) (n:=l1) (js:=[b_,b_]) (tg:=gTp 2 (gCn (gN 0) (gCn (gN 1) gNl))) (tst:=iU) (elt:=mV 0) (δ:=[cu t]) (h:=h) (h1:=h1) (ys:=Ro) (emb:=rwP)
  (λr=>a_ (pl r.1)) e1 g1 ⋯ (λr hr=>⟨[a_ (pl r.1),a_ (.str ⟨#[r.2]⟩)],by simp[jU,rwP],λh2 x2=>⟨rfl,by simp⟩⟩)
 rw[filterMap_some,show(Ro.map λr=>pl r.1)=(Ro.map (·.1)).map pl by rw[Y2];rfl]at hc;let w:(dH [.ref t] h).W λv h'=>v=.ref h1.length/\h'=h1++[.lst ((Ro.map (·.1)).map pl)]:=by
  refine hW ?_;unfold mX;rw[qa_ 1 [PV.ref t] [cu t],Eo,hc,jV]
  show⟨rfl,rfl⟩
 let⟨v,h',e,rfl,rfl⟩:=iC w;show⟨_,_,e,x1.trans (O_ _),x1.len,aM⟩
theorem OW(zs:ve ((ve St×Nat)×Nat)):enP ((zs.map (·.1)).map rwP)=zs.zipIdx.map λy=>.tup [.int (y.2:Nat),rwP y.1.1]:=by refine Zi λi=>?_;unfold enP;rw[List.getElem?_mapIdx,XT,XT,XT,List.getElem?_zipIdx];cases zs[i]? <;> simp
theorem HF{t d:Nat}{R Ro:h_ 0}(T:q0y S)(o:OKm R S)(p:Ro.Perm R)(s:SRt Ro)(Q:PV->PH->Prop)(k:∀n h'(zs:ve ((ve St×Nat)×Nat)),q0x 0->h.length<=n->zs.map (·.1)=Ro->h'[n]?=a_ (.lst (zs.map (rF tF)))->(∀z∈zs,h.length<=z.2/\z.2<n/\h'[z.2]?=a_ (.lst (wds S z.1)))->Q (.ref n) h'):(dX [.ref t] h).W Q:=by
 let⟨h1,n1,e1,x1,b1,g1⟩:=Jv T o.rk p s;let T1:=T.ext x1;let lR:=o.rk.len;let yq:=p.length_eq;refine hW ?_;unfold qP;rw[qa_ 2 [PV.ref t] [cu t,b_],aQ,sE]
 let ep:bM "places" 0 rP (mV 0) aE [cu t,b_] h=.ok (.ref n1) h1:=by rw[iE (k:=t) (f:=dH) (by simp) T.tx (by rfl) (by rfl),mI,Rs.bind_ok,if_pos (by rfl),e1]
 let ew:bM "words_along" 1 lT (mUn (fH "marks") (mV 0)) (aB (bM "places" 0 rP (mV 0) aE) aE) [cu t,b_] h=bQ [.ref m,.ref n1] h1:=by rw[M4 T.mr (f:=bQ) (by rfl) nofun (by simp[T.f2])];simp[ep]
 rw[ew];refine M8 (Ps:=Ro.map (·.1)) o.lS o.lE (λq hq=>?_) (by rw[XR,yq];show o.rk.len) T1.mr g1 _ λn2 h2 kr x2 b2 ez g2 oz=>?_
 ·let⟨r,hr,rfl⟩:=Yt.mp hq;show o.rk.hp r (p.mem_iff.mp hr)
 let⟨zs,t9,rfl⟩:=F6 Ro kr ez;rw[Y2]at g2;simp only[List.set_cons_succ,List.set_cons_zero];rfl';let T2:=T1.ext x2;let⟨h3,l3,x3,b3,g3,e3⟩:=HE (δ:=[cu t,cu n2]) (h:=h2) (tb:=mM) (mo:=mUn (fH "signs") (mV 0)) T2.sg o.rk p s (by rfl) (by simp[T2.f1]);rw[<-t9]at g3;let ei:mEn (aB (bM "rows" 0 mM (mUn (fH "signs") (mV 0)) aE) aE) [cu t,cu n2] h2=.ok ⟨zs.zipIdx.map λy=>.tup [.int (y.2:Nat),rwP y.1.1],uF l3 ((zs.map (·.1)).map rwP)⟩ h3:=by unfold mEn;rw[<-OW];simp[e3,enI,aV,g3]
 let Wz:zs.length<=900:=by have:=q0Y t9;rw[XR]at this;omega
 let hc:=BS (js:=[b_,b_,a_ 1]) (tg:=gTp 2 (gCn (gN 0) (gCn (gN 1) gNl))) (tst:=iU) (elt:=cO (aB (F_ (mV 1) (l_ 0)) (aB (F_ (mV 1) (l_ 1)) (aB (F_ (mV 2) (mV 0)) aE)))) (λy=>a_ (rF tF y.1)) ei (uN g3) (by simp;omega) (λy hy=>⟨[cx (y.2:Nat),a_ (rwP y.1.1),cu n2],by simp[jU],λh4 x4=>⟨rfl,by
   let d0:=List.mem_zipIdx_iff_getElem?.mp hy;let r0:vIx (rwP y.1.1) (.int 0) h4=.ok (pl y.1.1.1) h4:=by unfold rwP;simp
   let r1:vIx (rwP y.1.1) (.int 1) h4=.ok (.str ⟨#[y.1.1.2]⟩) h4:=by unfold rwP;simp
   let r2:vIx (.ref n2) (.int (y.2:Nat)) h4=.ok (.ref y.1.2) h4:=by
    rw[mJ (x4 _ _ (x3 _ _ g2)),show atI _ ((y.2:Nat):Int)=cu y.1.2 from vW (by rw[XT,d0];rfl)]
    rfl
   simp[r0,r1,r2];rfl⟩⟩)
 let em:zs.zipIdx.filterMap (λy=>a_ (rF tF y.1))=zs.map (rF tF):=by
  rw[filterMap_some]
  change zs.zipIdx.map (rF tF∘λy=>y.1)=_
  rw[<-Y2,List.zipIdx_map_fst]
 rw[em]at hc;rw[Eo,hc,jV];let l12:=x1.len;let l23:=x2.len;let l34:=x3.len;refine k _ _ zs (x1.trans (x2.trans (x3.trans (O_ _)))) ⋯ t9 aM λz hz=>?_;let⟨z1,z2⟩:=oz (z.1.1,z.2) (Yt.mpr ⟨z,hz,rfl⟩);let z3:=x3 _ _ z2;have:=(XN.mp z3).1;show⟨by change _<=z.2;let z1:n2<z.2:=z1;omega,this,O_ _ _ _ z3⟩
theorem RR(S:ve Mrk)(r:ve St×Nat):(wds S r).all (PV.pl 39)=true:=OH _
variable{y:PV}
theorem Mr(e:eqF 3 x y h=a_ true):sT x y h=.ok (.bl false) h:=by unfold sT;rw[e];rfl
theorem F7:∀(l R:h_ 0),((R++l).map (·.1)).Nodup->l.foldl AG R=R++l
 |[],R,_=>by simp
 |x::l,R,nd=>by
  let iu:x.1∉R.map (·.1):=λz=>by rw[YF,Zo]at nd;show nd.2.2 _ z _ (by simp) rfl
  rw[y1w,OU iu,F7 l (R++[x]) (by rw[XU];show nd),XU];rfl
theorem wL(u:ve St)(s n:Int)(hd w:Str):(q0K 0).map (·.1)=q0m 0:=by unfold cA;refine List.map_fst_zip ?_;rw[vA,len_list];show X1 _
theorem wM(u:ve St)(s n:Int)(hd w:Str):(q0K 0).map (·.2)=w.cps.toList:=by unfold cA;refine List.map_snd_zip ?_;rw[vA,len_list];show X1 _
theorem nY:∀(p:ve St)(x:St)(r:ve St),bef p (p++x::r)=decide (0<=x.s)
 |[],x,r=>rfl
 |y::p,x,r=>by
  change(if y=y then bef p (p++x::r) else wJ y y)=_
  rw[q0s 0];show nY p x r
theorem AI:∀(p:ve St)(x:St)(r:ve St),bef (p++x::r) p=decide (x.s<0)
 |[],x,r=>rfl
 |y::p,x,r=>by
  change(if y=y then bef (p++x::r) p else wJ y y)=_
  rw[q0s 0];show AI p x r
theorem HG:∀{l r:ve St},r.take l.length≠l->bef l r=true->∀e,bef (l++e) r=true
 |[],r,h,_,_=>(h rfl).elim
 |x::l,[],_,h,e=>h
 |x::l,y::r,hp,h,e=>by
  change(if x=y then bef (l++e) r else wJ x y)=true
  let h:(if x=y then bef l r else wJ x y)=true:=h;by_cases q:x=y
  ·rw[if_pos q]at h⊢;refine HG (λz=>hp ?_) h e
   change y::r.take l.length=x::l
   rw[z,q]
  ·rw[if_neg q]at h⊢;show h
theorem AJ{a b c:ve St}(h1:bef b a=false)(h2:bef c b=false):bef c a=false:=by rw[<-D7] at*;show Gh h1 h2
theorem wN{a b:ve St}(h:bef a b=true):bef b a=false:=by rw[<-D7] at*;show Gi h
theorem wO(xs ys:ve St)(h:PH)(hx:xs.length<=1000)(hy:ys.length<=1000):nT [pl xs,pl ys] h=.ok (.bl (bef xs ys)) h:=by
 let w:(nT [pl xs,pl ys] h).W λp h'=>p=.bl (bef xs ys)/\h'=h:=by refine hW ?_;let l1:=OI xs ys h;unfold rk at l1;simp[AF,D4,hx,hy,l1]
 let⟨p,h',e,rfl,rfl⟩:=iC w;show e
def dP(l:ve St):v_ (ve St)->ve St×Int
 |none=>(l,1)
 |some r=>if r.take l.length=l then(r,-1) else(l,1)
theorem RS{l:ve St}{ro:v_ (ve St)}(hb:∀r,ro=a_ r->bef l r=true)(hd:Str)(n:Int)(e:ve St):bef l ((dP l ro).1++⟨(dP l ro).2,hd,n,0⟩::e)=true:=by
 cases ro with
 |none=>exact(nY l _ e).trans rfl
 |some r=>
  let hb:=hb r rfl;unfold dP;dsimp only;split
  ·rename_i c;let er:r=l++r.drop l.length:=by
    rw[<-c,X9];have:r.take (min l.length r.length)++r.drop (min l.length r.length)=r:=Yh _ _;let e2:r.take (min l.length r.length)=r.take l.length:=by rw[List.take_eq_take_iff];omega
    rw[e2]at this;show this.symm
   generalize r.drop l.length=t at er;subst er;cases t with
   |nil=>rw[YY,uX]at hb;cases hb
   |cons y t=>
    rw[nY]at hb
    change bef l ((l++y::t)++_)=true
    rw[XU,y1j,nY];show hb
  ·show(nY l _ e).trans rfl
theorem RT{l r:ve St}(hb:bef l r=true)(hd:Str)(n:Int)(e:ve St):bef ((dP l (a_ r)).1++⟨(dP l (a_ r)).2,hd,n,0⟩::e) r=true:=by
 unfold dP;dsimp only;split
 ·show(AI r _ e).trans rfl
 ·rename_i c;show HG c hb _
theorem RU(l:ve St)(ro:v_ (ve St))(h:PH)(hl:l.length<=1000)(hr:∀r,ro=a_ r->r.length<=1000/\bef l r=true):C5 [pl l,(ro.map pl).getD .non] h=.ok (.tup [pl (dP l ro).1,.int (dP l ro).2]) h:=by
 let w:(C5 [pl l,(ro.map pl).getD .non] h).W λp h'=>p=.tup [pl (dP l ro).1,.int (dP l ro).2]/\h'=h:=by
  refine hW ?_;unfold LM;rw[aQ,fG];cases ro with
  |none=>have e0:mR PV.non=true:=rfl;simp[e0,dP]
  |some r=>
   let⟨lr,hb⟩:=hr r rfl;let e0:mR (pl r)=false:=rfl;simp[e0];rfl';rw[aQ,fG];simp[wO l r h hl lr,hb];rfl';rw[aQ,fG];let e1:dN [pl l] h=.ok (.int (l.length:Int)) h:=by unfold pl;simp
   let e2:vSl (pl r) b_ (a_ (l.length:Int)) h=.ok (pl (r.take l.length)) h:=by unfold pl;rw[Of,L7 ⋯,<-Z5];rfl
   let e3:vEq (pl (r.take l.length)) (pl l) h=.ok (.bl (decide (r.take l.length=l))) h:=by
    rw[CD (C6 _) (C6 _)];congr 2;rw[decide_eq_decide];show⟨λz=>tG z,λz=>by rw[z]⟩
   simp[e1,e2,e3];by_cases c:r.take l.length=l
   ·simp[c,dP]
   ·simp[c,dP];rfl';simp
 let⟨p,h',e,rfl,rfl⟩:=iC w;show e
def lft(Ps:ve (ve St)):Nat->ve St
 |0=>[]
 |i+1=>Ps.getD i []
def Gd(p:ve St):Prop:=∃x xs,p=x::xs/\x.s=1
structure SI(S:h_ 0):Prop where
 srt:SRt S
 nd:(S.map (·.1)).Nodup
 gd:∀r∈S,Gd r.1
 hl:∀r∈S,r.1.length<=500
variable{i j:Nat}
theorem SI.lt{S:h_ 0}(I:SI S)(i8:i<j){a b:ve St×Nat}(ha:S[i]?=a_ a)(hb:S[j]?=a_ b):bef a.1 b.1=true:=by
 let⟨hi,ea⟩:=XN.mp ha;let⟨hj,eb⟩:=XN.mp hb;let h1:=(Yq.mp I.srt) i j hi hj i8;rw[ea,eb]at h1;let ne:b.1≠a.1:=λz=>by
  have:=(Yq.mp I.nd) i j (i_ hi) (i_ hj) i8
  rw[List.getElem_map,List.getElem_map,ea,eb]at this;show this z.symm
 have:=zE ne;rw[h1]at this;show this
theorem SI.lb{S:h_ 0}(I:SI S){r:ve St×Nat}(hr:S[i]?=a_ r):bef (lft (S.map (·.1)) i) r.1=true:=by
 cases i with
 |zero=>
  let⟨x,xs,e,hx⟩:=I.gd r (Yv hr);rw[e]
  change decide (0<=x.s)=true
  rw[hx];rfl
 |succ i=>
  let hi:=(XN.mp hr).1;let ha:S[i]?=a_ S[i]:=Yd _;have:lft (S.map (·.1)) (i+1)=(S[i]).1:=by
   change(S.map (·.1)).getD i []=_
   rw[X8,XT,ha];rfl
  rw[this];show I.lt (y1i i) ha hr
theorem lY{u:ve St}{n:Int}{x:ve St×Nat}(hx:x∈q0K 0):∃e,x.1=u++⟨s,hd,n,0⟩::e/\x.1.length<=u.length+w.length:=by
 let h:x.1∈(q0K 0).map (·.1):=Yt.mpr ⟨x,hx,rfl⟩;rw[wL]at h;unfold jX at h;let⟨k,hk,e⟩:=Yt.mp h;rw[y1P]at hk;let⟨r,er,_⟩:=tI (u:=u) (s:=s) (hd:=hd) (n:=n) 0 k;rw[Z9]at er;refine⟨r,?_,by rw[<-e,lX];omega⟩;rw[<-e,er]
 change(u++[⟨s,hd,n,0⟩])++r=_
 rw[XU];rfl
theorem HH(u:ve St)(s n:Int)(hd w:Str):SRt (q0K 0):=by
 let h:((q0K 0).map (·.1)).Pairwise (λa c=>bef c a=false):=by
  rw[wL];unfold jX;rw[y07];refine List.pairwise_lt_range.imp λ{i j} i8=>?_;let⟨r,er,hr⟩:=tI (u:=u) (s:=s) (hd:=hd) (n:=n) i (j-i);let e:i+(j-i)=j:=⋯;rw[e]at er;cases r with
  |nil=>have l1:=lX (u:=u) (s:=s) (hd:=hd) (n:=n) i;let l2:=lX (u:=u) (s:=s) (hd:=hd) (n:=n) j;rw[er,YY]at l2;omega
  |cons x r=>rw[er,AI,hr x XY];rfl
 show y07.mp h
theorem Mt(u:ve St)(s n:Int)(hd w:Str):((q0K 0).map (·.1)).Nodup:=by
 rw[wL];unfold jX
 change List.Pairwise _ _
 rw[y07];refine List.pairwise_lt_range.imp λ{i j} i8 e=>?_;let l1:=lX (u:=u) (s:=s) (hd:=hd) (n:=n) i;let l2:=lX (u:=u) (s:=s) (hd:=hd) (n:=n) j;rw[e]at l1;omega
theorem Mu{S:h_ 0}{a:ve St×Nat}(ha:S[j]?=a_ a):lft (S.map (·.1)) (j+1)=a.1:=by
 change(S.map (·.1)).getD j []=_
 rw[X8,XT,ha];rfl
theorem SI.le{S:h_ 0}(I:SI S)(i8:i<=j){a b:ve St×Nat}(ha:S[i]?=a_ a)(hb:S[j]?=a_ b):bef b.1 a.1=false:=by
 rcases Nat.lt_or_eq_of_le i8 with c|c
 ·show wN (I.lt c ha hb)
 ·rw[c,hb]at ha;cases ha
  show uX _
theorem SI.ins{S:h_ 0}(I:SI S)(hi:i<=S.length){n:Int}{us:ve St×Int}(eu:dP (lft (S.map (·.1)) i) ((S.map (·.1))[i]?)=us)(hN:∀x∈cA us.1 us.2 hd n w,x.1.length<=500):SI (S.take i++cA us.1 us.2 hd n w++S.drop i):=by
 let hb:∀r,(S.map (·.1))[i]?=a_ r->bef (lft (S.map (·.1)) i) r=true:=λr hr=>by rw[XT]at hr;let⟨z,hz,rfl⟩:=Yo.mp hr;show I.lb hz
 let HA:∀a∈S.take i,∀x∈cA us.1 us.2 hd n w,bef x.1 a.1=false/\a.1≠x.1:=λa ha x hx=>by
  let⟨k,hk⟩:=y0c.mp ha;rw[List.getElem?_take]at hk;split at hk
  ·rename_i c;cases i with
   |zero=>omega
   |succ j=>have hj:S[j]?=a_ S[j]:=Yd _;let h1:=I.le ⋯ hk hj;let⟨e,ex,_⟩:=lY hx;let h2:=RS hb hd n e;rw[eu,<-ex,Mu hj]at h2;show⟨AJ h1 (wN h2),λz=>by rw[z,h2]at h1;cases h1⟩
  ·cases hk
 let HB:∀b∈S.drop i,∀x∈cA us.1 us.2 hd n w,bef b.1 x.1=false/\x.1≠b.1:=λb hb' x hx=>by
  let⟨k,hk⟩:=y0c.mp hb';rw[y1q]at hk;let g9:=(XN.mp hk).1;let hr:S[i]?=a_ (S[i]'⋯):=Yd _;let h1:=I.le (y0O i k) hr hk;let⟨e,ex,_⟩:=lY hx;let er:(S.map (·.1))[i]?=a_ (S[i]'⋯).1:=by rw[XT,hr];rfl
  let h2:=RT (hb _ er) hd n e;rw[<-er,eu,<-ex]at h2;show⟨AJ (wN h2) h1,λz=>by rw[<-z,h2]at h1;cases h1⟩
 let sp:=I.srt;rw[<-Yh i S]at sp;let⟨s1,s2,s3⟩:=Ya.mp sp;let np:=I.nd;rw[<-Yh i S,YF]at np;let⟨n1,n2,n3⟩:=Zo.mp np;let sub:∀r∈S.take i++cA us.1 us.2 hd n w++S.drop i,r∈S\/r∈cA us.1 us.2 hd n w:=λr hr=>by
  rcases X7.mp hr with hr|hr
  ·rcases X7.mp hr with hr|hr
   ·show .inl (Ym hr)
   ·show .inr hr
  ·show .inl (Yz hr)
 refine⟨?_,?_,λr hr=>?_,λr hr=>(sub r hr).elim (I.hl r) (hN r)⟩
 ·refine Ya.mpr ⟨Ya.mpr ⟨s1,HH _ _ _ _ _,λa ha x hx=>(HA a ha x hx).1⟩,s2,λa ha b hb=>?_⟩;rcases X7.mp ha with ha|ha
  ·show s3 a ha b hb
  ·show(HB b hb a ha).1
 ·rw[YF,YF];refine Zo.mpr ⟨Zo.mpr ⟨n1,Mt _ _ _ _ _,λa ha x hx e=>?_⟩,n2,λa ha b hb e=>?_⟩
  ·let⟨a',ha',rfl⟩:=Yt.mp ha;let⟨x',az,rfl⟩:=Yt.mp hx;show(HA a' ha' x' az).2 e
  ·rcases X7.mp ha with ha|ha
   ·show n3 a ha b hb e
   ·let⟨a',ha',rfl⟩:=Yt.mp ha;let⟨x',az,rfl⟩:=Yt.mp hb;show(HB x' az a' ha').2 e
 ·rcases sub r hr with hr|hr
  ·show I.gd r hr
  ·let⟨e,ex,_⟩:=lY hr;rw[ex];let gu:us.1=[]/\us.2=1\/Gd us.1:=by
    let gl:lft (S.map (·.1)) i=[]\/Gd (lft (S.map (·.1)) i):=by
     cases i with
     |zero=>exact .inl rfl
     |succ j=>have hj:S[j]?=a_ S[j]:=Yd _;rw[Mu hj];show .inr (I.gd _ (Yv hj))
    cases er:(S.map (·.1))[i]? with
    |none=>rw[er]at eu;rw[<-eu];show gl.imp (λz=>⟨z,rfl⟩) id
    |some r'=>
     rw[er]at eu;let gr:Gd r':=by rw[XT]at er;let⟨z,hz,rfl⟩:=Yo.mp er;show I.gd z (Yv hz)
     unfold dP at eu;dsimp only at eu;split at eu
     ·rw[<-eu];show .inr gr
     ·rename_i c;rw[<-eu];rcases gl with z|z
      ·rw[z]at c;show(c rfl).elim
      ·show .inr z
   rcases gu with⟨z1,z2⟩|⟨x,xs,z1,z2⟩
   ·rw[z1];show⟨_,e,rfl,z2⟩
   ·rw[z1];show⟨x,_,rfl,z2⟩
theorem SI.sub{S T:h_ 0}(I:SI S)(s:T.Sublist S):SI T:=⟨List.Pairwise.sublist s I.srt,List.Sublist.nodup (s.map _) I.nd,λr hr=>I.gd r (s.subset hr),λr hr=>I.hl r (s.subset hr)⟩
theorem OX{A B C:h_ 0}(nd:((A++B++C).map (·.1)).Nodup):eQ (A++B++C) (B.map (·.1))=A++C:=by
 rw[YF,YF]at nd;let⟨n1,_,n3⟩:=Zo.mp nd;let⟨_,_,n5⟩:=Zo.mp n1;let e1:eQ A (B.map (·.1))=A:=by unfold eQ;rw[y1g];intro r hr;show decide_eq_true λz=>n5 _ (Yt.mpr ⟨r,hr,rfl⟩) _ z rfl
 let e2:eQ B (B.map (·.1))=[]:=by unfold eQ;rw[List.filter_eq_nil_iff];intro r hr z;show of_decide_eq_true z (Yt.mpr ⟨r,hr,rfl⟩)
 let e3:eQ C (B.map (·.1))=C:=by unfold eQ;rw[y1g];intro r hr;show decide_eq_true λz=>n3 _ (XS _ z) _ (Yt.mpr ⟨r,hr,rfl⟩) rfl
 change(A++B++C).filter _=_
 rw[List.filter_append,List.filter_append]
 change eQ A _++eQ B _++eQ C _=_
 rw[e1,e2,e3,YY]
theorem HI{α:Type}{xs:ve α}(h0:i<=xs.length)(h1:i<=j):oO xs (a_ (i:Int)) (a_ (j:Int))=(xs.drop i).take (j-i):=by
 unfold oO;rw[CG (Int.natCast_nonneg i),CG (Int.natCast_nonneg j),Z4,Z4,Nat.min_eq_left h0,List.take_eq_take_iff,Yi];rcases Nat.le_total j xs.length with h|h
 ·rw[Nat.min_eq_left h]
 ·rw[Nat.min_eq_right h,Nat.min_self,Nat.min_eq_right (Nat.sub_le_sub_right h i)]
abbrev t1:PV:=.tup [.str "t",.int 1]
def Fr(d:Nat)(h h':PH):Prop:=∀i o,i≠d->h[i]?=a_ o->h'[i]?=a_ o
section
variable{t d:Nat}{R:h_ 0}
theorem cI.ne(T:q0y S):(t≠d/\a≠d/\m≠d/\l≠d)/\t≠l/\a≠l/\m≠l/\d≠l:=by
 let⟨o,ho,hd,hi⟩:=zF T.sg.2;let n2:∀j c fs,h[j]?=a_ (.ins c fs)->j≠d:=λj c fs e z=>by
  rw[z,ho]at e;cases e
  cases hi
 let n3:∀j c fs,h[j]?=a_ (.ins c fs)->j≠l:=λj c fs e z=>by rw[z,T.mr.2]at e;cases e
 show⟨⟨n2 _ _ _ T.tx,n2 _ _ _ T.sg.1,n2 _ _ _ T.mr.1,tH T.mr.2 T.sg.2⟩,n3 _ _ _ T.tx,n3 _ _ _ T.sg.1,n3 _ _ _ T.mr.1,ZK (tH T.mr.2 T.sg.2)⟩
theorem cI.new{R':h_ 0}(T:q0y S)(fr:Fr d h h')(g:bJ h' d=a_ (kvR R')):cI h' t a d m l R' S:=by let⟨⟨n1,n2,n3,n4⟩,_⟩:=T.ne;show⟨fr _ _ n1 T.tx,⟨fr _ _ n2 T.sg.1,g⟩,fr _ _ n3 T.mr.1,fr _ _ n4 T.mr.2⟩
theorem wne:¬ ("cut" : Str)="write" /\ ¬ ("mark" : Str)="write" /\ ¬ ("mark" : Str)="cut" := by decide +kernel
def dd(nm:Str×Int)(sn ac:PV):PV:=.tup [pv nm,sn,ac]
theorem dd2(nm:Str×Int)(sn ac:PV)(h:PH):vIx (dd nm sn ac) (.int 2) h=.ok ac h:=by unfold dd;simp
theorem HJ(T:q0y S)(lR:R.length<=900)(nm:Str×Int)(sn:PV){u:ve St}(hu:u.length<=900)(h0:1<=w.length)(h1:w.length<=12)(asc:Asc w)(nd:((R++cA u s nm.1 nm.2 w).map (·.1)).Nodup):∃h',bK [.ref t,dd nm sn (.tup [.str "write",t1,pl u,.int s,.str w])] h=.ok .non h'/\cI h' t a d m l (R++cA u s nm.1 nm.2 w) S/\Fr d h h':=by
 let⟨v,h',e,rfl,fr,g⟩:=iC (Mj T.sg ⋯ u s nm.2 nm.1 w sn hu h0 h1 asc (λv h'=>v=.non/\Fr d h h'/\bJ h' d=a_ (kvR (R++cA u s nm.1 nm.2 w))) λh' fr g=>⟨rfl,fr,by rw[F7 _ _ nd]at g;show g⟩);refine⟨h',?_,T.new fr g,fr⟩;let w:(bK [.ref t,dd nm sn (.tup [.str "write",t1,pl u,.int s,.str w])] h).W λv h2=>v=.non/\h2=h':=by
  refine hW ?_;unfold jM;rw[aQ];simp[dd2];rfl';rw[fG];let me:bM "write" 1 AE (mUn (fH "signs") (mV 0)) (aB (mV 1) aE) [cu t,a_ (dd nm sn (.tup [.str "write",t1,pl u,.int s,.str w])),a_ (.str "write")] h=.ok .non h':=by rw[RP T.sg (f:=eK) (by rfl) rfl (by simp[T.f1])];simp;show e
  simp[me]
 let⟨v,h2,e2,rfl,rfl⟩:=iC w;show e2
theorem OY(T:q0y S)(rk:Rk R)(nm:Str×Int)(sn:PV)(g:ve (ve St)):∃h',bK [.ref t,dd nm sn (.tup [.str "cut",t1,.tup (g.map pl)])] h=.ok .non h'/\cI h' t a d m l (eQ R g) S/\Fr d h h':=by
 let⟨w1,_⟩:=wne;let⟨v,h',e,fr,g'⟩:=iC (RN T.sg rk.len rk.hp rk.nd g (.tup (g.map pl)) (.inl rfl) (λv h'=>Fr d h h'/\bJ h' d=a_ (kvR (eQ R g))) λos h' l fr g _ _ _ _=>⟨fr,g⟩);refine⟨h',?_,T.new fr g',fr⟩;let w:(bK [.ref t,dd nm sn (.tup [.str "cut",t1,.tup (g.map pl)])] h).W λv h2=>v=.non/\h2=h':=by
  refine hW ?_;unfold jM;rw[aQ];simp[dd2];rfl';rw[fG];let me:bM "cut" 1 GA (mUn (fH "signs") (mV 0)) (aB (F_ (F_ (mV 1) (l_ 2)) (l_ 2)) aE) [cu t,a_ (dd nm sn (.tup [.str "cut",t1,.tup (g.map pl)])),a_ (.str "cut")] h=.ok v h':=by rw[RP T.sg (f:=gU) (by rfl) rfl (by simp[T.f1])];simp[dd2];show e
  simp[me,w1]
 let⟨v,h2,e2,rfl,rfl⟩:=iC w;show e2
theorem OZ(T:q0y [])(nm:Str×Int)(sn:PV)(f k:ve St)(w:Str):∃h',bK [.ref t,dd nm sn (.tup [.str "mark",t1,pl f,pl k,.str w])] h=.ok .non h'/\cI h' t a d m l R [⟨nm,f,k,w⟩]/\Fr l h h':=by
 let⟨_,w2,w3⟩:=wne;let⟨_,n1,n2,n3,n4⟩:=T.ne;let⟨v,h',e,rfl,t',fr⟩:=iC (ON (by simp) T.mr nm sn t1 f k w (λm hm=>by cases hm) (λv h'=>v=.non/\fS h' m l [⟨nm,f,k,w⟩]/\Fr l h h') λh' t f=>⟨rfl,t,f⟩);refine⟨h',?_,⟨fr _ _ n1 T.tx,⟨fr _ _ n2 T.sg.1,?_⟩,t'⟩,fr⟩
 ·let w:(bK [.ref t,dd nm sn (.tup [.str "mark",t1,pl f,pl k,.str w])] h).W λv h2=>v=.non/\h2=h':=by
   refine hW ?_;unfold jM;rw[aQ];simp[dd2];rfl';rw[fG];let me:bM "mark" 1 CT (mUn (fH "marks") (mV 0)) (aB (mV 1) aE) [cu t,a_ (dd nm sn (.tup [.str "mark",t1,pl f,pl k,.str w])),a_ (.str "mark")] h=.ok .non h':=by rw[M4 T.mr (f:=fP) (by rfl) nofun (by simp[T.f2])];simp;show e
   simp[me,w2,w3]
  let⟨v,h2,e2,rfl,rfl⟩:=iC w;show e2
 ·let⟨o,ho,_,hh⟩:=cE T.sg.2;show hh _ (fr _ _ n4 ho)
end
def sd(M:Mrk)(p:ve St):Int:=if inB p (M.f,M.l)=true then 0 else if bef p M.f=true then -1 else 1
variable{M:Mrk}
theorem HK{p q:ve St}(h:bef q p=false):sd M p<=sd M q:=by
 let t1:bef q M.f=true->bef p M.f=true:=λe=>by
  cases c:bef p M.f with
  |true=>rfl
  |false=>rw[AJ c h]at e;cases e
 let t2:bef M.l q=false->bef M.l p=false:=λe=>AJ h e;unfold sd inB;cases c1:bef p M.f <;> cases c2:bef q M.f <;> cases c3:bef M.l p <;> cases c4:bef M.l q <;> simp_all
theorem PU(M:Mrk)(p:ve St):-1<=sd M p/\sd M p<=1:=by
 unfold sd;split
 ·omega
 ·split <;> omega
theorem RW{p:ve St}(h:bef p M.f=true):sd M p=-1:=by simp[sd,inB,h]
theorem U7(fl:bef M.l M.f=false){p:ve St}(h:bef M.l p=true):sd M p=1:=by have:bef p M.f=false:=AJ fl (wN h);simp[sd,inB,h,this]
theorem P0(M:Mrk)(r:ve St×Nat):wds [M] r=if inB r.1 (M.f,M.l)=true then[.str M.w] else[]:=by
 unfold wds yS;cases c:inB r.1 (M.f,M.l) with
 |true=>simp[List.filter,c]
 |false=>simp[List.filter,c]
theorem P3{z:(ve St×Nat)×Nat}{v:PV}(hv:v=.non\/v=.int (V_ 0))(lz:z.1.1.length<=1000)(lf:M.f.length<=1000)(g:h[z.2]?=a_ (.lst (wds [M] z.1)))(Q:PV->PH->Prop)(k:∀h',q0x 0->Q (.int (V_ 0)) h'):(pA [rF tF z,v,.str M.w,pl M.f] h).W Q:=by
 refine hW ?_;unfold GC rF tF;rw[aQ];simp;rfl';rw[aQ,fG];let fin:∀h',q0x 0->((aO (cZ (nO (bP (aD Ae (mV 1) (mC .non))) (bP (aD vNe (mV 1) (mV 7)))) (bY (mC .non)) fE) (bY (mV 7))) [a_ (.tup [pl z.1.1,.str ⟨#[z.1.2]⟩,.ref z.2]),a_ v,a_ (.str M.w),a_ (pl M.f),a_ (pl z.1.1),a_ (.str ⟨#[z.1.2]⟩),cu z.2,cx (V_ 0)] h').W { nx:=λ_ h=>Q .non h,rt:=Q}:=λh' x=>by
  rw[aQ,fG];rcases hv with rfl|rfl
  ·simp;rfl';simp;show k h' x
  ·have:mR (.int (V_ 0))=false:=rfl;simp[this];rfl';simp;show k h' x
 let x1:Ext h (h++[.lst [.str M.w]]):=O_ _;let g1:(h++[MO.lst [.str M.w]])[h.length]?=a_ (.lst [.str M.w]):=aM;rw[P0]at g;cases c:inB z.1.1 (M.f,M.l) with
 |true=>
  rw[c,q0s 0]at g;let e1:vEq (.ref z.2) (.ref h.length) (h++[MO.lst [.str M.w]])=.ok (.bl true) (h++[MO.lst [.str M.w]]):=by rw[zB (x1 _ _ g) g1 rfl rfl,decide_eq_true rfl]
  let s0:V_ 0=0:=by simp[sd,c]
  rw[s0]at fin;simp[e1];show now (fin _ x1)
 |false=>
  rw[c,if_neg (by simp)]at g;let e1:vEq (.ref z.2) (.ref h.length) (h++[MO.lst [.str M.w]])=.ok (.bl false) (h++[MO.lst [.str M.w]]):=by rw[zB (x1 _ _ g) g1 rfl rfl,decide_eq_false (by simp)]
  let x2:Ext h (h++[.lst [.str M.w],.lst []]):=O_ _;let e2:vEq (.ref z.2) (.ref (h.length+1)) (h++[.lst [.str M.w],.lst []])=.ok (.bl true) (h++[.lst [.str M.w],.lst []]):=by rw[zB (ys:=[]) (x2 _ _ g) (by simp) rfl rfl,decide_eq_true rfl]
  cases c2:bef z.1.1 M.f with
  |true=>have s0:V_ 0=-1:=RW c2;rw[s0]at fin;simp[e1,e2,wO _ _ _ lz lf,c2];show now (fin _ x2)
  |false=>
   let s0:V_ 0=1:=by simp[sd,c,c2]
   rw[s0]at fin;let x3:Ext h (h++[.lst [.str M.w],.lst [],.lst []]):=O_ _;let e3:vEq (.ref z.2) (.ref (h.length+2)) (h++[.lst [.str M.w],.lst [],.lst []])=.ok (.bl true) (h++[.lst [.str M.w],.lst [],.lst []]):=by rw[zB (ys:=[]) (x3 _ _ g) (by simp) rfl rfl,decide_eq_true rfl]
   simp[e1,e2,wO _ _ _ lz lf,c2,e3];show now (fin _ x3)
theorem G8:∀a:Fin 7,∀b:Fin 3,(1<=(y1S "abCD 9~!z" (a_ ((a.val:Nat):Int)) (a_ ((a.val:Int)+1+(b.val:Int)))).length/\(y1S "abCD 9~!z" (a_ ((a.val:Nat):Int)) (a_ ((a.val:Int)+1+(b.val:Int)))).length<=3)/\(y1S "abCD 9~!z" (a_ ((a.val:Nat):Int)) (a_ ((a.val:Int)+1+(b.val:Int)))).cps.toList.all (λc=>decide (c<128))=true:=by decide +kernel
theorem Mv(h:w.cps.toList.all (λc=>decide (c<128))=true):Asc w:=λc hc=>of_decide_eq_true (Yy.mp h c hc)
theorem U8(n:Int):∃w:Str,y1S "abCD 9~!z" (a_ (n%7)) (a_ (n%7+1+n/7%3))=w/\1<=w.length/\w.length<=3/\Asc w:=by
 let a0:=y0J n (b:=7) ⋯;let a1:=y0k n (b:=7) ⋯;let b0:=y0J (n/7) (b:=3) ⋯;let b1:=y0k (n/7) (b:=3) ⋯;generalize n%7=a at a0 a1;generalize n/7%3=b at b0 b1;let⟨⟨h1,h2⟩,h3⟩:=G8 ⟨a.toNat,⋯⟩ ⟨b.toNat,⋯⟩;let ea:((a.toNat:Nat):Int)=a:=⋯;let eb:((b.toNat:Nat):Int)=b:=⋯;simp only[ea,eb]at h1 h2 h3;show⟨_,rfl,h1,h2,Mv h3⟩
theorem rF0(z:(ve St×Nat)×Nat)(h:PH):vIx (rF tF z) (.int 0) h=.ok (pl z.1.1) h:=by unfold rF tF;simp
variable{x0 x1:v_ PV}
section
variable{zs:ve ((ve St×Nat)×Nat)}{l5:Nat}
theorem mY(g:h[l5]?=a_ (.lst (zs.map (rF tF)))){z:(ve St×Nat)×Nat}(hz:zs[i]?=a_ z):vIx (.ref l5) (.int (i:Int)) h=.ok (rF tF z) h:=by
 rw[mJ g,show atI (zs.map (rF tF)) (i:Int)=a_ (rF tF z) from vW (by rw[XT,hz];rfl)]
 rfl
noncomputable def wT:Ms:=aO (yP (bS 2 C5 (aB (mV 3) (aB (mV 4) aE))) (gTp 2 (gCn (gN 5) (gCn (gN 6) gNl))))
 (aO (aZ 7 (mSl (mC (.str "abCD 9~!z")) (mP (aD kX (mV 2) (l_ 7))) (mP (q0F (q0F (aD kX (mV 2) (l_ 7)) (l_ 1)) (aD kX (aD A8 (mV 2) (l_ 7)) (l_ 3))))))
 (bY (cO (aB (mC (.str "write")) (aB (cO (aB (mC (.str "t")) (aB (l_ 1) aE))) (aB (mV 5) (aB (mV 6) (aB (mV 7) aE))))))))
noncomputable def wS:Ms:=aO (cZ (bP (aD mK (mV 1) (q1h (aB (mV 0) aE)))) (aZ 4 (F_ (F_ (mV 0) (mV 1)) (l_ 0))) fE) wT
theorem PY{n:Int}{L:ve St}{ro:v_ (ve St)}(hl:L.length<=1000)(hr:∀r,ro=a_ r->r.length<=1000/\bef L r=true)(k:∀w:Str,1<=w.length->w.length<=3->Asc w->E.rt (.tup [.str "write",t1,pl (dP L ro).1,.int (dP L ro).2,.str w]) h):(wT [x0,x1,cx n,a_ (pl L),a_ ((ro.map pl).getD .non),b_,b_,b_] h).W E:=by
 let⟨w,e,h1,h2,h3⟩:=U8 n;let hS:("abCD 9~!z" : Str).length<=16777216:=by decide +kernel
 unfold wT;rw[aQ];simp[RU L ro h hl hr];rfl';rw[aQ];simp(disch:=omega) [e,hS];rfl';simp;show k w h1 h2 h3
theorem PZ{z:(ve St×Nat)×Nat}(hz:zs[j]?=a_ z):lft ((zs.map (·.1)).map (·.1)) (j+1)=z.1.1:=by
 change((zs.map (·.1)).map (·.1)).getD j []=_
 rw[X8,XT,XT,hz];rfl
theorem VE:((zs.map (·.1)).map (·.1))[i]?=zs[i]?.map λz=>z.1.1:=by rw[XT,XT,Option.map_map];rfl
theorem Q1{n:Int}{L:ve St}(g:h[l5]?=a_ (.lst (zs.map (rF tF))))(hl:L.length<=1000)(hi:i<=zs.length)(hr:∀r,((zs.map (·.1)).map (·.1))[i]?=a_ r->r.length<=1000/\bef L r=true)(k:∀w:Str,1<=w.length->w.length<=3->Asc w->E.rt (.tup [.str "write",t1,pl (dP L ((zs.map (·.1)).map (·.1))[i]?).1,.int (dP L ((zs.map (·.1)).map (·.1))[i]?).2,.str w]) h):(wS [cu l5,cx (i:Int),cx n,a_ (pl L),a_ .non,b_,b_,b_] h).W E:=by
 unfold wS;rw[aQ,fG];rw[VE]at hr k;let ln:=iD g;rw[XR]at ln;cases e:zs[i]? with
 |none=>
  rw[e]at hr k;let c:¬ (i<zs.length):=by rw[Y6]at e;omega
  simp[ln,c];show now (PY (ro:=b_) hl hr k)
 |some z=>rw[e]at hr k;let c:i<zs.length:=(XN.mp e).1;simp[ln,c,mY g e,rF0];show now (PY (ro:=a_ z.1.1) hl hr k)
theorem GE{n:Int}(g:h[l5]?=a_ (.lst (zs.map (rF tF))))(hi:i<=zs.length)(I:SI (zs.map (·.1)))(Q:PV->PH->Prop)(k:∀w:Str,1<=w.length->w.length<=3->Asc w->Q (.tup [.str "write",t1,pl (dP (lft ((zs.map (·.1)).map (·.1)) i) ((zs.map (·.1)).map (·.1))[i]?).1,.int (dP (lft ((zs.map (·.1)).map (·.1)) i) ((zs.map (·.1)).map (·.1))[i]?).2,.str w]) h):(uV [.ref l5,.int (i:Int),.int n] h).W Q:=by
 let hr:∀r,((zs.map (·.1)).map (·.1))[i]?=a_ r->r.length<=1000/\bef (lft ((zs.map (·.1)).map (·.1)) i) r=true:=λr hr=>by rw[XT]at hr;let⟨y,hy,rfl⟩:=Yo.mp hr;show⟨by have:=I.hl y (Yv hy);omega,I.lb hy⟩
 refine hW ?_;rw[show CY=aO (aZ 3 (cO aE)) (aO (aZ 4 (mC .non)) (aO (cZ (bP (aD vGt (mV 1) (l_ 0))) (aZ 3 (F_ (F_ (mV 0) (aD kG (mV 1) (l_ 1))) (l_ 0))) fE) wS)) from rfl,aQ]
 simp;rfl';rw[aQ];simp;rfl';rw[aQ,fG];cases i with
 |zero=>simp;show now (Q1 (i:=0) (L:=[]) g (by simp) hi hr k)
 |succ j=>
  obtain⟨z,hz⟩:∃z,zs[j]?=a_ z:=⟨_,Yd ⋯⟩;let e1:((j:Int)+1-1)=(j:Int):=⋯;let c:(0:Int)<(j:Int)+1:=⋯;let l1:=PZ hz;rw[l1]at hr k;simp[c,e1,mY g hz,rF0];have:=Q1 (i:=j+1) (n:=n) (L:=z.1.1) (E:={ nx:=λ_ h=>Q .non h,rt:=Q}) g (by have:=I.hl z.1 (Yt.mpr ⟨z,Yv hz,rfl⟩);omega) hi hr k;show now this
end
def Bet(zs:ve ((ve St×Nat)×Nat))(i:Nat)(p:ve St):Prop:=(∀j z,i=j+1->zs[j]?=a_ z->bef z.1.1 p=true)/\∀z,zs[i]?=a_ z->bef p z.1.1=true
noncomputable def dT:Ms:=aO (cZ (nO (bP (aD vGt (mV 1) (l_ 0))) (bP (aD vEq (F_ (F_ (mV 2) (aD kG (mV 1) (l_ 1))) (l_ 0)) (F_ (mV 3) (l_ 1))))) (bY (l_ 1)) fE)
 (aO (cZ (nO (bP (aD mK (mV 1) (q1h (aB (mV 2) aE)))) (bP (aD vEq (F_ (F_ (mV 2) (mV 1)) (l_ 0)) (F_ (mV 3) (l_ 0))))) (bY (mUn wA (l_ 1))) fE)
 (aO (cZ (bP (aD vEq (mV 4) (mV 5))) (bY (mV 5)) fE) (bY (mC .non))))
noncomputable def dS:Ms:=aO (cZ (bP (aD mK (mV 1) (q1h (aB (mV 2) aE)))) (aZ 5 (F_ (mV 0) (mV 1))) fE) dT
variable{A:Int}
section
variable{zs:ve ((ve St×Nat)×Nat)}{l5 l10:Nat}
theorem Da(a b:ve St)(h:PH):vEq (pl a) (pl b) h=.ok (.bl (decide (a=b))) h:=by
 rw[CD (C6 _) (C6 _)];congr 2;rw[decide_eq_decide];show⟨λz=>tG z,λz=>by rw[z]⟩
theorem Q2{B:Int}(g:h[l5]?=a_ (.lst (zs.map (rF tF))))(hi:i<=zs.length)(fl:bef M.l M.f=false)(hA:∀p,Bet zs i p->A<=sd M p)(hB:∀p,Bet zs i p->sd M p<=B)(k:∀v,(∀p,Bet zs i p->v=.non\/v=.int (sd M p))->E.rt v h):(dT [x0,cx (i:Int),cu l5,a_ (.tup [pl M.f,pl M.l,.str M.w]),cx A,cx B] h).W E:=by
 let ln:=iD g;rw[XR]at ln;let T3:((aO (cZ (bP (aD vEq (mV 4) (mV 5))) (bY (mV 5)) fE) (bY (mC .non))) [x0,cx (i:Int),cu l5,a_ (.tup [pl M.f,pl M.l,.str M.w]),cx A,cx B] h).W E:=by
  rw[aQ,fG];by_cases c:A=B
  ·simp[c];refine k _ λp hp=>.inr ?_;have:=hA p hp;have:=hB p hp
   congr 1;omega
  ·simp[c];rfl';simp;show k _ λp hp=>.inl rfl
 let T2:((aO (cZ (nO (bP (aD mK (mV 1) (q1h (aB (mV 2) aE)))) (bP (aD vEq (F_ (F_ (mV 2) (mV 1)) (l_ 0)) (F_ (mV 3) (l_ 0))))) (bY (mUn wA (l_ 1))) fE) (aO (cZ (bP (aD vEq (mV 4) (mV 5))) (bY (mV 5)) fE) (bY (mC .non)))) [x0,cx (i:Int),cu l5,a_ (.tup [pl M.f,pl M.l,.str M.w]),cx A,cx B] h).W E:=by
  rw[aQ,fG];cases e:zs[i]? with
  |none=>
   let c:¬ (i<zs.length):=by rw[Y6]at e;omega
   simp[ln,c];show now T3
  |some z=>
   let c:i<zs.length:=(XN.mp e).1;by_cases c2:z.1.1=M.f
   ·simp[ln,c,mY g e,rF0,Da,c2];show k _ λp hp=>.inr (by rw[RW (by rw[<-c2];show hp.2 z e)])
   ·simp[ln,c,mY g e,rF0,Da,c2];show now T3
 unfold dT;rw[aQ,fG];cases i with
 |zero=>simp;show now T2
 |succ j=>
  obtain⟨z,hz⟩:∃z,zs[j]?=a_ z:=⟨_,Yd ⋯⟩;let e1:((j:Int)+1-1)=(j:Int):=⋯;let c:(0:Int)<(j:Int)+1:=⋯;by_cases c2:z.1.1=M.l
  ·simp[c,e1,mY g hz,rF0,Da,c2];show k _ λp hp=>.inr (by rw[U7 fl (by rw[<-c2];show hp.1 j z rfl hz)])
  ·simp[c,e1,mY g hz,rF0,Da,c2];show now T2
theorem HM(g:h[l10]?=a_ (.lst (zs.map λz=>.int (V_ 0)))){z:(ve St×Nat)×Nat}(hz:zs[i]?=a_ z):vIx (.ref l10) (.int (i:Int)) h=.ok (.int (V_ 0)) h:=by
 rw[mJ g,show atI (zs.map λz=>PV.int (V_ 0)) (i:Int)=cx (V_ 0) from vW (by rw[XT,hz];rfl)]
 rfl
theorem Q3(g:h[l5]?=a_ (.lst (zs.map (rF tF))))(cp:h[l10]?=a_ (.lst (zs.map λz=>.int (V_ 0))))(hi:i<=zs.length)(fl:bef M.l M.f=false)(hA:∀p,Bet zs i p->A<=sd M p)(k:∀v,(∀p,Bet zs i p->v=.non\/v=.int (sd M p))->E.rt v h):(dS [cu l10,cx (i:Int),cu l5,a_ (.tup [pl M.f,pl M.l,.str M.w]),cx A,cx 1] h).W E:=by
 let ln:=iD g;rw[XR]at ln;unfold dS;rw[aQ,fG];cases e:zs[i]? with
 |none=>
  let c:¬ (i<zs.length):=by rw[Y6]at e;omega
  simp[ln,c];show now (Q2 g hi fl hA (λp _=>(PU M p).2) k)
 |some z=>have c:i<zs.length:=(XN.mp e).1;simp[ln,c,HM cp e];show now (Q2 g hi fl hA (λp hp=>HK (wN (hp.2 z e))) k)
theorem RX(g:h[l5]?=a_ (.lst (zs.map (rF tF))))(cp:h[l10]?=a_ (.lst (zs.map λz=>.int (V_ 0))))(hi:i<=zs.length)(fl:bef M.l M.f=false)(Q:PV->PH->Prop)(k:∀v,(∀p,Bet zs i p->v=.non\/v=.int (sd M p))->Q v h):(Hv [.ref l10,.int (i:Int),.ref l5,.tup [pl M.f,pl M.l,.str M.w]] h).W Q:=by
 refine hW ?_;rw[show LL=aO (aZ 4 (mUn wA (l_ 1))) (aO (aZ 5 (l_ 1)) (aO (cZ (bP (aD vGt (mV 1) (l_ 0))) (aZ 4 (F_ (mV 0) (aD kG (mV 1) (l_ 1)))) fE) dS)) from rfl,aQ]
 simp;rfl';rw[aQ];simp;rfl';rw[aQ,fG];cases i with
 |zero=>simp;show now (Q3 (i:=0) g cp hi fl (λp _=>(PU M p).1) k)
 |succ j=>
  obtain⟨z,hz⟩:∃z,zs[j]?=a_ z:=⟨_,Yd ⋯⟩;let e1:((j:Int)+1-1)=(j:Int):=⋯;let c:(0:Int)<(j:Int)+1:=⋯;simp[c,e1,HM cp hz];have:=Q3 (i:=j+1) (A:=V_ 0) (E:={ nx:=λ_ h=>Q .non h,rt:=Q}) g cp hi fl (λp hp=>HK (wN (hp.1 j z rfl hz))) k;show now this
end
theorem P4(P:Nat->PV->Prop)(e:mi δ h=.ok ⟨xs,g⟩ h1)(hg:∀h,Ext h1 h->g h=true)(hz:xs.length<=16777216)(step:∀i x,xs[i]?=a_ x->∃δ1,tg x (jU js δ)=a_ δ1/\∀h,Ext h1 h->∀Q:PV->PH->Prop,(∀v h',q0x 0->P i v->Q v h')->(elt δ1 h).W Q)(k:∀l h'(vs:ve PV),Ext h1 h'->h1.length<=l->vs.length=xs.length->h'[l]?=a_ (.lst vs)->(∀i v,vs[i]?=a_ v->P i v)->Q (.ref l) h'):(cS js mi tg iU elt δ h).W Q:=by
 unfold cS;rw[e,Rs.bind_ok];refine zC (λi h'=>Ext h1 h'/\∃vs:ve PV,vs.length=i/\h'[h1.length]?=a_ (.lst vs)/\∀i v,vs[i]?=a_ v->P i v) xs 0 _ ⟨O_ _,[],rfl,by simp,λi v hv=>by simp at hv⟩ (λi x h' _ hx hi=>?_) (λh' hi=>?_)
 ·let⟨x1,vs,lv,g1,ov⟩:=hi;let hx:xs[i]?=a_ x:=by simpa using hx
  let mw:=(XN.mp hx).1;let⟨δ1,ht,hs⟩:=step i x hx;refine⟨hg _ x1,δ1,ht,?_⟩;let hY:iU δ1 h'=.ok true h':=rfl;rw[hY,jV,q0s 0];refine hs h' x1 _ λv h2 x2 pv=>?_;refine⟨_,x2 _ _ g1,⋯,(x1.trans x2).setN (X1 _),vs++[v],by simp[lv],lL (x2 _ _ g1),λj w hw=>?_⟩;rcases Nat.lt_trichotomy j vs.length with z|z|z
  ·rw[Yb z]at hw;show ov j w hw
  ·rw[z,XX (X1 _),y15]at hw;cases hw
   rw[z,lv];show pv
  ·rw[XX ⋯]at hw;have:=(XN.mp hw).1;simp at this;omega
 ·let⟨x1,vs,lv,g1,ov⟩:=hi;rw[Z9]at lv;show⟨hg _ x1,k _ _ vs x1 (X1 _) lv g1 ov⟩
variable{me:Me}{hA:PH}{m2:Me}{n1:Nat}
section
variable{n7 l5 l10 mm:Nat}{zs us:ve ((ve St×Nat)×Nat)}
abbrev zr(zs:ve ((ve St×Nat)×Nat)):MO:=.lst (zs.map (rF tF))
theorem slA(da:q0T a=cu n7)(db:q0T b=cx (i:Int))(g:h[n7]?=a_ (.lst xs))(hi:i<=xs.length):mSl (mV a) fD (mP (mV b)) δ h=.ok (.ref h.length) (h++[.lst (xs.take i)]):=by simp[da,db,uM g];rw[LX hi]
theorem slC(da:q0T a=cu n7)(db:me δ h=.ok (.int (i:Int)) h)(g:h[n7]?=a_ (.lst xs))(hi:i<=xs.length):mSl (mV a) (mP me) fD δ h=.ok (.ref h.length) (h++[.lst (xs.drop i)]):=by simp[da,db,uM g];rw[LY hi]
theorem slB(d4:q0T 4=cx (i:Int))(d7:q0T 7=cu n7)(d8:q0T 8=cx (mm:Int))(g:h[n7]?=a_ (zr zs))(hi:i<=zs.length):mSl (mV 7) (mP (mV 4)) (mP (q0F (mV 4) (mV 8))) δ h=.ok (.ref h.length) (h++[zr ((zs.drop i).take mm)]):=by simp[d7,d4,d8,uM g];rw[show((i:Int)+(mm:Int))=((i+mm:Nat):Int) by simp,HI (by rw[XR];show hi) ⋯,Zk]
theorem Mx{m1:Me}{hB:PH}(e1:m1 δ h=.ok (.ref a) hA)(gA:hA[a]?=a_ (zr zs))(e2:m2 δ hA=.ok (.ref b) hB)(gB:hB[b]?=a_ (zr us))(x2:Ext hA hB)(e:zs.map (·.1)=us.map (·.1))(oz:∀z∈zs,hA[z.2]?=a_ (.lst (wds [M] z.1)))(ou:∀z∈us,hA[z.2]?=a_ (.lst (wds [M] z.1))):aD sT m1 m2 δ h=.ok (.bl false) hB:=by rw[fN,e1,Rs.bind_ok,e2,Rs.bind_ok];show Mr (Mq (F:=tF) (G:=wds [M]) U6 (RR [M]) e (λz hz=>x2 _ _ (oz z hz)) (λz hz=>x2 _ _ (ou z hz)) (x2 _ _ gA) gB 1)
theorem RY(d1:q0T 1=cu l5)(d4:q0T 4=cx (i:Int))(d7:q0T 7=cu n7)(d8:q0T 8=cx (mm:Int))(g7:h[n7]?=a_ (zr us))(g5:h[l5]?=a_ (zr zs))(hi:i<=zs.length)(hl:us.length=zs.length+mm)(eA:(us.take i).map (·.1)=(zs.take i).map (·.1))(eC:(us.drop (i+mm)).map (·.1)=(zs.drop i).map (·.1))(oz:∀z∈zs,h[z.2]?=a_ (.lst (wds [M] z.1)))(ou:∀z∈us,h[z.2]?=a_ (.lst (wds [M] z.1))):
  ∃h',q0x 0/\CA (bP (aD vNe (q1h (aB (mV 7) aE)) (q0F (q1h (aB (mV 1) aE)) (mV 8)))) (CA (bP (aD sT (mSl (mV 7) fD (mP (mV 4))) (mSl (mV 1) fD (mP (mV 4))))) (bP (aD sT (mSl (mV 7) (mP (q0F (mV 4) (mV 8))) fD) (mSl (mV 1) (mP (mV 4)) fD)))) δ h=.ok false h':=by
 let l7:=iD g7;let gj:=iD g5;rw[XR]at l7 gj;let x1:=Ext.app h [zr (us.take i)];let e1:=slA d7 d4 g7 (by rw[XR];omega);rw[<-Z5]at e1;let s1:(h++[zr (us.take i)])[h.length]?=a_ (zr (us.take i)):=aM;generalize h++[zr (us.take i)]=h1 at x1 e1 s1;let x2:=Ext.app h1 [zr (zs.take i)];let e2:=slA d1 d4 (x1 _ _ g5) (by rw[XR];show hi);rw[<-Z5]at e2;let s2:(h1++[zr (zs.take i)])[h1.length]?=a_ (zr (zs.take i)):=aM;generalize h1++[zr (zs.take i)]=h2 at x2 e2 s2;let q1:=Mx e1 s1 e2 s2 x2 eA (λz hz=>x1 _ _ (ou z (Ym hz))) (λz hz=>x1 _ _ (oz z (Ym hz)));let dn:=x1.trans x2;let x3:=Ext.app h2 [zr (us.drop (i+mm))];let e3:=slC (me:=q0F (mV 4) (mV 8)) (i:=i+mm) d7 (by simp[d4,d8]) (dn _ _ g7) (by rw[XR];omega);rw[<-y0s]at e3;let s3:(h2++[zr (us.drop (i+mm))])[h2.length]?=a_ (zr (us.drop (i+mm))):=aM;generalize h2++[zr (us.drop (i+mm))]=h3 at x3 e3 s3;let x4:=Ext.app h3 [zr (zs.drop i)];let e4:=slC (me:=mV 4) (i:=i) d1 (by simp[d4]) (x3 _ _ (dn _ _ g5)) (by rw[XR];show hi);rw[<-y0s]at e4;let s4:(h3++[zr (zs.drop i)])[h3.length]?=a_ (zr (zs.drop i)):=aM;generalize h3++[zr (zs.drop i)]=h4 at x4 e4 s4;let q2:=Mx e3 s3 e4 s4 x4 eC (λz hz=>x3 _ _ (dn _ _ (ou z (Yz hz)))) (λz hz=>x3 _ _ (dn _ _ (oz z (Yz hz))));refine⟨h4,dn.trans (x3.trans x4),?_⟩;let bj:((us.length:Nat):Int)=(zs.length:Int)+(mm:Int):=⋯;let q0:aD vNe (q1h (aB (mV 7) aE)) (q0F (q1h (aB (mV 1) aE)) (mV 8)) δ h=.ok (.bl false) h:=by simp[d1,d7,d8,l7,gj,bj]
 let tf:∀h,tru (.bl false) h=.ok false h:=λh=>rfl;simp only[Oa,uH,q0,q1,q2,Rs.bind_ok,tf,YG,if_false]
theorem RZ(g:h[n]?=a_ (.lst (w.cps.toList.map λc=>.str ⟨#[c]⟩)))(h1:1<=w.length)(h2:w.length<=3):yB (.str "") [.ref n] h=.ok (.str w) h:=by
 let⟨⟨cs⟩⟩:=w;let h1:1<=cs.length:=h1;let h2:cs.length<=3:=h2;let el:dU h n=a_ (cs.map λc=>.str ⟨#[c]⟩):=by simp[dU,g]
 unfold yB
 match cs,h1,h2,el with
 |[a],_,_,el=>simp only[el,YA,y1b,yA];show if_pos ⟨by rw[YL];show(by decide:1<=16777216),by rw[YL];show(by decide:1<=16777216)⟩
 |[a,b],_,_,el=>simp only[el,YA,y1b,yA];show if_pos ⟨by rw[YL];show(by decide:2<=16777216),by rw[YL];show(by decide:2<=16777216)⟩
 |[a,b,c],_,_,el=>simp only[el,YA,y1b,yA];show if_pos ⟨by rw[YL];show(by decide:3<=16777216),by rw[YL];show(by decide:3<=16777216)⟩
 |_::_::_::_::_,_,h2,_=>simp at h2
theorem P5(d4:q0T 4=cx (i:Int))(d7:q0T 7=cu n7)(d8:q0T 8=cx (mm:Int))(g7:h[n7]?=a_ (zr us))(hi:i<=us.length)(lu:us.length<=1000)(eB:((us.drop i).take mm).map (λz=>z.1.2)=w.cps.toList)(h1:1<=w.length)(h2:w.length<=3):
  ∃h',q0x 0/\mMt Lq yB (mC (.str "")) (aB (cS [b_] (bZ (mSl (mV 7) (mP (mV 4)) (mP (q0F (mV 4) (mV 8))))) (gN 0) iU (F_ (mV 0) (l_ 1))) aE) δ h=.ok (.str w) h':=by
 let x1:=Ext.app h [zr ((us.drop i).take mm)];let e1:=slB d4 d7 d8 g7 hi;let s1:(h++[zr ((us.drop i).take mm)])[h.length]?=a_ (zr ((us.drop i).take mm)):=aM;generalize h++[zr ((us.drop i).take mm)]=hA at x1 e1 s1;let hc:=nP (js:=[b_]) (tg:=gN 0) (tst:=iU) (elt:=F_ (mV 0) (l_ 1)) (δ:=δ) (ys:=(us.drop i).take mm) (emb:=rF tF) (λz=>a_ (.str ⟨#[z.1.2]⟩)) e1 s1 (by rw[X9,Yi];omega) (λz hz=>⟨[a_ (rF tF z)],by simp[jU],λh' x'=>⟨rfl,by unfold rF tF;simp⟩⟩);rw[filterMap_some,show((us.drop i).take mm).map (λz=>PV.str ⟨#[z.1.2]⟩)=(((us.drop i).take mm).map λz=>z.1.2).map λc=>PV.str ⟨#[c]⟩ by rw[Y2];rfl,eB]at hc;let s2:(hA++[MO.lst (w.cps.toList.map λc=>.str ⟨#[c]⟩)])[hA.length]?=a_ (.lst (w.cps.toList.map λc=>.str ⟨#[c]⟩)):=aM;let j:=RZ s2 h1 h2;show⟨_,x1.trans (Ext.app hA [MO.lst (w.cps.toList.map λc=>.str ⟨#[c]⟩)]),by simp[hc,j,Lq]⟩
theorem My{v:PV}{B:ve ((ve St×Nat)×Nat)}(lf:M.f.length<=1000)(e1:me δ h=.ok (.ref n1) hA)(x1:Ext h hA)(s1:hA[n1]?=a_ (zr B))(lB:B.length<=1000)(ou:∀z∈B,z.1.1.length<=1000/\h[z.2]?=a_ (.lst (wds [M] z.1)))(hv:∀z∈B,v=.non\/v=.int (V_ 0))(ht:∀z,∃δ1,gN 0 (rF tF z) (jU js δ)=a_ δ1/\∀h2,elt δ1 h2=pA [rF tF z,v,.str M.w,pl M.f] h2):
  ∃h' n,q0x 0/\h'[n]?=a_ (.lst (B.map λz=>.int (V_ 0)))/\cS js (bZ me) (gN 0) iU elt δ h=.ok (.ref n) h':=by
 let w:(cS js (bZ me) (gN 0) iU elt δ h).W λp h'=>∃n,p=.ref n/\q0x 0/\h'[n]?=a_ (.lst (B.map λz=>.int (V_ 0))):=by
  refine P4 (λj v=>∃z,B[j]?=a_ z/\v=.int (V_ 0)) (Aj e1 s1) (uN s1) (by rw[XR];omega) (λj x hx=>?_) (λl h' vs x b lv g ov=>⟨l,rfl,x1.trans x,?_⟩)
  ·rw[XT]at hx;let⟨z,hz,rfl⟩:=Yo.mp hx;let yg:=Yv hz;let⟨lz,oz⟩:=ou z yg;let⟨δ1,e,q⟩:=ht z;refine⟨δ1,e,λh2 x2 Q k=>?_⟩;rw[q];show P3 (hv z yg) lz lf (x2 _ _ (x1 _ _ oz)) _ λh3 x3=>k _ _ x3 ⟨z,hz,rfl⟩
  ·rw[g];congr 2;rw[XR]at lv;refine Zi λj=>?_;rw[XT];cases c:vs[j]? with
   |none=>rw[Y6,lv,<-Y6]at c;rw[c];rfl
   |some v=>let⟨z,hz,rfl⟩:=ov j v c;rw[hz];rfl
 let⟨p,h',e,n,rfl,x,g⟩:=iC w;show⟨h',n,x,g,e⟩
theorem Mz{v:PV}(lf:M.f.length<=1000)(d4:q0T 4=cx (i:Int))(d5:q0T 5=a_ (.tup [pl M.f,pl M.l,.str M.w]))(d6:q0T 6=a_ v)(d7:q0T 7=cu n7)(d8:q0T 8=cx (mm:Int))(g7:h[n7]?=a_ (zr us))(hi:i<=us.length)(lu:us.length<=1000)(ou:∀z∈us,z.1.1.length<=1000/\h[z.2]?=a_ (.lst (wds [M] z.1)))(hv:∀z∈(us.drop i).take mm,v=.non\/v=.int (V_ 0)):
  ∃h' n,q0x 0/\h'[n]?=a_ (.lst (((us.drop i).take mm).map λz=>.int (V_ 0)))/\cS [b_,a_ 6,a_ 5] (bZ (mSl (mV 7) (mP (mV 4)) (mP (q0F (mV 4) (mV 8))))) (gN 0) iU (bS 4 pA (aB (mV 0) (aB (mV 1) (aB (F_ (mV 2) (l_ 2)) (aB (F_ (mV 2) (l_ 0)) aE))))) δ h=.ok (.ref n) h':=
 My lf (slB d4 d7 d8 g7 hi) (O_ _) aM (by rw[X9,Yi];omega) (λz hz=>ou z (Yz (Ym hz))) hv λz=>⟨[a_ (rF tF z),a_ v,a_ (.tup [pl M.f,pl M.l,.str M.w])],by simp[jU,d5,d6],λh2=>by simp⟩
end
section
variable{t d l5 l10:Nat}{R Ro:h_ 0}{zs:ve ((ve St×Nat)×Nat)}
structure JT(h:PH)(t a d m l:Nat)(R:h_ 0)(M:Mrk)(l5:Nat)(zs:ve ((ve St×Nat)×Nat))(b:Nat):Prop where
 T:cI h t a d m l R [M]
 rk:Rk R
 pm:(zs.map (·.1)).Perm R
 si:SI (zs.map (·.1))
 g5:h[l5]?=some (zr zs)
 oz:∀z∈zs,h[z.2]?=some (.lst (wds [M] z.1))
 fl:bef M.l M.f=false
 lf:M.f.length<=500/\M.l.length<=500
 ln:zs.length<=3*b
 hl:∀z∈zs,z.1.1.length<=3*b
theorem okm(rk:Rk R)(lf:M.f.length<=500/\M.l.length<=500):OKm R [M]:=⟨rk,X1 _,λm hm=>by rw[YC.mp hm];omega⟩
theorem zG(T:q0y [M])(rk:Rk R)(pm:Ro.Perm R)(si:SI Ro)(fl:bef M.l M.f=false)(lf:M.f.length<=500/\M.l.length<=500)(hb:b<=100)(ln:Ro.length<=3*b)(hl:∀r∈Ro,r.1.length<=3*b):∃h' n us,q0x 0/\us.map (·.1)=Ro/\JT h' t a d m l R M n us b/\∀(δ:Ev)(mo:Me),mo δ h=.ok (.ref t) h->bM "told" 0 dF mo aE δ h=.ok (.ref n) h':=by let⟨v,h',e,n,us,rfl,x,eu,g,o⟩:=iC (HF T (okm rk lf) pm si.srt (λv h'=>∃n us,v=.ref n/\q0x 0/\us.map (·.1)=Ro/\h'[n]?=a_ (zr us)/\∀z∈us,h'[z.2]?=a_ (.lst (wds [M] z.1))) λn h' us x _ eu g o=>⟨n,us,rfl,x,eu,g,λz hz=>(o z hz).2.2⟩);subst eu;refine⟨h',n,us,x,rfl,⟨T.ext x,rk,pm,si,g,o,fl,lf,by rw[XR]at ln;show ln,λz hz=>hl z.1 (Yt.mpr ⟨z,hz,rfl⟩)⟩,λδ mo e0=>?_⟩;rw[iE (k:=t) (f:=dX) e0 T.tx (by rfl) (by rfl),mI,Rs.bind_ok,if_pos (by rfl),e]
theorem U9{α:Type}{A B C:ve α}:(A++B++C).take A.length=A/\((A++B++C).drop A.length).take B.length=B/\(A++B++C).drop (A.length+B.length)=C:=by refine⟨by simp,by simp,?_⟩;rw[<-X6,List.drop_left]
def nw(zs:ve ((ve St×Nat)×Nat))(i:Nat)(N:h_ 0):h_ 0:=(zs.map (·.1)).take i++N++(zs.map (·.1)).drop i
structure NW(h:PH)(t a d m l:Nat)(R:h_ 0)(M:Mrk)(S:h_ 0)(n b:Nat):Prop where
 T:cI h t a d m l R [M]
 rk:Rk R
 pm:S.Perm R
 si:SI S
 ln:S.length<=3*b
 hl:∀r∈S,r.1.length<=3*b
 fg:h[n]?=some (.lst (S.map λr=>.int (sd M r.1)))
theorem S0{N:h_ 0}{us:ve ((ve St×Nat)×Nat)}(si:SI (nw zs i N))(ic:us.map (·.1)=nw zs i N)(hi:i<=zs.length){z:(ve St×Nat)×Nat}(hz:z∈(us.drop i).take N.length):Bet zs i z.1.1:=by
 let⟨j,hj⟩:=y0c.mp hz;rw[List.getElem?_take]at hj;split at hj
 ·rename_i c;rw[y1q]at hj;let hb:(nw zs i N)[i+j]?=a_ z.1:=by rw[<-ic,XT,hj];rfl
  let lA:((zs.map (·.1)).take i).length=i:=by rw[X9,XR];omega
  refine⟨λq y eq hy=>?_,λy hy=>?_⟩
  ·refine si.lt (i:=q) (j:=i+j) ⋯ (a:=y.1) ?_ hb;unfold nw;rw[XU,Yb (by rw[lA];omega),List.getElem?_take,if_pos ⋯,XT,hy];rfl
  ·refine si.lt (i:=i+j) (j:=i+N.length) ⋯ hb (b:=y.1) ?_;unfold nw;rw[XX (by rw[X6,lA];show X1 _),X6,lA,y15,y1q,y14,XT,hy];rfl
 ·cases hj
theorem MA{L:ve St}{ro:v_ (ve St)}(hL:L.length<=b)(hr:∀r,ro=a_ r->r.length<=b):(dP L ro).1.length<=b:=by
 cases ro with
 |none=>exact hL
 |some r=>
  unfold dP;dsimp only;split
  ·show hr r rfl
  ·show hL
theorem P6(J:q1l 0)(hb:b<100)(cp:h[l10]?=a_ (.lst (zs.map λz=>.int (V_ 0))))(hi:i<=zs.length)(nm:Str×Int)(sn:PV){u:ve St}(eu:dP (lft ((zs.map (·.1)).map (·.1)) i) ((zs.map (·.1)).map (·.1))[i]?=(u,s))(h1:1<=w.length)(h2:w.length<=3)(asc:Asc w)(Q:PV->PH->Prop)(k:∀n h' R' S,NW h' t a d m l R' M S n (b+1)->Q (.ref n) h'):
  (nW [.ref t,.ref l5,.ref l10,dd nm sn (.tup [.str "write",t1,pl u,.int s,.str w]),.int (i:Int),.tup [pl M.f,pl M.l,.str M.w]] h).W Q:=by
 let old:∀r∈zs.map (·.1),r.1.length<=3*b:=λr hr=>by let⟨z,hz,rfl⟩:=Yt.mp hr;show J.hl z hz
 let hu:u.length<=3*b:=by
  have:=MA (b:=3*b) (L:=lft ((zs.map (·.1)).map (·.1)) i) (ro:=((zs.map (·.1)).map (·.1))[i]?) (by
   cases i with
   |zero=>simp[lft]
   |succ j=>rw[PZ (Yd ⋯:zs[j]?=_)];show J.hl _ (Yw _)) (λr hr=>by
   rw[XT]at hr;let⟨z,hz,rfl⟩:=Yo.mp hr;show old _ (Yv hz))
  rw[eu]at this;show this
 let lN:(cA u s nm.1 nm.2 w).length=w.length:=by have:=q0Y (wM u s nm.2 nm.1 w);rw[XR]at this;rw[this,len_list]
 let nN:∀r∈cA u s nm.1 nm.2 w,r.1.length<=3*(b+1):=λr hr=>by let⟨_,_,q⟩:=lY hr;omega
 let jx:SI (nw zs i (cA u s nm.1 nm.2 w)):=J.si.ins (by rw[XR];show hi) eu (hd:=nm.1) (w:=w) (n:=nm.2) λx hx=>by have:=nN x hx;omega
 let sN:=wM u s nm.2 nm.1 w;let ng:=λnd=>HJ J.T (by have:=J.rk.len;omega) nm sn (u:=u) (s:=s) (w:=w) ⋯ h1 ⋯ asc nd;generalize cA u s nm.1 nm.2 w=N at lN nN jx sN ng;let PM:(nw zs i N).Perm (R++N):=by unfold nw;rw[XU];refine(Ys _ y0Q).trans ?_;rw[<-XU,Yh];show J.pm.append_right _
 let HL:∀r∈nw zs i N,r.1.length<=3*(b+1):=λr hr=>by
  let o:∀r∈zs.map (·.1),r.1.length<=3*(b+1):=λr hr=>by have:=old r hr;omega
  rcases X7.mp hr with hr|hr
  ·rcases X7.mp hr with hr|hr
   ·show o r (Ym hr)
   ·show nN r hr
  ·show o r (Yz hr)
 let LN:(nw zs i N).length<=3*(b+1):=by rw[PM.length_eq,X6,lN,<-J.pm.length_eq,XR];have:=J.ln;omega
 let wz:Rk (R++N):=(Rk.perm (R:=nw zs i N) ⟨jx.nd,λr hr=>by have:=HL r hr;omega,⋯⟩ PM.symm)
 -- the deed is heard,the text told
 refine hW ?_;unfold wI;rw[aQ];simp;refine RX J.g5 cp hi J.fl _ λv hv=>now ?_;rw[aQ];let⟨hA,eA,TA,fA⟩:=ng wz.nd;let mA:∀δ:Ev,q0T 0=cu t->q0T 3=a_ (dd nm sn (.tup [.str "write",t1,pl u,.int s,.str w]))->bM "hear" 1 fR (mV 0) (aB (mV 3) aE) δ h=.ok .non hA:=λδ e0 e3=>by rw[iE (k:=t) (f:=bK) (by simp[e0]) J.T.tx (by rfl) (by rfl)];simp[e3,eA]
 simp[mA];rfl';rw[aQ];let⟨hB,n7,us,xB,ic,JB,mB⟩:=zG TA wz PM jx J.fl J.lf (b:=b+1) ⋯ LN HL;simp[mB];rfl';rw[aQ];simp(disch:=omega) [dd2];rfl'
 -- what was there stands as it stood
 let lst:∀{n:Nat}{xs:ve PV},h[n]?=a_ (.lst xs)->hB[n]?=a_ (.lst xs):=λ{n xs} e=>xB _ _ (fA _ _ (tH e J.T.sg.2) e);let lA:((zs.map (·.1)).take i).length=i:=by rw[X9,XR];omega
 let lU:us.length=zs.length+w.length:=by have:=q0Y ic;rw[XR]at this;rw[this,PM.length_eq,X6,lN,<-J.pm.length_eq,XR]
 let⟨q1,q2,q3⟩:=U9 (A:=(zs.map (·.1)).take i) (B:=N) (C:=(zs.map (·.1)).drop i);rw[lA,show(zs.map (·.1)).take i++N++(zs.map (·.1)).drop i=us.map (·.1) from ic.symm]at q1 q2 q3
 rw[lN]at q2 q3;obtain⟨δ,hδ⟩:∃δ:Ev,δ=[cu t,cu l5,cu l10,a_ (dd nm sn (.tup [.str "write",t1,pl u,.int s,.str w])),cx (i:Int),a_ (.tup [pl M.f,pl M.l,.str M.w]),a_ v,cu n7,cx (w.length:Int),b_]:=⟨_,rfl⟩;rw[<-hδ];let d2:q0T 2=cu l10:=by rw[hδ];rfl
 let d3:q0T 3=a_ (dd nm sn (.tup [.str "write",t1,pl u,.int s,.str w])):=by rw[hδ];rfl
 let d4:q0T 4=cx (i:Int):=by rw[hδ];rfl
 let d7:q0T 7=cu n7:=by rw[hδ];rfl
 let d8:q0T 8=cx (w.length:Int):=by rw[hδ];rfl
 let⟨hC,xC,eC⟩:=RY (δ:=δ) (M:=M) (by rw[hδ];rfl) d4 d7 d8 JB.g5 (lst J.g5) hi lU (by rw[Z5,Z5];show q1) (by rw[y0s,y0s];show q3) (λz hz=>lst (J.oz z hz)) JB.oz;rw[aQ,fG,eC];simp;rfl';let lu:=JB.ln
 -- the signs
 let⟨hD,xD,eD⟩:=P5 (δ:=δ) (h:=hC) (us:=us) (i:=i) (mm:=w.length) (w:=w) d4 d7 d8 (xC _ _ JB.g5) ⋯ ⋯ (by rw[show(λz:(ve St×Nat)×Nat=>z.1.2)=(λr:ve St×Nat=>r.2)∘(λz:(ve St×Nat)×Nat=>z.1) from rfl,<-Y2,Z5,y0s,q2,sN]) h1 h2
 let nD:aD vNe (mMt Lq yB (mC (.str "")) (aB (cS [b_] (bZ (mSl (mV 7) (mP (mV 4)) (mP (q0F (mV 4) (mV 8))))) (gN 0) iU (F_ (mV 0) (l_ 1))) aE)) (F_ (F_ (mV 3) (l_ 2)) (l_ 4)) δ hC=.ok (.bl false) hD:=by rw[fN,eD,Rs.bind_ok];simp[d3,dd2]
 let tf:∀h,tru (.bl false) h=.ok false h:=λh=>rfl;rw[aQ,fG,uH,nD,Rs.bind_ok,tf];simp;rfl'
 -- the sides
 let x2:=xC.trans xD;let⟨hE,n9,xE,gE,eE⟩:=Mz (δ:=δ) (h:=hD) (us:=us) (i:=i) (mm:=w.length) (M:=M) (v:=v) (by have:=J.lf;omega) d4 (by rw[hδ];rfl) (by rw[hδ];rfl) d7 d8 (x2 _ _ JB.g5) ⋯ ⋯ (λz hz=>⟨by have:=JB.hl z hz;omega,x2 _ _ (JB.oz z hz)⟩) (λz hz=>hv _ (S0 jx ic hi (by rw[lN];show hz)));rw[aQ,sE,eE,jV];rfl';let g2:hE[l10]?=a_ (.lst (zs.map λz=>.int (V_ 0))):=xE _ _ (x2 _ _ (lst cp));let TE:=JB.T.ext (x2.trans xE);let f2:aY (δ.set 9 (cu n9)) 2=cu l10:=by rw[hδ];rfl
 let f4:aY (δ.set 9 (cu n9)) 4=cx (i:Int):=by rw[hδ];rfl
 let f9:aY (δ.set 9 (cu n9)) 9=cu n9:=by rw[hδ];rfl
 generalize δ.set 9 (cu n9)=ε at f2 f4 f9;let eF:(zs.map λz=>PV.int (V_ 0)).take i++((us.drop i).take w.length).map (λz=>PV.int (V_ 0))++(zs.map λz=>PV.int (V_ 0)).drop i=(nw zs i N).map λr=>.int (sd M r.1):=by unfold nw;rw[<-q2];simp[Z5,y0s,Function.comp_def]
 let lF:(zs.map λz=>PV.int (V_ 0)).length=zs.length:=XR _;let lS:(((us.drop i).take w.length).map λz=>PV.int (V_ 0)).length<=1000:=by rw[XR,X9,Yi];omega
 generalize (zs.map λz=>PV.int (V_ 0))=F at g2 eF lF;generalize (((us.drop i).take w.length).map λz=>PV.int (V_ 0))=S at gE eF lS;let e1:=slA f2 f4 g2 ⋯;let y1:=Ext.app hE [MO.lst (F.take i)];let s1:(hE++[MO.lst (F.take i)])[hE.length]?=a_ (.lst (F.take i)):=aM;generalize hE++[MO.lst (F.take i)]=h3 at e1 y1 s1;let e2:=gR s1 (y1 _ _ gE) (by rw[X9];omega);let y2:=Ext.app h3 [MO.lst (F.take i++S)];let s2:(h3++[MO.lst (F.take i++S)])[h3.length]?=a_ (.lst (F.take i++S)):=aM;generalize h3++[MO.lst (F.take i++S)]=h4 at e2 y2 s2;let e3:=slC (me:=mV 4) f2 (by simp[f4]) (y2 _ _ (y1 _ _ g2)) (i:=i) ⋯;let y3:=Ext.app h4 [MO.lst (F.drop i)];let s3:(h4++[MO.lst (F.drop i)])[h4.length]?=a_ (.lst (F.drop i)):=aM;generalize h4++[MO.lst (F.drop i)]=h5 at e3 y3 s3;let e4:=gR (y3 _ _ s2) s3 (by rw[X6,X9,Yi];omega);let WK:∀h,mV 9 ε h=.ok (.ref n9) h:=λh=>by simp[f9]
 rw[Eo,fN,fN,e1,Rs.bind_ok,WK,Rs.bind_ok,e2,Rs.bind_ok,e3,Rs.bind_ok,e4,jV];refine k _ _ (R++N) (nw zs i N) ⟨TE.ext (y1.trans (y2.trans (y3.trans (O_ _)))),wz,PM,jx,LN,HL,?_⟩;rw[<-eF];show aM
end
theorem eI{v:v_ PV}:∀{δ:Ev}{i j:Nat},i≠j->aY (δ.set i v) j=q0T j
 |[],_,_,_=>rfl
 |_::_,0,0,h=>(h rfl).elim
 |_::_,0,_+1,_=>rfl
 |_::_,_+1,0,_=>rfl
 |_::δ,i+1,j+1,h=>eI (δ:=δ) λe=>h (by rw[e])
theorem vB{v:v_ PV}:∀{δ:Ev}{i:Nat},i<δ.length->aY (δ.set i v) i=v
 |_::_,0,_=>rfl
 |_::δ,i+1,h=>vB (δ:=δ) (Nat.lt_of_succ_lt_succ h)
structure Dv(δ:Ev)(ns:ve Int)(hd:Str)(t:Nat)(M:Mrk)(l5 l10:Nat):Prop where
 ln:δ.length=16
 e0:aY δ 0=some (.fl (ns.map PV.int))
 e2:aY δ 2=some (.str hd)
 e3:aY δ 3=cu t
 e9:aY δ 9=some (.tup [pl M.f,pl M.l,.str M.w])
 e5:aY δ 5=cu l5
 e10:aY δ 10=cu l10
variable{v:v_ PV}
section
variable{ns:ve Int}{t d l5 l10:Nat}{R Ro:h_ 0}{zs:ve ((ve St×Nat)×Nat)}{N c:Int}
theorem Dv.set(D:q0E 0)(h:11<=i):Dv (δ.set i v) ns hd t M l5 l10:=⟨by rw[Zm];show D.ln,by rw[eI ⋯];show D.e0,by rw[eI ⋯];show D.e2,by rw[eI ⋯];show D.e3,by rw[eI ⋯];show D.e9,by rw[eI ⋯];show D.e5,by rw[eI ⋯];show D.e10⟩
theorem Dv.s5(D:q0E 0):Dv (δ.set 5 (cu n)) ns hd t M n l10:=⟨by rw[Zm];show D.ln,by rw[eI ⋯];show D.e0,by rw[eI ⋯];show D.e2,by rw[eI ⋯];show D.e3,by rw[eI ⋯];show D.e9,vB (by rw[D.ln];omega),by rw[eI ⋯];show D.e10⟩
theorem Dv.s10(D:q0E 0):Dv (δ.set 10 (cu n)) ns hd t M l5 n:=⟨by rw[Zm];show D.ln,by rw[eI ⋯];show D.e0,by rw[eI ⋯];show D.e2,by rw[eI ⋯];show D.e3,by rw[eI ⋯];show D.e9,by rw[eI ⋯];show D.e5,vB (by rw[D.ln];omega)⟩
theorem zH(hd:Str)(n:Int)(ac:PV)(h:PH):∃sn,iX [.str hd,.int n,ac] h=.ok (dd (hd,n) sn ac) h:=by
 let w:(iX [.str hd,.int n,ac] h).W λv h'=>∃sn,v=dd (hd,n) sn ac/\h'=h:=by
  refine hW ?_;unfold GB;rw[aQ];simp;rfl';rw[aQ,fG];by_cases c:1<n
  ·simp[c];rfl';simp;show⟨_,rfl⟩
  ·simp[c];rfl';simp;show⟨_,rfl⟩
 let⟨v,h',e,sn,rfl,rfl⟩:=iC w;show⟨sn,e⟩
theorem U'(D:q0E 0)(n:NW h t a d m l R M Ro l10 b)(hb:b<=100)(fl:bef M.l M.f=false)(lf:M.f.length<=500/\M.l.length<=500)(k:∀δ' h' gj zs,Dv δ' ns hd t M gj l10->JT h' t a d m l R M gj zs b->h'[l10]?=a_ (.lst (zs.map λz=>.int (V_ 0)))->E.nx δ' h'):((aZ 5 (bM "told" 0 dF (mV 3) aE)) δ h).W E:=by let⟨h',n5,us,x,rfl,J,e⟩:=zG n.T n.rk n.pm n.si fl lf hb n.ln n.hl;rw[sE,e δ (mV 3) (by simp[D.e3]),jV];show k _ _ _ us D.s5 J (by rw[x _ _ n.fg,Y2];rfl)
noncomputable def lW:Ms:=aO (aZ 13 (aD kX (mV 12) (q0F (q1h (aB (mV 5) aE)) (l_ 1))))
   (aO (aZ 15 (bS 3 iX (aB (mV 2) (aB (q0F (mV 11) (l_ 1)) (aB (bS 3 uV (aB (mV 5) (aB (mV 13) (aB (aD A8 (mV 12) (l_ 7)) aE)))) aE)))))
   (aO (aZ 10 (bS 6 nW (aB (mV 3) (aB (mV 5) (aB (mV 10) (aB (mV 15) (aB (mV 13) (aB (mV 9) aE))))))))
   (cZ (CA (bP (aD vIs (mV 10) (mC .non))) (bP (aD Ak (mC .non) (mV 10)))) (bY (mC (.bl false))) fE)))
theorem Ua(D:q0E 0)(lg:q0T 11=cx c)(nk:q0T 12=cx N)(J:q1l 0)(hb:b<100)(cp:h[l10]?=a_ (.lst (zs.map λz=>.int (V_ 0))))(k:∀δ' h' n R' S,Dv δ' ns hd t M l5 n->NW h' t a d m l R' M S n (b+1)->E.nx δ' h'):(lW δ h).W E:=by
 let ln:=iD J.g5;rw[XR]at ln;let m0:=y0J N (b:=(zs.length:Int)+1) ⋯;let m1:=y0k N (b:=(zs.length:Int)+1) ⋯;obtain⟨i,hi⟩:∃i:Nat,N%((zs.length:Int)+1)=(i:Int):=⟨_,(y0K m0).symm⟩;let uq:i<=zs.length:=⋯;let k9:=D.ln;unfold lW;rw[aQ];simp(disch:=omega) [D.e5,nk,ln,hi];rfl';let D1:=D.set (i:=13) (v:=cx (i:Int)) ⋯;let ki:aY (δ.set 13 (cx (i:Int))) 13=cx (i:Int):=vB ⋯;let ig:aY (δ.set 13 (cx (i:Int))) 11=cx c:=by rw[eI ⋯];show lg
 let ji:aY (δ.set 13 (cx (i:Int))) 12=cx N:=by rw[eI ⋯];show nk
 let k9:=D1.ln;generalize δ.set 13 (cx (i:Int))=ε at D1 ki ig ji k9;let⟨v,h2,ew,rfl,w,w1,w2,asc,rfl⟩:=iC (GE (n:=N/7) J.g5 uq J.si (λv h'=>h'=h/\∃w:Str,1<=w.length/\w.length<=3/\Asc w/\v=.tup [.str "write",t1,pl (dP (lft ((zs.map (·.1)).map (·.1)) i) ((zs.map (·.1)).map (·.1))[i]?).1,.int (dP (lft ((zs.map (·.1)).map (·.1)) i) ((zs.map (·.1)).map (·.1))[i]?).2,.str w]) λw a b c=>⟨rfl,w,a,b,c,rfl⟩);obtain⟨⟨u,s⟩,eu⟩:∃us,dP (lft ((zs.map (·.1)).map (·.1)) i) ((zs.map (·.1)).map (·.1))[i]?=us:=⟨_,rfl⟩;rw[eu]at ew;let⟨sn,ed⟩:=zH hd (c+1) (.tup [.str "write",t1,pl u,.int s,.str w]) h2;rw[aQ];simp(disch:=omega) [D1.e2,D1.e5,ig,ji,ki,ew,ed];rfl';let D2:=D1.set (i:=15) (v:=a_ (dd (hd,c+1) sn (.tup [.str "write",t1,pl u,.int s,.str w]))) ⋯;let xw:aY (ε.set 15 (a_ (dd (hd,c+1) sn (.tup [.str "write",t1,pl u,.int s,.str w])))) 13=cx (i:Int):=by rw[eI ⋯];show ki
 let xo:aY (ε.set 15 (a_ (dd (hd,c+1) sn (.tup [.str "write",t1,pl u,.int s,.str w])))) 15=a_ (dd (hd,c+1) sn (.tup [.str "write",t1,pl u,.int s,.str w])):=vB ⋯;generalize ε.set 15 (a_ (dd (hd,c+1) sn (.tup [.str "write",t1,pl u,.int s,.str w])))=ζ at D2 xw xo;rw[aQ];simp[D2.e3,D2.e5,D2.e10,D2.e9,xw,xo];refine P6 J hb cp uq (hd,c+1) sn eu w1 w2 asc _ λn h' R' S W=>now ?_;let D3:=D2.s10 (n:=n);let e1:Ak .non (.ref n) h'=.ok (.bl false) h':=by rw[L' W.fg,Od W.fg rfl (by rw[y16];show Yy.mpr λy _=>rfl),decide_eq_false (by simp)]
 let e0:mR (.ref n)=false:=rfl;rw[fG];simp[D3.e10,e0,e1];show k _ _ _ _ _ D3 W
end
variable{gs:ve PV}
section
variable{ns:ve Int}{t d l5 l10:Nat}{R Ro:h_ 0}{zs:ve ((ve St×Nat)×Nat)}{N c:Int}
theorem MB{qo:Nat}(ej:q0T j=cu n)(xk:q0T 13=cx (i:Int))(Xa:q0T 14=cu qo)(g:h[n]?=a_ (.lst xs))(ik:h[qo]?=a_ (.lst gs))(lx:xs.length<=1000)(hi:i+gs.length<=xs.length):
  ∃h' n,q0x 0/\h'[n]?=a_ (.lst (xs.take i++xs.drop (i+gs.length)))/\q0F (mSl (mV j) fD (mP (mV 13))) (mSl (mV j) (mP (q0F (mV 13) (q1h (aB (mV 14) aE)))) fD) δ h=.ok (.ref n) h':=by
 let e1:=slA ej xk g ⋯;let g1:(h++[MO.lst (xs.take i)])[h.length]?=a_ (.lst (xs.take i)):=aM;let x1:=Ext.app h [MO.lst (xs.take i)];generalize h++[MO.lst (xs.take i)]=h1 at e1 g1 x1;let e2:=slC (me:=q0F (mV 13) (q1h (aB (mV 14) aE))) (i:=i+gs.length) ej (by simp[xk,Xa,iD (x1 _ _ ik)]) (x1 _ _ g) hi;let g2:(h1++[MO.lst (xs.drop (i+gs.length))])[h1.length]?=a_ (.lst (xs.drop (i+gs.length))):=aM;let x2:=Ext.app h1 [MO.lst (xs.drop (i+gs.length))];generalize h1++[MO.lst (xs.drop (i+gs.length))]=h2 at e2 g2 x2;let e3:=gR (x2 _ _ g1) g2 (by rw[X9,Yi];omega);show⟨h2++[MO.lst (xs.take i++xs.drop (i+gs.length))],h2.length,(x1.trans x2).trans (O_ _),aM,by rw[fN,e1,Rs.bind_ok,e2,Rs.bind_ok,e3]⟩
noncomputable def lC:Ms:=aO (aZ 13 (aD kX (mV 12) (q1h (aB (mV 5) aE))))
   (aO (aZ 14 (mSl (mV 5) (mP (mV 13)) (mP (q0F (q0F (mV 13) (l_ 1)) (aD kX (aD A8 (mV 12) (l_ 301)) (l_ 3))))))
   (aO (pZ (bM "hear" 1 fR (mV 3) (aB (bS 3 iX (aB (mV 2) (aB (q0F (mV 11) (l_ 1)) (aB (cO (aB (mC (.str "cut")) (aB (cO (aB (mC (.str "t")) (aB (l_ 1) aE))) (aB (mCB sO (aB (cS [b_] (bZ (mV 14)) (gN 0) iU (F_ (mV 0) (l_ 0))) aE)) aE)))) aE)))) aE)))
   (aO (cZ (bP (aD sT (bM "told" 0 dF (mV 3) aE) (q0F (mSl (mV 5) fD (mP (mV 13))) (mSl (mV 5) (mP (q0F (mV 13) (q1h (aB (mV 14) aE)))) fD)))) (bY (mC (.bl false))) fE)
   (aZ 10 (q0F (mSl (mV 10) fD (mP (mV 13))) (mSl (mV 10) (mP (q0F (mV 13) (q1h (aB (mV 14) aE)))) fD))))))
theorem Ub(D:q0E 0)(lg:q0T 11=cx c)(nk:q0T 12=cx N)(J:q1l 0)(hb:b<100)(hz:zs≠[])(cp:h[l10]?=a_ (.lst (zs.map λz=>.int (V_ 0))))(k:∀δ' h' n R' S,Dv δ' ns hd t M l5 n->NW h' t a d m l R' M S n (b+1)->E.nx δ' h'):(lC δ h).W E:=by
 let ln:=iD J.g5;rw[XR]at ln;let lz:0<zs.length:=List.length_pos_iff.mpr hz;let lb:=J.ln;let m0:=y0J N (b:=(zs.length:Int)) ⋯;let m1:=y0k N (b:=(zs.length:Int)) ⋯;obtain⟨i,hi⟩:∃i:Nat,N%(zs.length:Int)=(i:Int):=⟨_,(y0K m0).symm⟩;let b0:=y0J (N/301) (b:=3) ⋯;obtain⟨mm,hm⟩:∃mm:Nat,N/301%3=(mm:Int):=⟨_,(y0K b0).symm⟩;let uq:i<zs.length:=⋯;let k9:=D.ln;let c0:(0:Int)<zs.length:=⋯;unfold lC;rw[aQ];simp(disch:=omega) [D.e5,nk,ln,hi];rfl';let D1:=D.set (i:=13) (v:=cx (i:Int)) ⋯;let ki:aY (δ.set 13 (cx (i:Int))) 13=cx (i:Int):=vB ⋯;let ig:aY (δ.set 13 (cx (i:Int))) 11=cx c:=by rw[eI ⋯];show lg
 let ji:aY (δ.set 13 (cx (i:Int))) 12=cx N:=by rw[eI ⋯];show nk
 let k9:=D1.ln;generalize δ.set 13 (cx (i:Int))=ε at D1 ki ig ji k9
 -- what is cut
 let cm:oO (zs.map (rF tF)) (a_ (i:Int)) (a_ ((i:Int)+1+(mm:Int)))=((zs.drop i).take (1+mm)).map (rF tF):=by
  rw[show((i:Int)+1+(mm:Int))=((i+1+mm:Nat):Int) by simp,HI (by rw[XR];omega) ⋯,Z5,y0s]
  congr 1;omega
 obtain⟨C,hC⟩:∃C,zs.drop (i+((zs.drop i).take (1+mm)).length)=C:=⟨_,rfl⟩;let u3:zs=zs.take i++(zs.drop i).take (1+mm)++C:=by
  rw[<-hC,XU]
  conv=>lhs;rw[<-Yh i zs]
  congr 1
  conv=>lhs;rw[<-Yh (1+mm) (zs.drop i)]
  congr 1;rw[List.drop_drop,X9,Yi,List.drop_eq_drop_iff];omega
 let lB:i+((zs.drop i).take (1+mm)).length<=zs.length:=by rw[X9,Yi];omega
 generalize (zs.drop i).take (1+mm)=B at cm hC u3 lB;rw[aQ];simp(disch:=omega) [D1.e5,ki,ji,uM J.g5,hm];rw[cm];rfl';let x1:=Ext.app h [zr B];let ik:(h++[zr B])[h.length]?=a_ (zr B):=aM;generalize h++[zr B]=h1 at x1 ik;let D2:=D1.set (i:=14) (v:=q0X 0) ⋯;let vv:aY (ε.set 14 (q0X 0)) 13=cx (i:Int):=by rw[eI ⋯];show ki
 let xl:aY (ε.set 14 (q0X 0)) 11=cx c:=by rw[eI ⋯];show ig
 let qe:aY (ε.set 14 (q0X 0)) 14=q0X 0:=vB ⋯;generalize ε.set 14 (q0X 0)=ζ at D2 vv xl qe;generalize h.length=qo at ik qe;obtain⟨G,hG⟩:∃G,(B.map (·.1)).map (·.1)=G:=⟨_,rfl⟩
 -- it is heard
 let hc:=nP (m:=mV 14) (js:=[b_]) (tg:=gN 0) (tst:=iU) (elt:=F_ (mV 0) (l_ 0)) (δ:=ζ) (h:=h1) (h1:=h1) (n:=qo) (ys:=B) (emb:=rF tF) (λz=>a_ (pl z.1.1)) (by simp[qe]) ik ⋯ (λz hz=>⟨[a_ (rF tF z)],by simp[jU],λh' x'=>⟨rfl,by simp[rF0]⟩⟩);rw[filterMap_some,show B.map (λz=>pl z.1.1)=G.map pl by rw[<-hG,Y2,Y2];rfl]at hc;let x2:=Ext.app h1 [MO.lst (G.map pl)];let g2:(h1++[MO.lst (G.map pl)])[h1.length]?=a_ (.lst (G.map pl)):=aM;generalize h1++[MO.lst (G.map pl)]=h2 at hc x2 g2;let dn:=x1.trans x2;let⟨sn,ed⟩:=zH hd (c+1) (.tup [.str "cut",t1,.tup (G.map pl)]) h2;let⟨h3,eh,T3,f3⟩:=OY (J.T.ext dn) J.rk (hd,c+1) sn G;let mh:bM "hear" 1 fR (mV 3) (aB (bS 3 iX (aB (mV 2) (aB (q0F (mV 11) (l_ 1)) (aB (cO (aB (mC (.str "cut")) (aB (cO (aB (mC (.str "t")) (aB (l_ 1) aE))) (aB (mCB sO (aB (cS [b_] (bZ (mV 14)) (gN 0) iU (F_ (mV 0) (l_ 0))) aE)) aE)))) aE)))) aE) ζ h1=.ok .non h3:=by rw[iE (k:=t) (f:=bK) (by simp[D2.e3]) (J.T.ext x1).tx (by rfl) (by rfl)];simp[D2.e2,xl,hc,OT g2,ed,eh]
 rw[aQ];simp only[KQ,mh,jV];rfl';let lst:∀{n:Nat}{xs:ve PV},h[n]?=a_ (.lst xs)->h3[n]?=a_ (.lst xs):=λ{n xs} e=>f3 _ _ (tH (dn _ _ e) (J.T.ext dn).sg.2) (dn _ _ e);let ik:=f3 _ _ (tH (x2 _ _ ik) (J.T.ext dn).sg.2) (x2 _ _ ik)
 -- and told
 let eR:(zs.map (·.1))=(zs.take i).map (·.1)++B.map (·.1)++C.map (·.1):=by
  conv=>lhs;rw[u3]
  rw[YF,YF]
 let eo:eQ (zs.map (·.1)) G=(zs.take i++C).map (·.1):=by rw[<-hG,eR,OX (by rw[<-eR];show J.si.nd),YF]
 let PM:((zs.take i++C).map (·.1)).Perm (eQ R G):=by rw[<-eo];show Mp J.pm _
 let sl:(zs.take i++C).Sublist zs:=by
  conv=>rhs;rw[u3]
  show List.Sublist.append_right (List.sublist_append_left _ _) _
 let jx:SI ((zs.take i++C).map (·.1)):=J.si.sub (sl.map _);let ll:=sl.length_le;let LN:((zs.take i++C).map (·.1)).length<=3*(b+1):=by rw[XR];omega
 let HL:∀r∈(zs.take i++C).map (·.1),r.1.length<=3*(b+1):=λr hr=>by let⟨z,hz,rfl⟩:=Yt.mp hr;have:=J.hl z (sl.subset hz);omega
 let⟨h4,n7,us,x4,ic,J4,m4⟩:=zG T3 (J.rk.out _) PM jx J.fl J.lf (b:=b+1) ⋯ LN HL;let m4:=m4 ζ (mV 3) (by simp[D2.e3]);let r8:(B.map (rF tF)).length=B.length:=XR _;let⟨h5,n5,x5,g5,e5⟩:=MB D2.e5 vv qe (x4 _ _ (lst J.g5)) (x4 _ _ ik) (by rw[XR];omega) (by rw[r8,XR];show lB);rw[r8,<-Z5,<-y0s,hC,<-YF]at g5;let q:=Mx (M:=M) m4 J4.g5 e5 g5 x5 ic J4.oz (λz hz=>x4 _ _ (lst (J.oz z (sl.subset hz))));let tf:∀h,tru (.bl false) h=.ok false h:=λh=>rfl;rw[aQ,fG,uH,q,Rs.bind_ok,tf];simp;rfl';let⟨h6,n6,x6,g6,e6⟩:=MB D2.e10 vv qe (x5 _ _ (x4 _ _ (lst cp))) (x5 _ _ (x4 _ _ ik)) (by rw[XR];omega) (by rw[r8,XR];show lB);rw[r8,<-Z5,<-y0s,hC,<-YF]at g6;rw[sE,e6,jV];show k _ _ _ _ _ D2.s10 ⟨J4.T.ext (x5.trans x6),J4.rk,PM,jx,LN,HL,by rw[g6,Y2];rfl⟩
end
theorem HN{d:Nat}{R:h_ 0}(t:tJ h a d R)(fr:∀o,h[d]?=a_ o->h'[d]?=a_ o)(fa:∀o,h[a]?=a_ o->h'[a]?=a_ o):tJ h' a d R:=by refine⟨fa _ t.1,?_⟩;let⟨o,ho,_,hh⟩:=cE t.2;show hh _ (fr _ ho)
theorem Uc(δ:Ev)(h:PH):∃h',qK "Signs" 0 bT aE δ h=.ok (.ref h.length) h'/\q0x 0/\tJ h' h.length (h.length+1) []/\h'.length=h.length+2:=by
 let s1:(h++[MO.ins "Signs" []])[h.length]?=a_ (.ins "Signs" []):=aM;let e1:=Mn s1;let ll:(h++[MO.ins "Signs" []]).length=h.length+1:=by simp
 let d1:(h++[MO.ins "Signs" []]++[MO.dK []])[(h++[MO.ins "Signs" []]).length]?=a_ (.dK []):=aM;let x1:Ext h (h++[MO.ins "Signs" []]++[MO.dK []]):=(O_ _).trans (O_ _);let s2:=O_ [MO.dK []] _ _ s1;let l2:(h++[MO.ins "Signs" []]++[MO.dK []]).length=h.length+2:=by simp
 let em:qK "Signs" 0 bT aE δ h=.ok (.ref h.length) ((h++[MO.ins "Signs" []]++[MO.dK []]).set h.length (.ins "Signs" [("kept",.ref (h++[MO.ins "Signs" []]).length)])):=by rw[Au,mI,Rs.bind_ok,if_pos (by rfl),e1,Rs.bind_ok]
 rw[ll]at d1 em;refine⟨_,em,x1.setN (X1 _),⟨lL s2,?_⟩,by rw[Zm,l2]⟩;let g:((h++[MO.ins "Signs" []]++[MO.dK []]).set h.length (.ins "Signs" [("kept",.ref (h.length+1))]))[h.length+1]?=a_ (.dK []):=by rw[Ye ⋯];show d1
 simp[bJ,g,kvR]
theorem Ud(δ:Ev)(h:PH):∃h',qK "Marks" 0 bU aE δ h=.ok (.ref h.length) h'/\q0x 0/\fS h' h.length (h.length+1) []/\h'.length=h.length+2:=by
 let s1:(h++[MO.ins "Marks" []])[h.length]?=a_ (.ins "Marks" []):=aM;let e1:=OO s1;let ll:(h++[MO.ins "Marks" []]).length=h.length+1:=by simp
 let d1:(h++[MO.ins "Marks" []]++[MO.lst []])[(h++[MO.ins "Marks" []]).length]?=a_ (.lst []):=aM;let x1:Ext h (h++[MO.ins "Marks" []]++[MO.lst []]):=(O_ _).trans (O_ _);let s2:=O_ [MO.lst []] _ _ s1;let l2:(h++[MO.ins "Marks" []]++[MO.lst []]).length=h.length+2:=by simp
 let em:qK "Marks" 0 bU aE δ h=.ok (.ref h.length) ((h++[MO.ins "Marks" []]++[MO.lst []]).set h.length (.ins "Marks" [("standing",.ref (h++[MO.ins "Marks" []]).length)])):=by rw[Au,mI,Rs.bind_ok,if_pos (by rfl),e1,Rs.bind_ok]
 rw[ll]at d1 em;refine⟨_,em,x1.setN (X1 _),⟨lL s2,?_⟩,by rw[Zm,l2]⟩;rw[Ye ⋯];show d1
theorem Ue(δ:Ev)(h:PH):∃h',qK "Text" 0 cH aE δ h=.ok (.ref h.length) h'/\q0x 0/\cI h' h.length (h.length+1) (h.length+2) (h.length+3) (h.length+4) [] []/\h'.length=h.length+5:=by
 let g0:(h++[MO.ins "Text" []])[h.length]?=a_ (.ins "Text" []):=aM;let x0:Ext h (h++[MO.ins "Text" []]):=O_ _;let l0:(h++[MO.ins "Text" []]).length=h.length+1:=by simp
 let⟨h1,e1,x1,s1,l1⟩:=Uc [q0X 0] (h++[MO.ins "Text" []]);let g1:=x1 _ _ g0;let wx:=uS (f:="signs") (p:=.ref (h++[MO.ins "Text" []]).length) g1 (by simp);let g2:=lL (o':=MO.ins "Text" (mT "signs" (.ref (h++[MO.ins "Text" []]).length) [])) g1;let u7:Ext h (h1.set h.length (MO.ins "Text" (mT "signs" (.ref (h++[MO.ins "Text" []]).length) []))):=(x0.trans x1).setN (X1 _);let l2:(h1.set h.length (MO.ins "Text" (mT "signs" (.ref (h++[MO.ins "Text" []]).length) []))).length=h.length+3:=by rw[Zm,l1,l0]
 let qv:∀i ob,i≠h.length->h1[i]?=a_ ob->(h1.set h.length (MO.ins "Text" (mT "signs" (.ref (h++[MO.ins "Text" []]).length) [])))[i]?=a_ ob:=λi ob hi e=>by rw[Ye (ZK hi)];show e
 rw[l0]at e1 s1;rw[l0]at wx g2 u7 l2 qv;generalize hh2:h1.set h.length (MO.ins "Text" (mT "signs" (.ref (h.length+1)) []))=h2 at wx g2 u7 l2 qv;let⟨h3,e3,x3,m3,l3⟩:=Ud [q0X 0] h2;let g3:=x3 _ _ g2;let yc:=uS (f:="marks") (p:=.ref h2.length) g3 (by simp[mT]);let g4:=lL (o':=MO.ins "Text" (mT "marks" (.ref h2.length) (mT "signs" (.ref (h.length+1)) []))) g3;rw[l2]at e3 m3 yc g4;let w:(cH [.ref h.length] (h++[MO.ins "Text" []])).W λv h'=>v=.non/\h'=h3.set h.length (MO.ins "Text" (mT "marks" (.ref (h.length+3)) (mT "signs" (.ref (h.length+1)) []))):=by
  refine hW ?_;unfold jW;rw[qa_ 1 [PV.ref h.length] [q0X 0],aQ,Ll,e1,jV,show mV 0 [q0X 0] h1=.ok (.ref h.length) h1 from rfl,jV]
  refine⟨h2,wx,now ?_⟩;rw[Ll,e3,jV,show mV 0 [q0X 0] h3=.ok (.ref h.length) h3 from rfl,jV]
  show⟨_,yc,rfl,rfl⟩
 let⟨v,h4,e4,rfl,rfl⟩:=iC w;let em:qK "Text" 0 cH aE δ h=.ok (.ref h.length) (h3.set h.length (MO.ins "Text" (mT "marks" (.ref (h.length+3)) (mT "signs" (.ref (h.length+1)) [])))):=by rw[Au,mI,Rs.bind_ok,if_pos (by rfl),e4,Rs.bind_ok]
 let qz:∀i ob,i≠h.length->h3[i]?=a_ ob->(h3.set h.length (MO.ins "Text" (mT "marks" (.ref (h.length+3)) (mT "signs" (.ref (h.length+1)) []))))[i]?=a_ ob:=λi ob hi e=>by rw[Ye (ZK hi)];show e
 refine⟨_,em,(u7.trans x3).setN (X1 _),⟨g4,HN (HN (h:=h1) s1 (λo=>qv _ o ⋯) (λo=>qv _ o ⋯) |>.ext x3) (λo=>qz _ o ⋯) (λo=>qz _ o ⋯),qz _ _ ⋯ m3.1,qz _ _ ⋯ m3.2⟩,by rw[Zm,l3,l2]⟩
section
variable{ns:ve Int}{t d l5 l10:Nat}{R Ro:h_ 0}{zs:ve ((ve St×Nat)×Nat)}{N c k:Int}
theorem ne_nil(g:h[l5]?=a_ (zr zs)):sT (.ref l5) (.ref h.length) (h++[.lst []])=.ok (.bl (decide (zs≠[]))) (h++[.lst []]):=by
 let g1:=Ext.app h [MO.lst []] _ _ g;let g2:(h++[MO.lst []])[h.length]?=a_ (.lst []):=aM;generalize h++[MO.lst []]=hA at g1 g2;cases zs with
 |nil=>exact Mr (D9 g1 g2 rfl 3)
 |cons z zs=>
  let q1:gG (.ref l5) hA=a_ ((z::zs).map (rF tF)):=by simp[gG,aV,g1]
  let q2:gG (.ref h.length) hA=a_ []:=by simp[gG,aV,g2]
  let q3:PV.ds ((z::zs).map (rF tF))=b_:=by simp[PV.ds,PV.d,rF,D8]
  let n2:kY (.ref l5) (.ref h.length) hA=b_:=by unfold kY;simp only[PV.d,q1,q2,q3]
  unfold sT eqF;rw[n2];simp only[q1,q2];rfl
theorem P7(D:q0E 0)(J:q1l 0)(hb:b<99)(cp:h[l10]?=a_ (.lst (zs.map λz=>.int (V_ 0))))(lg:q0T 11=cx k)(hc:atI (q0w 0) k=cx c)(q:∀δ' h' R' gj jk zs,Dv δ' ns hd t M gj jk->JT h' t a d m l R' M gj zs (b+1)->h'[jk]?=a_ (.lst (zs.map λz=>.int (V_ 0)))->E.nx δ' h'):(CZ δ h).W E:=by
 rw[show CZ=aO (aZ 12 (bS 2 mN (aB (F_ (mV 0) (mV 11)) (aB (l_ 1) aE)))) (aO (cZ (nO (bP (aD vEq (aD kX (F_ (mV 0) (mV 11)) (l_ 3)) (l_ 1))) (bP (aD sT (mV 5) (iS aE)))) lC lW) (aZ 5 (bM "told" 0 dF (mV 3) aE))) from rfl,aQ]
 let k9:=D.ln;simp[D.e0,lg,hc];rfl';let D1:=D.set (i:=12) (v:=cx (mixed c 1)) ⋯;let ig:aY (δ.set 12 (cx (mixed c 1))) 11=cx k:=by rw[eI ⋯];show lg
 let ji:aY (δ.set 12 (cx (mixed c 1))) 12=cx (mixed c 1):=vB ⋯;generalize δ.set 12 (cx (mixed c 1))=ε at D1 ig ji;let tail:∀δ' h' n R' S,Dv δ' ns hd t M l5 n->NW h' t a d m l R' M S n (b+1)->Lt (aZ 5 (bM "told" 0 dF (mV 3) aE)) E δ' h':=λδ' h' n R' S D' W=>now (U' D' W ⋯ J.fl J.lf λδ2 h2 gj zs D2 J2 g=>q _ _ _ _ _ _ D2 J2 g);let tw:∀{h},q1l 0->h[l10]?=a_ (.lst (zs.map λz=>.int (V_ 0)))->(lW ε h).W { E with nx:=Lt (aZ 5 (bM "told" 0 dF (mV 3) aE)) E}:=λ{h} J cp=>Ua D1 ig ji J ⋯ cp tail;rw[aQ,fG,KR];let e0:bP (aD vEq (aD kX (F_ (mV 0) (mV 11)) (l_ 3)) (l_ 1)) ε h=.ok (decide (c%3=1)) h:=by simp(disch:=omega) [D1.e0,ig,hc]
 rw[e0,Rs.bind_ok];by_cases z:c%3=1
 ·rw[if_pos (decide_eq_true z)];let e1:bP (aD sT (mV 5) (iS aE)) ε h=.ok (decide (zs≠[])) (h++[.lst []]):=by
   let e4:mV 5 ε h=.ok (.ref l5) h:=by simp[D1.e5]
   let e3:iS aE ε h=.ok (.ref h.length) (h++[.lst []]):=by simp
   rw[uH,fN,e4,Rs.bind_ok,e3,Rs.bind_ok,ne_nil J.g5];rfl
  rw[e1,jV];let x:=Ext.app h [MO.lst []];let J2:JT (h++[.lst []]) t a d m l R M l5 zs b:=⟨J.T.ext x,J.rk,J.pm,J.si,x _ _ J.g5,λz hz=>x _ _ (J.oz z hz),J.fl,J.lf,J.ln,J.hl⟩;by_cases s:zs=[]
  ·rw[if_neg (by simp[s])];show tw J2 (x _ _ cp)
  ·rw[if_pos (by simp[s])];show Ub D1 ig ji J2 ⋯ s (x _ _ cp) tail
 ·rw[if_neg (i_ z),jV,q0a 0];show tw J cp
end
theorem S4:∀a:Fin 11,(y1S "ab c.D1~x[yz" b_ (a_ (2+(a.val:Int)))).length=2+a.val/\(y1S "ab c.D1~x[yz" b_ (a_ (2+(a.val:Int)))).cps.toList.all (λc=>decide (c<128))=true:=by decide +kernel
theorem Ug(c:Int):∃(n:Nat)(w:Str),2+c%11=(n:Int)/\2<=n/\n<=12/\y1S "ab c.D1~x[yz" b_ (a_ (n:Int))=w/\w.length=n/\Asc w:=by
 let a0:=y0J c (b:=11) ⋯;let a1:=y0k c (b:=11) ⋯;obtain⟨a,ha⟩:∃a:Nat,c%11=(a:Int):=⟨_,(y0K a0).symm⟩;let⟨h1,h2⟩:=S4 ⟨a,⋯⟩;simp only at h1 h2;refine⟨2+a,_,⋯,⋯,⋯,rfl,?_,Mv ?_⟩
 ·rw[show((2+a:Nat):Int)=2+(a:Int) by omega];show h1
 ·rw[show((2+a:Nat):Int)=2+(a:Int) by omega];show h2
theorem MD(ns:ve Int)(δ:Ev)(h:PH)(e0:q0T 0=a_ (.fl (q0w 0))):∃n h' c0 c1,q0x 0/\h'[n]?=a_ (.lst [.int c0,.int c1])/\q0F (mSl (mV 0) fD (mP (l_ 2))) (aD nR (iS (aB (l_ 5) aE)) (aD kG (l_ 2) (q1h (aB (mSl (mV 0) fD (mP (l_ 2))) aE)))) δ h=.ok (.ref n) h':=by
 let es:∀h,mSl (mV 0) fD (mP (l_ 2)) δ h=.ok (.ref h.length) (h++[.lst ((q0w 0).take 2)]):=λh=>by simp[e0];rw[L7 ⋯];rfl
 let lx:((q0w 0).take 2).length<=2:=by rw[X9];omega
 let ex:∃c0 c1,(q0w 0).take 2++X4 (2-((q0w 0).take 2).length) (.int 5)=[.int c0,.int c1]:=by
  match ns with
  |[]=>exact⟨5,5,rfl⟩
  |[a]=>exact⟨a,5,rfl⟩
  |a::b::r=>exact⟨a,b,by simp⟩
 generalize (q0w 0).take 2=xs at es lx ex;let⟨c0,c1,ex⟩:=ex;let x1:=Ext.app h [MO.lst xs];let g1:(h++[MO.lst xs])[h.length]?=a_ (.lst xs):=aM;let e1:=es h;generalize h++[MO.lst xs]=h1 at x1 g1 e1;let e2:iS (aB (l_ 5) aE) δ h1=.ok (.ref h1.length) (h1++[.lst [.int 5]]):=by simp
 let x2:=Ext.app h1 [MO.lst [.int 5]];let g2:(h1++[MO.lst [.int 5]])[h1.length]?=a_ (.lst [.int 5]):=aM;generalize h1++[MO.lst [.int 5]]=h2 at x2 g2 e2;let x3:=Ext.app h2 [MO.lst xs];let g3:(h2++[MO.lst xs])[h2.length]?=a_ (.lst xs):=aM;let e3:=es h2;generalize h2++[MO.lst xs]=h3 at x3 g3 e3;let e4:aD kG (l_ 2) (q1h (aB (mSl (mV 0) fD (mP (l_ 2))) aE)) δ h2=.ok (.int ((2-xs.length:Nat):Int)) h3:=by
  have:(2:Int)-(xs.length:Int)=((2-xs.length:Nat):Int):=⋯;rw[fN,Tx,Rs.bind_ok];let q:q1h (aB (mSl (mV 0) fD (mP (l_ 2))) aE) δ h2=.ok (.int (xs.length:Int)) h3:=by rw[Rc,KS,e3,Rs.bind_ok,mI,Rs.bind_ok,Rs.bind_ok,iD g3]
  rw[q,Rs.bind_ok];simp[this]
 let e5:=EA (n:=((2-xs.length:Nat):Int)) (x3 _ _ g2) ⋯ ⋯;rw[Z4]at e5;let x4:=Ext.app h3 [MO.lst (X4 (2-xs.length) (.int 5))];let g4:(h3++[MO.lst (X4 (2-xs.length) (.int 5))])[h3.length]?=a_ (.lst (X4 (2-xs.length) (.int 5))):=aM;generalize h3++[MO.lst (X4 (2-xs.length) (.int 5))]=h4 at x4 g4 e5;let e6:=gR (x4 _ _ (x3 _ _ (x2 _ _ g1))) g4 (by rw[Zw];omega);refine⟨_,_,c0,c1,x1.trans (x2.trans (x3.trans (x4.trans (O_ _)))),?_,by rw[fN,e1,Rs.bind_ok,fN,e2,Rs.bind_ok,e4,Rs.bind_ok,e5,Rs.bind_ok,e6]⟩;rw[<-ex];show aM
theorem ME{zs:ve ((ve St×Nat)×Nat)}(si:SI (zs.map (·.1)))(hi:i<=j)(hj:j<n)(hn:zs.length=n){f l:(ve St×Nat)×Nat}(ef:zs[i]?=a_ f)(el:zs[j]?=a_ l)(hf:M.f=f.1.1)(hl:M.l=l.1.1):X4 i (PV.int (-1))++X4 (j+1-i) (PV.int 0)++X4 (n-1-j) (PV.int 1)=zs.map λz=>.int (V_ 0):=by
 let at':∀{q:Nat}{z},zs[q]?=a_ z->(zs.map (·.1))[q]?=a_ z.1:=λ{q z} e=>by rw[XT,e];rfl
 let fl:bef M.l M.f=false:=by rw[hf,hl];show si.le hi (at' ef) (at' el)
 refine Zi λq=>?_;rw[XT];cases e:zs[q]? with
 |none=>rw[Y6]at e;refine Y6.mpr ?_;simp;omega
 |some z=>
  let hq:=(XN.mp e).1
  change _=a_ (PV.int (V_ 0))
  by_cases c1:q<i
  ·rw[XU,Yb (i_ c1),y0q,if_pos c1,RW (by rw[hf];show si.lt c1 (at' e) (at' ef))]
  ·by_cases c2:q<=j
   ·let s0:V_ 0=0:=by
     let b1:bef z.1.1 M.f=false:=by rw[hf];show si.le ⋯ (at' ef) (at' e)
     let b2:bef M.l z.1.1=false:=by rw[hl];show si.le c2 (at' e) (at' el)
     simp[sd,inB,b1,b2]
    rw[Yb (by simp;omega),XX (by simp;omega),y0q,Zw,if_pos ⋯,s0]
   ·rw[XX (by simp;omega),y0q,if_pos (by simp;omega),U7 fl (by rw[hl];show si.lt ⋯ (at' el) (at' e))]
theorem S5(hd w:Str)(hw:w.length<=12):SI (cA [] 1 hd 1 w):=⟨HH _ _ _ _ _,Mt _ _ _ _ _,λr hr=>by
 let⟨e,ex,_⟩:=lY hr;show⟨_,e,ex,rfl⟩,λr hr=>by
 let⟨_,_,q⟩:=lY hr;simp at q;omega⟩
theorem GF{v:PV}{k:Nat}(e1:∀h,me δ h=.ok v h)(e2:∀h,m2 δ h=.ok (.int (k:Int)) h)(hk:k<=1000):∃h' n,q0x 0/\h'[n]?=a_ (.lst (X4 k v))/\aD nR (iS (aB me aE)) m2 δ h=.ok (.ref n) h':=by
 let x1:=Ext.app h [MO.lst [v]];let g1:(h++[MO.lst [v]])[h.length]?=a_ (.lst [v]):=aM;let e3:iS (aB me aE) δ h=.ok (.ref h.length) (h++[.lst [v]]):=by simp[e1]
 generalize h++[MO.lst [v]]=h1 at x1 g1 e3;let e4:=EA (n:=(k:Int)) g1 ⋯ ⋯;rw[Z4]at e4;show⟨_,_,x1.trans (O_ _),aM,by rw[fN,e3,Rs.bind_ok,e2,Rs.bind_ok,e4]⟩
theorem MF(d4:q0T 4=cx (n:Int))(d6:q0T 6=cx (i:Int))(d7:q0T 7=cx (j:Int))(hi:i<=j)(hj:j<n)(hn:n<=12):∃h' n',q0x 0/\h'[n']?=a_ (.lst (X4 i (PV.int (-1))++X4 (j+1-i) (PV.int 0)++X4 (n-1-j) (PV.int 1)))/\q0F (q0F (aD nR (iS (aB (mUn wA (l_ 1)) aE)) (mV 6)) (aD nR (iS (aB (l_ 0) aE)) (aD kG (q0F (mV 7) (l_ 1)) (mV 6)))) (aD nR (iS (aB (l_ 1) aE)) (aD kG (aD kG (mV 4) (l_ 1)) (mV 7))) δ h=.ok (.ref n') h':=by
 let q1:((j:Int)+1-(i:Int))=((j+1-i:Nat):Int):=⋯;let q2:((n:Int)-1-(j:Int))=((n-1-j:Nat):Int):=⋯;let⟨h1,n1,x1,g1,e1⟩:=GF (δ:=δ) (h:=h) (v:=.int (-1)) (k:=i) (me:=mUn wA (l_ 1)) (m2:=mV 6) (λh=>by simp) (λh=>by simp[d6]) ⋯;let⟨h2,n2,x2,g2,e2⟩:=GF (δ:=δ) (h:=h1) (v:=.int 0) (k:=j+1-i) (me:=l_ 0) (m2:=aD kG (q0F (mV 7) (l_ 1)) (mV 6)) (λh=>by simp) (λh=>by simp[d6,d7,q1]) ⋯;let e3:=gR (x2 _ _ g1) g2 (by rw[Zw,Zw];omega);let x3:=Ext.app h2 [MO.lst (X4 i (PV.int (-1))++X4 (j+1-i) (PV.int 0))];let g3:(h2++[MO.lst (X4 i (PV.int (-1))++X4 (j+1-i) (PV.int 0))])[h2.length]?=a_ (.lst (X4 i (PV.int (-1))++X4 (j+1-i) (PV.int 0))):=aM;generalize h2++[MO.lst (X4 i (PV.int (-1))++X4 (j+1-i) (PV.int 0))]=h3 at e3 x3 g3;let⟨h4,n4,x4,g4,e4⟩:=GF (δ:=δ) (h:=h3) (v:=.int 1) (k:=n-1-j) (me:=l_ 1) (m2:=aD kG (aD kG (mV 4) (l_ 1)) (mV 7)) (λh=>by simp) (λh=>by simp[d4,d7,q2]) ⋯;let e5:=gR (x4 _ _ g3) g4 (by rw[X6,Zw,Zw,Zw];omega);show⟨_,_,x1.trans (x2.trans (x3.trans (x4.trans (O_ _)))),aM,by rw[fN,fN,e1,Rs.bind_ok,e2,Rs.bind_ok,e3,Rs.bind_ok,e4,Rs.bind_ok,e5]⟩
theorem P8{t d:Nat}{N:h_ 0}(T:cI h t a d m l N [])(rk:Rk N)(si:SI N)(lN:N.length<=12):∃h' n us,q0x 0/\h.length<=n/\us.map (·.1)=N/\h'[n]?=a_ (zr us)/\∀(δ:Ev)(mo:Me),mo δ h=.ok (.ref t) h->bM "told" 0 dF mo aE δ h=.ok (.ref n) h':=by let⟨v,h',e,n,us,rfl,x,b,eu,g⟩:=iC (HF T ⟨rk,by simp,λp hp=>(by cases hp)⟩ (Zd _) si.srt (λv h'=>∃n us,v=.ref n/\q0x 0/\h.length<=n/\us.map (·.1)=N/\h'[n]?=a_ (zr us)) λn h' us x b eu g o=>⟨n,us,rfl,x,b,eu,g⟩);refine⟨h',n,us,x,b,eu,g,λδ mo e0=>?_⟩;rw[iE (k:=t) (f:=dX) e0 T.tx (by rfl) (by rfl),mI,Rs.bind_ok,if_pos (by rfl),e]
theorem main(ns:ve Int)(hl:ns.length<=63):∃h,LP [.fl (q0w 0)] []=.ok (.bl true) h:=by
 let w:(LP [.fl (q0w 0)] []).W λp _=>p=.bl true:=by
  refine hW ?_;unfold LO;rw[aQ];let⟨n1,h1,c0,c1,_,g1,e1⟩:=MD ns (List.map a_ [PV.fl (q0w 0)]++X4 (16 - [PV.fl (q0w 0)].length) b_) [] rfl;rw[sE,e1,jV];simp;rfl'
  -- the hand,the text
  let i0:vIx (.ref n1) (.int 0) h1=.ok (.int c0) h1:=by rw[mJ g1];rfl
  rw[aQ];simp[i0];refine HC _ _ _ λhd _ h8 _=>now ?_;let⟨h2,e2,x2,T2,_⟩:=Ue [a_ (.fl (q0w 0)),cu n1,a_ (.str hd),b_,b_,b_,b_,b_,b_,b_,b_,b_,b_,b_,b_,b_] h1;rw[aQ,sE,e2,jV];simp;generalize h1.length=t,h1.length+1=a,h1.length+2=d,h1.length+3=m,h1.length+4=l at T2;rfl';let⟨n,w0,en,n2,oh,ew,lw,asc⟩:=Ug c0;let i0:vIx (.ref n1) (.int 0) h2=.ok (.int c0) h2:=by rw[mJ (x2 _ _ g1)];rfl
  rw[aQ];simp(disch:=omega) [i0,en];rfl'
  -- the first signs
  let p0:pl []=.tup []:=rfl;let hS:("ab c.D1~x[yz" : Str).length<=16777216:=by decide +kernel
  let⟨sn,ed⟩:=zH hd 1 (.tup [.str "write",t1,.tup [],.int 1,.str w0]) h2;let si:=S5 hd w0 ⋯;let lN:(cA [] 1 hd 1 w0).length=n:=by have:=q0Y (wM [] 1 1 hd w0);rw[XR]at this;rw[this,len_list,lw]
  let hN:∀r∈cA [] 1 hd 1 w0,r.1.length<=12:=λr hr=>by let⟨_,_,q⟩:=lY hr;simp at q;omega
  let⟨h3,eh,T3,f3⟩:=HJ T2 (by simp) (hd,1) sn (u:=[]) (s:=1) (w:=w0) (by simp) ⋯ ⋯ asc si.nd;rw[p0]at eh;rw[Zx]at T3;dsimp only at T3;generalize cA [] 1 hd 1 w0=N at T3 si lN hN;let mh:∀δ:Ev,q0T 2=a_ (.str hd)->q0T 3=cu t->q0T 4=cx (n:Int)->bM "hear" 1 fR (mV 3) (aB (bS 3 iX (aB (mV 2) (aB (l_ 1) (aB (cO (aB (mC (.str "write")) (aB (cO (aB (mC (.str "t")) (aB (l_ 1) aE))) (aB (cO aE) (aB (l_ 1) (aB (mSl (mC (.str "ab c.D1~x[yz")) fD (mP (mV 4))) aE)))))) aE)))) aE) δ h2=.ok .non h3:=λδ d2 d3 d4=>by rw[iE (k:=t) (f:=bK) (by simp[d3]) T2.tx (by rfl) (by rfl)];simp[d2,d4,hS,ew,ed,eh]
  rw[aQ,KQ,mh _ rfl rfl rfl,jV];rfl';let rk:Rk N:=⟨si.nd,λr hr=>by have:=hN r hr;omega,⋯⟩;let⟨h4,n5,us,x4,b4,ic,g5,m5⟩:=P8 T3 rk si ⋯;let T4:=T3.ext x4;rw[aQ,sE,m5 _ (mV 3) (by simp),jV];simp;rfl'
  -- from where to where
  let g1:h4[n1]?=a_ (.lst [.int c0,.int c1]):=x4 _ _ (f3 _ _ (tH (x2 _ _ g1) T2.sg.2) (x2 _ _ g1));let i1:vIx (.ref n1) (.int 1) h4=.ok (.int c1) h4:=by rw[mJ g1];rfl
  let r0:=y0J c1 (b:=(n:Int)) ⋯;let r1:=y0k c1 (b:=(n:Int)) ⋯;obtain⟨i,hi⟩:∃i:Nat,c1%(n:Int)=(i:Int):=⟨_,(y0K r0).symm⟩;let s0:=y0J (c1/13) (b:=(n:Int)-(i:Int)) ⋯;let s1:=y0k (c1/13) (b:=(n:Int)-(i:Int)) ⋯;obtain⟨j,hj⟩:∃j:Nat,(i:Int)+c1/13%((n:Int)-(i:Int))=(j:Int):=⟨_,(y0K ⋯).symm⟩;rw[aQ];simp(disch:=omega) [i1,hi];rfl';rw[aQ];simp(disch:=omega) [i1,hj];rfl';rw[aQ];simp[i1];refine HC _ _ _ λwd _ _ _=>now ?_
  -- the mark
  let lu:us.length=n:=by have:=q0Y ic;rw[XR]at this;omega
  obtain⟨zf,hf⟩:∃z,us[i]?=a_ z:=⟨_,Yd ⋯⟩;obtain⟨zl,bj⟩:∃z,us[j]?=a_ z:=⟨_,Yd ⋯⟩;let⟨Xh,WX⟩:=zH hd 2 (.tup [.str "mark",t1,pl zf.1.1,pl zl.1.1,.str wd]) h4;let⟨h5,W3,T5,f5⟩:=OZ T4 (hd,2) Xh zf.1.1 zl.1.1 wd;let Ws:∀δ:Ev,q0T 2=a_ (.str hd)->q0T 3=cu t->q0T 5=cu n5->q0T 6=cx (i:Int)->q0T 7=cx (j:Int)->q0T 8=a_ (.str wd)->bM "hear" 1 fR (mV 3) (aB (bS 3 iX (aB (mV 2) (aB (l_ 2) (aB (cO (aB (mC (.str "mark")) (aB (cO (aB (mC (.str "t")) (aB (l_ 1) aE))) (aB (F_ (F_ (mV 5) (mV 6)) (l_ 0)) (aB (F_ (F_ (mV 5) (mV 7)) (l_ 0)) (aB (mV 8) aE)))))) aE)))) aE) δ h4=.ok .non h5:=λδ d2 d3 d5 d6 d7 d8=>by rw[iE (k:=t) (f:=bK) (by simp[d3]) T4.tx (by rfl) (by rfl)];simp[d2,d5,d6,d7,d8,mY g5 hf,mY g5 bj,rF0,WX,W3]
  rw[aQ,KQ,Ws _ rfl rfl rfl rfl rfl rfl,jV];rfl';let ll:l<h4.length:=(XN.mp T4.mr.2).1;let ll3:l<h3.length:=(XN.mp T3.mr.2).1;let g5:=f5 _ _ ⋯ g5;rw[aQ];simp[mY g5 hf,mY g5 bj,rF0];rfl';obtain⟨M,hM⟩:∃M:Mrk,M=⟨(hd,2),zf.1.1,zl.1.1,wd⟩:=⟨_,rfl⟩;rw[<-hM]at T5;let Mf:M.f=zf.1.1:=by rw[hM]
  let Ml:M.l=zl.1.1:=by rw[hM]
  let Mw:M.w=wd:=by rw[hM]
  let l8:∀{q:Nat}{z:(ve St×Nat)×Nat},us[q]?=a_ z->N[q]?=a_ z.1:=λ{q z} e=>by rw[<-ic,XT,e];rfl
  let fl:bef M.l M.f=false:=by rw[Mf,Ml];show si.le ⋯ (l8 hf) (l8 bj)
  let lf:M.f.length<=500/\M.l.length<=500:=by rw[Mf,Ml];show⟨si.hl _ (Yv (l8 hf)),si.hl _ (Yv (l8 bj))⟩
  let⟨h6,n6,zs,x6,yn,J6,m6⟩:=zG T5 rk (Zd _) si fl lf (b:=4) ⋯ ⋯ hN;rw[aQ,sE,m6 _ (mV 3) (by simp),jV];rw[<-Mf,<-Ml,<-Mw];simp;rfl'
  -- the flags
  let lz:zs.length=n:=by have:=q0Y yn;rw[XR]at this;omega
  obtain⟨zf',hf'⟩:∃z,zs[i]?=a_ z:=⟨_,Yd ⋯⟩;obtain⟨zl',cq⟩:∃z,zs[j]?=a_ z:=⟨_,Yd ⋯⟩;let y8:∀{q:Nat}{z:(ve St×Nat)×Nat},zs[q]?=a_ z->N[q]?=a_ z.1:=λ{q z} e=>by rw[<-yn,XT,e];rfl
  let ef:=l8 hf;rw[y8 hf']at ef;let el:=l8 bj;rw[y8 cq]at el;let eF:=ME (M:=M) J6.si (i:=i) (j:=j) (n:=n) ⋯ ⋯ lz hf' cq (by rw[Mf,Yp ef]) (by rw[Ml,Yp el]);rw[aQ,sE];obtain⟨δ,hδ⟩:∃δ:Ev,δ=[a_ (.fl (q0w 0)),cu n1,a_ (.str hd),cu t,cx (n:Int),cu n6,cx (i:Int),cx (j:Int),a_ (.str M.w),a_ (.tup [pl M.f,pl M.l,.str M.w]),b_,b_,b_,b_,b_,b_]:=⟨_,rfl⟩;rw[<-hδ];let⟨h7,n7,x7,g7,e7⟩:=MF (δ:=δ) (h:=h6) (i:=i) (j:=j) (n:=n) (by rw[hδ];rfl) (by rw[hδ];rfl) (by rw[hδ];rfl) ⋯ ⋯ oh;rw[eF]at g7;rw[e7,jV];let D:Dv (δ.set 10 (cu n7)) ns hd t M n6 n7:=by rw[hδ];show⟨rfl,rfl,rfl,rfl,rfl,rfl,rfl⟩
  let k8:aY (δ.set 10 (cu n7)) 8=a_ (.str M.w):=by rw[hδ];rfl
  generalize δ.set 10 (cu n7)=ε at D k8;rfl';let J7:JT h7 t a d m l N M n6 zs 4:=⟨J6.T.ext x7,J6.rk,J6.pm,J6.si,x7 _ _ J6.g5,λz hz=>x7 _ _ (J6.oz z hz),J6.fl,J6.lf,J6.ln,J6.hl⟩;let⟨h8,n8,x8,g8,e8⟩:=My (δ:=ε) (h:=h7) (hA:=h7) (M:=M) (v:=.non) (me:=mV 5) (elt:=bS 4 pA (aB (mV 0) (aB (mC .non) (aB (mV 1) (aB (F_ (mV 2) (l_ 0)) aE))))) (js:=[b_,a_ 8,a_ 9]) ⋯ (by simp[D.e5]) (Ext.refl _) J7.g5 ⋯ (λz hz=>⟨by have:=J7.hl z hz;omega,J7.oz z hz⟩) (λz _=>.inl rfl) λz=>⟨[a_ (rF tF z),a_ (.str M.w),a_ (.tup [pl M.f,pl M.l,.str M.w])],by simp[jU,k8,D.e9],λh2=>by simp⟩;let pF:(zs.map λz=>PV.int (V_ 0)).all (PV.pl 39)=true:=by rw[y16];show Yy.mpr λy _=>rfl
  let q8:bP (aD vNe (cS [b_,a_ 8,a_ 9] (bZ (mV 5)) (gN 0) iU (bS 4 pA (aB (mV 0) (aB (mC .non) (aB (mV 1) (aB (F_ (mV 2) (l_ 0)) aE)))))) (mV 10)) ε h7=.ok false h8:=by
   let e10:mV 10 ε h8=.ok (.ref n7) h8:=by simp[D.e10]
   rw[uH,fN,e8,Rs.bind_ok,e10,Rs.bind_ok,Oe g8 (x8 _ _ g7) pF pF,decide_eq_true rfl];rfl
  rw[aQ,fG,q8];simp;rfl';let J8:JT h8 t a d m l N M n6 zs 4:=⟨J7.T.ext x8,J7.rk,J7.pm,J7.si,x8 _ _ J7.g5,λz hz=>x8 _ _ (J7.oz z hz),J7.fl,J7.lf,J7.ln,J7.hl⟩;let cp:=x8 _ _ g7
  -- the loop
  rw[aQ];generalize ej:(if(22:Int)<ns.length then 22 else(ns.length:Int))=jj;let hjj:jj<=22/\jj<=ns.length/\0<=jj:=by rw[<-ej];split <;> omega
  refine KW (lo:=2) (j:=jj) (λq δ h'=>q<=20/\∃R l5 l10 zs,q0E 0/\JT h' t a d m l R M l5 zs (4+q)/\h'[l10]?=a_ (.lst (zs.map λz=>.int (V_ 0)))) ?_ ⋯ ⟨⋯,N,n6,n7,zs,D,J8,cp⟩ ?_ ?_
  ·simp[D.e0,ej]
  ·rintro q δ h' hq ⟨hq2,R,l5,l10,zs,D,J,g⟩;obtain⟨c,hc⟩:∃c,atI (q0w 0) (2+(q:Int))=cx c:=⟨ns[2+q]'⋯,by rw[show(2+(q:Int))=((2+q:Nat):Int) by simp];show vW (by rw[XT,Yd ⋯];rfl)⟩
   show P7 (D.set ⋯) J ⋯ g (vB (by rw[D.ln];omega)) hc λδ' h2 R' gj jk zs D2 J2 g2=>⟨⋯,R',gj,jk,zs,D2,J2,g2⟩
  ·rintro δ h' _;rfl';simp
 let⟨p,h',e,rfl⟩:=iC w;show⟨h',e⟩
def top(i:Nat):u_:=PySem.Challenge.pw_copymeet_k44_written_into_a_mark.main.body.getD i (.Pass ⟨0,0,0,0⟩)
abbrev bsL:ve Str:=["range","len","zip","sorted","list","any","set","enumerate","min","tuple"]
abbrev cC(w:s_)(K:XQ)(cl:Str->v_ o_):MC:=⟨K,cl,bsL,λ_ _ _=>False,w⟩
abbrev clF(cW cP fK:o_):Str->v_ o_:=λz=>if z=("Marks" : Str) then a_ cW else if z=("Signs" : Str) then a_ cP else if z=("Text" : Str) then a_ fK else b_
def FnX(K:XQ)(f:o_)(nm qual:Str)(st:u_):Prop:=∃oc kV doc pm cdv ct od an osl,K.lookup f=a_ ⟨oc,od,.func (ZX nm qual (hZ st) (fL st) (aL st) .none kV doc pm an cdv ct),osl⟩/\y1Q K cdv qual=true/\ZH K (.ref f)=true
def MtX(K:XQ)(A:o_)(nm qual:Str)(st:u_):Prop:=∃f,YI K (.ref A) nm=a_ (cu f)/\PySem.W.isFn K (.ref f)=true/\FnX K f nm qual st
def DfX(K:XQ)(nm:Str)(st:u_):Prop:=∃f,y2a K Zt nm=a_ (cu f)/\FnX K f nm nm st
def BdX(nm qual:Str)(st:u_)(ps:ve Str):Prop:=∀(kV doc pm:n_)(an:v_ o_)(cdv ct:n_)(us:ve n_),us.length=ps.length->bindArgs (ZX nm qual (hZ st) (fL st) (aL st) .none kV doc pm an cdv ct) ⟨us,[]⟩=pure (ps.zip us)
abbrev tMt(P:td)(w:s_)(K:XQ)(mg:ke 0)(base:r_)(cl:Str->v_ o_)(j:Nat)(A:o_)(nm:Str)(ps:ve Str)(n:Nat)(m:Fn):Prop:=∃g fd,Cc K A nm g/\m_ j g fd ps (spM (D_ 0) n m)/\Binds K fd ps []
abbrev tMk(P:td)(w:s_)(K:XQ)(mg:ke 0)(base:r_)(cl:Str->v_ o_)(j:Nat)(A:o_)(nm:Str)(ps:ve Str)(n:Nat)(m:Fn):Prop:=∃g fd,Cc K A nm g/\m_ j g fd ps (spM (D_ 0) n m)/\Binds K fd ps []/\Mk K A g
abbrev Dc:u_:=top 27
theorem pB:aX ["_law_number","_law_some","_law_word","_law_rest","_law_k"] ["_law_number"] (aL Dc):=gV 0
abbrev iY:u_:=inClass (top 22) 0
theorem vC:aX ["self"] ["self"] (aL iY):=gV 0
abbrev iZ:u_:=inClass (top 20) 0
theorem vD:aX ["self"] ["self"] (aL iZ):=gV 0
abbrev jY:u_:=inClass (top 24) 0
theorem wQ:aX ["self"] ["self"] (aL jY):=gV 0
abbrev pC:u_:=top 13
theorem jO:aX ["spot","name","under","side","hand","n"] ["spot","name"] (aL pC):=gV 0
abbrev mO:u_:=top 14
theorem bO:aX ["deed","name","seen","act","word","thing","under","side","signs","hand","n","places","k"] ["deed"] (aL mO):=gV 0
abbrev mZ:u_:=inClass (top 22) 1
theorem iF:aX ["self","deed","signs","place","sign"] ["self","deed"] (aL mZ):=gV 0
abbrev rQ:u_:=top 9
theorem GG:aX ["place"] ["place"] (aL rQ):=gV 0
abbrev pD:u_:=top 10
theorem F8:aX ["row"] ["row"] (aL pD):=gV 0
abbrev qQ:u_:=inClass (top 22) 2
theorem pE:aX ["self","places","gone","place"] ["self","places"] (aL qQ):=gV 0
abbrev pG:u_:=inClass (top 20) 1
theorem jG:aX ["self","deed","name","seen","act"] ["self","deed"] (aL pG):=gV 0
abbrev pV:ve Str:=["mark"]
theorem wR:(pV).Nodup:=by decide +kernel
abbrev qR:u_:=inClass (top 24) 1
theorem vE:aX ["self","deed","word"] ["self","deed"] (aL qR):=gV 0
abbrev pH:u_:=top 17
theorem qS:aX ["places","numbers","place"] ["places"] (aL pH):=gV 0
abbrev pI:u_:=top 16
theorem F9:aX ["mark"] ["mark"] (aL pI):=gV 0
abbrev pJ:u_:=inClass (top 20) 5
theorem gH:aX ["self","found","mark","first","last"] ["self"] (aL pJ):=gV 0
abbrev zI:u_:=top 18
theorem Fb:aX ["spans","number","inside"] ["spans","number"] (aL zI):=gV 0
abbrev AK:ve Str:=["first","last","number"]
theorem yF:(AK).Nodup:=by decide +kernel
abbrev fY:u_:=inClass (top 20) 4
theorem bL:aX ["self","places","numbers","marks","mark","words","place","number"] ["self","places"] (aL fY):=gV 0
abbrev iG:ve Str:=["first","last","numbers"]
theorem gW:(iG).Nodup:=by decide +kernel
abbrev iH:ve Str:=["word","spans","number"]
theorem gX:(iH).Nodup:=by decide +kernel
abbrev pK:u_:=inClass (top 22) 4
theorem Bc:aX ["self"] ["self"] (aL pK):=gV 0
abbrev nA:u_:=inClass (top 24) 3
theorem AL:aX ["self"] ["self"] (aL nA):=gV 0
abbrev oA:ve Str:=["place","sign"]
theorem mQ:(oA).Nodup:=by decide +kernel
abbrev qT:u_:=inClass (top 24) 4
theorem vF:aX ["self","words"] ["self"] (aL qT):=gV 0
abbrev qU:ve Str:=["k","row","words"]
theorem pX:(qU).Nodup:=by decide +kernel
abbrev zJ:u_:=top 26
theorem Fc:aX ["_law_cell","_law_k","_law_number"] ["_law_cell","_law_k"] (aL zJ):=gV 0
abbrev Dd:u_:=top 28
theorem De:aX ["_law_hand_here","_law_n","_law_act","_law_seen"] ["_law_hand_here","_law_n","_law_act"] (aL Dd):=gV 0
abbrev vG:u_:=top 11
theorem Jw:aX ["one","other"] ["one","other"] (aL vG):=gV 0
abbrev Df:u_:=top 31
theorem pL:aX ["_law_row","_law_due_here","_law_word","_law_first","_law_place","_law_sign","_law_words","_law_side_here"] ["_law_row","_law_due_here","_law_word","_law_first"] (aL Df):=gV 0
abbrev HP:u_:=top 30
theorem AM:aX ["_law_flags","_law_at","_law_rows","_law_ends","_law_ahead_of","_law_behind"] ["_law_flags","_law_at","_law_rows","_law_ends"] (aL HP):=gV 0
abbrev rR:u_:=top 32
theorem lZ:aX ["_law_text","_law_rows","_law_flags","_law_deed_here","_law_at","_law_state","_law_due_here","_law_found","_law_many","_law_sides"] ["_law_text","_law_rows","_law_flags","_law_deed_here","_law_at","_law_state"] (aL rR):=gV 0
abbrev vH:ve Str:=["_law_row"]
theorem Bd:(vH).Nodup:=by decide +kernel
abbrev vI:ve Str:=["_law_row","_law_due_here","_law_state"]
theorem Be:(vI).Nodup:=by decide +kernel
abbrev HQ:u_:=top 12
theorem S6:aX ["left","right"] ["left","right"] (aL HQ):=gV 0
abbrev zK:u_:=top 29
theorem jP:aX ["_law_rows","_law_at","_law_number","_law_left","_law_right","_law_under","_law_side_here","_law_signs"] ["_law_rows","_law_at","_law_number"] (aL zK):=gV 0
abbrev vJ:u_:=top 33
theorem dI:aX ["_law_script","_law_cells","_law_hand_here","_law_text","_law_size","_law_rows","_law_start","_law_stop","_law_word","_law_state","_law_flags","_law_k","_law_number","_law_at","_law_gone","_law_deed_here"] ["_law_script"] (aL vJ):=gV 0
abbrev Fd:ve Str:=["_law_row","_law_word","_law_state"]
theorem Jx:(Fd).Nodup:=by decide +kernel
abbrev Fe:ve Str:=["_law_row"]
theorem Jy:(Fe).Nodup:=by decide +kernel
theorem AN:("range" : Str)∈bsL:=(.head _)
theorem gP:("len" : Str)∈bsL:=(.tail _ (.head _))
theorem rS:("sorted" : Str)∈bsL:=(.tail _ (.tail _ (.tail _ (.head _))))
theorem HS:("list" : Str)∈bsL:=(.tail _ (.tail _ (.tail _ (.tail _ (.head _)))))
section
variable{P:td}{w:s_}{K:XQ}{mg:ke 0}{base:r_}{cl:Str->v_ o_}
variable(P w K mg base cl)
abbrev HU:Prop:=∃a fd,q1o "_law_hand" Dc a fd ["_law_number"]/\m_ 1 a fd ["_law_number"] (spM (D_ 0) 1 AD)
abbrev yG:Prop:=∃a fd,q1o "place_of" pC a fd ["spot","name"]/\m_ 1 a fd ["spot","name"] (spM (D_ 0) 2 lQ)
abbrev vK:Prop:=∃a fd,q1o "places_of" mO a fd ["deed"]/\m_ 2 a fd ["deed"] (spM (D_ 0) 1 jL)
abbrev pM:Prop:=∃a fd,q1o "rank_of" rQ a fd ["place"]/\m_ 1 a fd ["place"] (spM (D_ 0) 1 eM)
abbrev qV:Prop:=∃a fd,q1o "row_rank" pD a fd ["row"]/\m_ 2 a fd ["row"] (spM (D_ 0) 1 fJ)
abbrev yH:Prop:=∃a fd,q1o "numbered" pH a fd ["places"]/\m_ 4 a fd ["places"] (spM (D_ 0) 1 oX)
abbrev qW:Prop:=∃a fd,q1o "spans_of" pI a fd ["mark"]/\m_ 1 a fd ["mark"] (spM (D_ 0) 1 gO)
abbrev Ff:Prop:=∃a fd,q1o "bears" zI a fd ["spans","number"]/\m_ 1 a fd ["spans","number"] (spM (D_ 0) 2 rO)
abbrev Fg:Prop:=∃a fd,q1o "_law_mixed" zJ a fd ["_law_cell","_law_k"]/\m_ 1 a fd ["_law_cell","_law_k"] (spM (D_ 0) 2 mN)
abbrev HV:Prop:=∃a fd,q1o "_law_deed" Dd a fd ["_law_hand_here","_law_n","_law_act"]/\m_ 1 a fd ["_law_hand_here","_law_n","_law_act"] (spM (D_ 0) 3 iX)
abbrev wU:Prop:=∃a fd,q1o "before" vG a fd ["one","other"]/\m_ 2 a fd ["one","other"] (spM (D_ 0) 2 nT)
abbrev Dg:Prop:=∃a fd,q1o "_law_side" Df a fd ["_law_row","_law_due_here","_law_word","_law_first"]/\m_ 3 a fd ["_law_row","_law_due_here","_law_word","_law_first"] (spM (D_ 0) 4 pA)
abbrev MG:Prop:=∃a fd,q1o "_law_due" HP a fd ["_law_flags","_law_at","_law_rows","_law_ends"]/\m_ 1 a fd ["_law_flags","_law_at","_law_rows","_law_ends"] (spM (D_ 0) 4 Hv)
abbrev AO:Prop:=∃a fd,q1o "_law_goes_on" rR a fd ["_law_text","_law_rows","_law_flags","_law_deed_here","_law_at","_law_state"]/\m_ 8 a fd ["_law_text","_law_rows","_law_flags","_law_deed_here","_law_at","_law_state"] (spM (D_ 0) 6 nW)
abbrev MJ:Prop:=∃a fd,q1o "gap" HQ a fd ["left","right"]/\m_ 3 a fd ["left","right"] (spM (D_ 0) 2 C5)
abbrev Fh:Prop:=∃a fd,q1o "_law_write" zK a fd ["_law_rows","_law_at","_law_number"]/\m_ 4 a fd ["_law_rows","_law_at","_law_number"] (spM (D_ 0) 3 uV)
variable{P w K mg base cl}
theorem Dh{j:Nat}{A:o_}{nm qual:Str}{st:u_}{ps:ve Str}{sp:Sp}(x:MtX K A nm qual st)(b:BdX nm qual st ps)(h:∀{f:o_}{fd:YK},Fun K nm qual st f fd->m_ j f fd ps sp):∃g fd,Cc K A nm g/\m_ j g fd ps sp/\Binds K fd ps []:=by let⟨f,a,i,_,_,_,_,_,_,_,_,_,l,c,k⟩:=x;let F:=zS (st:=st) l c k;show⟨f,_,⟨a,i,k⟩,h F,F.binds (ps:=ps) b⟩
theorem S7{j:Nat}{A:o_}{qual:Str}{st:u_}{ps:ve Str}{sp:Sp}(x:MtX K A "__init__" qual st)(mk:y1t K A=true)(kc:ZH K (.ref A)=true)(b:BdX "__init__" qual st ps)(h:∀{f:o_}{fd:YK},Fun K "__init__" qual st f fd->m_ j f fd ps sp):∃g fd,Cc K A "__init__" g/\m_ j g fd ps sp/\Binds K fd ps []/\Mk K A g:=by let⟨f,a,i,_,_,_,_,_,_,_,_,_,l,c,k⟩:=x;let F:=zS (st:=st) l c k;show⟨f,_,⟨a,i,k⟩,h F,F.binds (ps:=ps) b,mk,a,i,kc⟩
theorem rW{j:Nat}{nm:Str}{st:u_}{ps:ve Str}{sp:Sp}{hh:r_}(X:K.In hh)(G:hh.Ns Zt mg)(x:DfX K nm st)(b:BdX nm nm st ps)(h:∀{f:o_}{fd:YK},Fun K nm nm st f fd->m_ j f fd ps sp):∃a fd,q1o nm st a fd ps/\m_ j a fd ps sp:=by let⟨f,a,_,_,_,_,_,_,_,_,_,l,c,k⟩:=x;let D:=Def.mk' X G a l c k b;show⟨f,_,D,h D.fn⟩
theorem P9{f:o_}{fd:YK}(hbn:∀x∈bsL,mg x=b_)(F:Fun K "_law_hand" "_law_hand" Dc f fd):m_ 1 f fd ["_law_number"] (spM (D_ 0) 1 AD):=
 dA (C:=D_ 0) (k:=0) (N:=["_law_number","_law_some","_law_word","_law_rest","_law_k"]) (body:=Gz) (λ_ _ _ h=>h) hbn F pB λcdv A outer s H E=>
 (aF (bF (i:=1) pB.nd jJ)
 (aF (bF (i:=2) pB.nd jJ)
 (aF (bF (i:=3) pB.nd (aP A9 (aA 0) aG))
 (aF (sD (R7 (aC (aP bN aG (aP mF (aA 0) aG)) aH) (hb:=AN)) (aT pB.nd)
  (aF (bF (i:=2) pB.nd (aP bN (aA 2) (bW (aA 1) (aP mF (aA 3) aG))))
  (aK (bF (i:=3) pB.nd (aP bN (aP A9 (aA 3) aG) (aP Hh aG (aA 4)))))))
 (aK (cD (aA 2)))))))
theorem vL{f:o_}{fd:YK}(hbn:∀x∈bsL,mg x=b_)(F:Fun K "__init__" "Signs.__init__" iY f fd)(fT:mE (D_ 0) "kept"):m_ 1 f fd ["self"] (spM (D_ 0) 1 bT):=
 dA (C:=D_ 0) (k:=0) (N:=["self"]) (body:=iV) (λ_ _ _ h=>h) hbn F vC λcdv A outer s H E=>
 (aK (Hs fT CB (aA 0)))
theorem vM{f:o_}{fd:YK}(hbn:∀x∈bsL,mg x=b_)(F:Fun K "__init__" "Marks.__init__" iZ f fd)(bV:mE (D_ 0) "standing"):m_ 1 f fd ["self"] (spM (D_ 0) 1 bU):=
 dA (C:=D_ 0) (k:=0) (N:=["self"]) (body:=iW) (λ_ _ _ h=>h) hbn F vD λcdv A outer s H E=>
 (aK (Hs bV (mG aH) (aA 0)))
theorem wV{f:o_}{fd:YK}(hbn:∀x∈bsL,mg x=b_)(F:Fun K "__init__" "Text.__init__" jY f fd){cW:o_}(eJ:cl "Marks" = a_ cW)(cT:Cls K cW){cP:o_}(dQ:cl "Signs" = a_ cP)(cM:Cls K cP)(jA:tMk P w K mg base cl 1 cW "__init__" ["self"] 1 bU)(jB:tMk P w K mg base cl 1 cP "__init__" ["self"] 1 bT)(AQ:mg "Marks" = cu cW)(AR:mg "Signs" = cu cP)(gI:mE (D_ 0) "marks")(dR:mE (D_ 0) "signs"):m_ 3 f fd ["self"] (spM (D_ 0) 1 cH):=
 let ⟨_,_,HW,wW,wX,MK⟩:=jA;let ⟨_,_,HX,wY,wZ,ML⟩:=jB;dA (C:=D_ 0) (k:=2) (N:=["self"]) (body:=jW) (λ_ _ _ h=>h) hbn F wQ λcdv A outer s H E=>
 (aF (Hs dR (CK dQ ML wY AR wZ) (aA 0))
 (aK (Hs gI (CK eJ MK wW AQ wX) (aA 0))))
theorem Fi{f:o_}{fd:YK}(hbn:∀x∈bsL,mg x=b_)(F:Fun K "place_of" "place_of" pC f fd):m_ 1 f fd ["spot","name"] (spM (D_ 0) 2 lQ):=
 dA (C:=D_ 0) (k:=0) (N:=["spot","name","under","side","hand","n"]) (body:=sY) (λ_ _ _ h=>h) hbn F jO λcdv A outer s H E=>
 (aF (xW (aA 0) (lI (bI (aT jO.nd) (bI (aT jO.nd) lH))))
 (aF (xW (aA 1) (lI (bI (aT jO.nd) (bI (aT jO.nd) lH))))
 (aK (cD (aP bN (aA 2) (cL (aC (cL (aC (aA 3) (aC (aA 4) (aC (aA 5) (aC aG aH))))) aH)))))))
theorem Di{f:o_}{fd:YK}(hbn:∀x∈bsL,mg x=b_)(F:Fun K "places_of" "places_of" mO f fd)(tK:yG P w K mg base cl):m_ 2 f fd ["deed"] (spM (D_ 0) 1 jL):=
 let ⟨_,_,GH,GI⟩:=tK;dA (C:=D_ 0) (k:=1) (N:=["deed","name","seen","act","word","thing","under","side","signs","hand","n","places","k"]) (body:=qL) (λ_ _ _ h=>h) hbn F bO λcdv A outer s H E=>
 (aF (xW (aA 0) (lI (bI (aT bO.nd) (bI (aT bO.nd) (bI (aT bO.nd) lH)))))
 (aF (xW (aA 3) (lI (bI (aT bO.nd) (bI (aT bO.nd) (bI (aT bO.nd) (bI (aT bO.nd) (bI (aT bO.nd) lH)))))))
 (aF (xW (aA 1) (lI (bI (aT bO.nd) (bI (aT bO.nd) lH))))
 (aF (bF (i:=11) bO.nd (mG (aC (s_call GH GI (aC (cL (aC (aA 6) (aC (aA 7) aH))) (aC (aA 1) aH))) aH)))
 (aF (sD (KL (aC aG (aC (cY kZ PyProof.Rows.Boot.«len» (aC (aA 8) aH) (hb:=gP)) aH)) (hb:=AN)) (aT bO.nd)
  (aK (mH (KN y0u y0l y0m qH (aA 11) (aC (aP bN (bW (aA 11) (aP sC (aA 12) aG)) (cL (aC (cL (aC aG (aC (aA 9) (aC (aA 10) (aC (aA 12) aH))))) aH))) aH)))))
 (aK (cD (aA 11))))))))
theorem AS{f:o_}{fd:YK}(hbn:∀x∈bsL,mg x=b_)(F:Fun K "write" "Signs.write" mZ f fd)(qX:vK P w K mg base cl)(fT:mE (D_ 0) "kept"):m_ 3 f fd ["self","deed"] (spM (D_ 0) 2 eK):=
 let ⟨_,_,Fj,Fk⟩:=qX;dA (C:=D_ 0) (k:=2) (N:=["self","deed","signs","place","sign"]) (body:=mU) (λ_ _ _ h=>h) hbn F iF λcdv A outer s H E=>
 (aF (bF (i:=2) iF.nd (bW (bW (aA 1) aG) aG))
 (aK (sD (U2 (aC (s_call Fj Fk (aC (aA 1) aH)) (aC (aA 2) aH)) (hb:=(.tail _ (.tail _ (.head _))))) (lI (bI (aT iF.nd) (bI (aT iF.nd) lH)))
  (aK (Gm (aA 4) (lM fT (aA 0)) (aA 3))))))
theorem GJ{f:o_}{fd:YK}(hbn:∀x∈bsL,mg x=b_)(F:Fun K "rank_of" "rank_of" rQ f fd):m_ 1 f fd ["place"] (spM (D_ 0) 1 eM):=
 dA (C:=D_ 0) (k:=0) (N:=["place"]) (body:=wH) (λ_ _ _ h=>h) hbn F GG λcdv A outer s H E=>
 (aK (cD (aP bN (aA 0) (cL (aC (cL (aC aG aH)) aH)))))
theorem Fm{f:o_}{fd:YK}(hbn:∀x∈bsL,mg x=b_)(F:Fun K "row_rank" "row_rank" pD f fd)(fU:pM P w K mg base cl):m_ 2 f fd ["row"] (spM (D_ 0) 1 fJ):=
 let ⟨_,_,kM,kN⟩:=fU;dA (C:=D_ 0) (k:=1) (N:=["row"]) (body:=sZ) (λ_ _ _ h=>h) hbn F F8 λcdv A outer s H E=>
 (aK (cD (s_call kM kN (aC (bW (aA 0) aG) aH))))
theorem Dj{f:o_}{fd:YK}(hbn:∀x∈bsL,mg x=b_)(F:Fun K "cut" "Signs.cut" qQ f fd)(jC:qV P w K mg base cl)(fT:mE (D_ 0) "kept"):m_ 5 f fd ["self","places"] (spM (D_ 0) 2 gU):=
 let ⟨_,_,tL,tM⟩:=jC;dA (C:=D_ 0) (k:=4) (N:=["self","places","gone","place"]) (body:=qM) (λ_ _ _ h=>h) hbn F pE λcdv A outer s H E=>
 (aF (bF (i:=2) pE.nd (mG aH))
 (aF (sD (lJ (aA 1)) (aT pE.nd)
  (aK (iT (cK PP (aA 3) (lM fT (aA 0)))
   (aK (mH (KN y0u y0l y0m qH (aA 2) (aC (cL (aC (aA 3) (aC (Rp PySem.F.plainAttrs_dict PySem.F.slot_dict_pop PySem.F.type_dict_pop RA (lM fT (aA 0)) (aC (aA 3) aH)) aH))) aH))))
   dO)))
 (aK (cD (AA tL tM (aA 2) (hb:=rS))))))
theorem Bf{f:o_}{fd:YK}(hbn:∀x∈bsL,mg x=b_)(F:Fun K "mark" "Marks.mark" pG f fd)(bV:mE (D_ 0) "standing"):m_ 1 f fd ["self","deed"] (spM (D_ 0) 2 fP):=
 dA (C:=D_ 0) (k:=0) (N:=["self","deed","name","seen","act"]) (body:=oW) (λ_ _ _ h=>h) hbn F jG λcdv A outer s H E=>
 (aF (xW (aA 1) (lI (bI (aT jG.nd) (bI (aT jG.nd) (bI (aT jG.nd) lH)))))
 (aK (iT (cK L9 (aA 2) (qG (js:=[b_]) (N:=pV) rfl rfl (by rfl) (lJ (lM bV (aA 0))) (λ_ _ _ _=>(aT wR)) (λ_ _ _ _=>oQ) (λ_ _ _ _=>(bW (aA 0) aG))))
  (aK (mH (KN y0u y0l y0m qH (lM bV (aA 0)) (aC (cL (aC (aA 2) (aC (bW (aA 4) aG) (aC (bW (aA 4) aG) (aC (bW (aA 4) aG) (aC (cL aH) aH)))))) aH))))
  dO)))
theorem Dk{f:o_}{fd:YK}(hbn:∀x∈bsL,mg x=b_)(F:Fun K "hear" "Text.hear" qR f fd){cW:o_}(eJ:cl "Marks" = a_ cW)(cT:Cls K cW){cP:o_}(dQ:cl "Signs" = a_ cP)(cM:Cls K cP)(pN:q0f 1 cW "mark" ["self","deed"] 2 fP)(qY:q0f 5 cP "cut" ["self","places"] 2 gU)(nB:q0f 3 cP "write" ["self","deed"] 2 eK)(gI:mE (D_ 0) "marks")(dR:mE (D_ 0) "signs"):m_ 6 f fd ["self","deed"] (spM (D_ 0) 2 bK):=
 let ⟨_,_,Bg,Dl,Dm⟩:=pN;let ⟨_,_,Dn,Fo,Fp⟩:=qY;let ⟨_,_,AU,Bh,Bi⟩:=nB;dA (C:=D_ 0) (k:=5) (N:=["self","deed","word"]) (body:=jM) (λ_ _ _ h=>h) hbn F vE λcdv A outer s H E=>
 (aF (bF (i:=2) vE.nd (bW (bW (aA 1) aG) aG))
 (aK (iT (cK yO (aA 2) jJ)
  (aK (mH (oT (tb:=AE) (dB dQ cM AU nofun Bh Bi eN) (lM dR (aA 0)) (aC (aA 1) aH))))
  (aK (iT (cK yO (aA 2) jJ)
   (aK (mH (oT (tb:=GA) (dB dQ cM Dn nofun Fo Fp eN) (lM dR (aA 0)) (aC (bW (bW (aA 1) aG) aG) aH))))
   (aK (iT (cK yO (aA 2) jJ)
    (aK (mH (oT (tb:=CT) (dB eJ cT Bg nofun Dl Dm eN) (lM gI (aA 0)) (aC (aA 1) aH))))
    (aK (iT (cK yO (aA 2) jJ)
     (aK (mH (oT (tb:=EV) eN (lM gI (aA 0)) (aC (aA 1) aH))))
     dO)))))))))
theorem Fq{f:o_}{fd:YK}(hbn:∀x∈bsL,mg x=b_)(F:Fun K "numbered" "numbered" pH f fd)(fU:pM P w K mg base cl):m_ 4 f fd ["places"] (spM (D_ 0) 1 oX):=
 let ⟨_,_,kM,kN⟩:=fU;dA (C:=D_ 0) (k:=3) (N:=["places","numbers","place"]) (body:=tB) (λ_ _ _ h=>h) hbn F qS λcdv A outer s H E=>
 (aF (bF (i:=1) qS.nd CB)
 (aF (sD (lJ (AA kM kN (aA 0) (hb:=rS))) (aT qS.nd)
  (aK (mH (Rp PySem.F.plainAttrs_dict y1s PySem.F.type_dict_setdefault CJ (aA 1) (aC (aA 2) (aC (cY Rw PyProof.Rows.Boot.«len» (aC (aA 1) aH) (hb:=gP)) aH))))))
 (aK (cD (aA 1)))))
theorem Fs{f:o_}{fd:YK}(hbn:∀x∈bsL,mg x=b_)(F:Fun K "spans_of" "spans_of" pI f fd):m_ 1 f fd ["mark"] (spM (D_ 0) 1 gO):=
 dA (C:=D_ 0) (k:=0) (N:=["mark"]) (body:=tE) (λ_ _ _ h=>h) hbn F F9 λcdv A outer s H E=>
 (aK (cD (aP bN (mG (aC (cL (aC (bW (aA 0) aG) (aC (bW (aA 0) aG) aH))) aH)) (Ah EB PyProof.Rows.Boot.«list» (aC (bW (aA 0) aG) aH) (hb:=HS)))))
theorem Bj{f:o_}{fd:YK}(hbn:∀x∈bsL,mg x=b_)(F:Fun K "ends" "Marks.ends" pJ f fd)(jD:qW P w K mg base cl)(bV:mE (D_ 0) "standing"):m_ 2 f fd ["self"] (spM (D_ 0) 1 fQ):=
 let ⟨_,_,tN,tO⟩:=jD;dA (C:=D_ 0) (k:=1) (N:=["self","found","mark","first","last"]) (body:=oY) (λ_ _ _ h=>h) hbn F gH λcdv A outer s H E=>
 (aF (bF (i:=1) gH.nd CB)
 (aF (sD (lJ (lM bV (aA 0))) (aT gH.nd)
  (aK (sD (lJ (s_call tN tO (aC (aA 2) aH))) (lI (bI (aT gH.nd) (bI (aT gH.nd) lH)))
   (aF (Gm IR (aA 1) (aA 3))
   (aK (Gm IR (aA 1) (aA 4)))))))
 (aK (cD (Ah EB PyProof.Rows.Boot.«list» (aC (aA 1) aH) (hb:=HS))))))
theorem MM{f:o_}{fd:YK}(hbn:∀x∈bsL,mg x=b_)(F:Fun K "bears" "bears" zI f fd):m_ 1 f fd ["spans","number"] (spM (D_ 0) 2 rO):=
 dA (C:=D_ 0) (k:=0) (N:=["spans","number","inside"]) (body:=CU) (λ_ _ _ h=>h) hbn F Fb λcdv A outer s H E=>
 (aF (BQ (i:=2) Fb.nd rfl rfl (js:=[b_,b_,a_ 1]) (N:=AK) rfl rfl (by rfl) (lJ (aA 0)) (λ_ _ _ _=>(lI (bI (aT yF) (bI (aT yF) lH)))) (λ_ _ _ _=>oQ) (λ_ _ _ _=>(Tn Ti Ti (aA 0) (aA 2) (aA 1))))
 (aK (cD (Tq (bW (aA 2) aG) (Tp (Tr (cY TU PyProof.Rows.Boot.«any» (aC (oP (aA 2) (cR aG) gM) aH) (hb:=(.tail _ (.tail _ (.tail _ (.tail _ (.tail _ (.head _))))))))))))))
theorem qZ{f:o_}{fd:YK}(hbn:∀x∈bsL,mg x=b_)(F:Fun K "words_along" "Marks.words_along" fY f fd)(tP:yH P w K mg base cl)(jD:qW P w K mg base cl)(Do:Ff P w K mg base cl){cW:o_}(eJ:cl "Marks" = a_ cW)(cT:Cls K cW)(pO:q0f 2 cW "ends" ["self"] 1 fQ)(bV:mE (D_ 0) "standing"):m_ 5 f fd ["self","places"] (spM (D_ 0) 2 bQ):=
 let ⟨_,_,GK,GL⟩:=tP;let ⟨_,_,tN,tO⟩:=jD;let ⟨_,_,P',Pa⟩:=Do;let ⟨_,_,Bk,Dp,Dq⟩:=pO;dA (C:=D_ 0) (k:=4) (N:=["self","places","numbers","marks","mark","words","place","number"]) (body:=fX) (λ_ _ _ h=>h) hbn F bL λcdv A outer s H E=>
 (aF (bF (i:=2) bL.nd (s_call GK GL (aC (aP bN (aA 1) (kK (tb:=CV) (dB eJ cT Bk nofun Dp Dq eN) (aA 0))) aH)))
 (aF (bF (i:=3) bL.nd (mG aH))
 (aF (sD (lJ (lM bV (aA 0))) (aT bL.nd)
  (aK (mH (KN y0u y0l y0m qH (aA 3) (aC (cL (aC (bW (aA 4) aG) (aC (qG (js:=[b_,b_,a_ 2]) (N:=iG) rfl rfl (by rfl) (lJ (s_call tN tO (aC (aA 4) aH))) (λ_ _ _ _=>(lI (bI (aT gW) (bI (aT gW) lH)))) (λ_ _ _ _=>oQ) (λ_ _ _ _=>(cL (aC (bW (aA 2) (aA 0)) (aC (bW (aA 2) (aA 1)) aH))))) aH))) aH)))))
 (aF (bF (i:=5) bL.nd (mG aH))
 (aF (sD (lJ (aA 1)) (aT bL.nd)
  (aF (bF (i:=7) bL.nd (bW (aA 2) (aA 6)))
  (aK (mH (KN y0u y0l y0m qH (aA 5) (aC (Gu (qG (js:=[b_,b_,a_ 7]) (N:=iH) rfl rfl (by rfl) (lJ (aA 3)) (λ_ _ _ _=>(lI (bI (aT gX) (bI (aT gX) lH)))) (λ_ _ _ _=>(R8 (KC (s_call P' Pa (aC (aA 1) (aC (aA 2) aH)))))) (λ_ _ _ _=>(aA 0))) rS (.tail _ (.tail _ (.tail _ (.tail _ (.tail _ (.tail _ (.head _)))))))) aH))))))
 (aK (cD (aA 5))))))))
theorem Bl{f:o_}{fd:YK}(hbn:∀x∈bsL,mg x=b_)(F:Fun K "rows" "Signs.rows" pK f fd)(jC:qV P w K mg base cl)(fT:mE (D_ 0) "kept"):m_ 5 f fd ["self"] (spM (D_ 0) 1 dE):=
 let ⟨_,_,tL,tM⟩:=jC;dA (C:=D_ 0) (k:=4) (N:=["self"]) (body:=oZ) (λ_ _ _ h=>h) hbn F Bc λcdv A outer s H E=>
 (aK (cD (AA tL tM (TV PySem.F.plainAttrs_dict PySem.F.slot_dict_items PySem.F.type_dict_items Lv (lM fT (aA 0))) (hb:=rS))))
theorem AV{f:o_}{fd:YK}(hbn:∀x∈bsL,mg x=b_)(F:Fun K "places" "Text.places" nA f fd){cP:o_}(dQ:cl "Signs" = a_ cP)(cM:Cls K cP)(fV:q0f 5 cP "rows" ["self"] 1 dE)(dR:mE (D_ 0) "signs"):m_ 6 f fd ["self"] (spM (D_ 0) 1 dH):=
 let ⟨_,_,nF,pP,pQ⟩:=fV;dA (C:=D_ 0) (k:=5) (N:=["self"]) (body:=mX) (λ_ _ _ h=>h) hbn F AL λcdv A outer s H E=>
 (aK (cD (qG (js:=[b_,b_]) (N:=oA) rfl rfl (by rfl) (lJ (kK (tb:=mM) (dB dQ cM nF nofun pP pQ eN) (lM dR (aA 0)))) (λ_ _ _ _=>(lI (bI (aT mQ) (bI (aT mQ) lH)))) (λ_ _ _ _=>oQ) (λ_ _ _ _=>(aA 0)))))
theorem Dr{f:o_}{fd:YK}(hbn:∀x∈bsL,mg x=b_)(F:Fun K "told" "Text.told" qT f fd){cW:o_}(eJ:cl "Marks" = a_ cW)(cT:Cls K cW){cP:o_}(dQ:cl "Signs" = a_ cP)(cM:Cls K cP){fK:o_}(dG:cl "Text" = a_ fK)(cG:Cls K fK)(fZ:q0f 5 cW "words_along" ["self","places"] 2 bQ)(fV:q0f 5 cP "rows" ["self"] 1 dE)(nG:q0f 6 fK "places" ["self"] 1 dH)(gI:mE (D_ 0) "marks")(dR:mE (D_ 0) "signs"):m_ 7 f fd ["self"] (spM (D_ 0) 1 dX):=
 let ⟨_,_,rA,rX,rY⟩:=fZ;let ⟨_,_,nF,pP,pQ⟩:=fV;let ⟨_,_,AW,Bm,Bn⟩:=nG;dA (C:=D_ 0) (k:=6) (N:=["self","words"]) (body:=qP) (λ_ _ _ h=>h) hbn F vF λcdv A outer s H E=>
 (aF (bF (i:=1) vF.nd (oT (tb:=lT) (dB eJ cT rA nofun rX rY eN) (lM gI (aA 0)) (aC (kK (tb:=rP) (dB dG cG AW nofun Bm Bn eN) (aA 0)) aH)))
 (aK (cD (qG (js:=[b_,b_,a_ 1]) (N:=qU) rfl rfl (by rfl) (RF (aC (kK (tb:=mM) (dB dQ cM nF nofun pP pQ eN) (lM dR (aA 0))) aH) (hb:=(.tail _ (.tail _ (.tail _ (.tail _ (.tail _ (.tail _ (.tail _ (.head _)))))))))) (λ_ _ _ _=>(lI (bI (aT pX) (bI (aT pX) lH)))) (λ_ _ _ _=>oQ) (λ_ _ _ _=>(cL (aC (bW (aA 1) aG) (aC (bW (aA 1) aG) (aC (bW (aA 2) (aA 0)) aH)))))))))
theorem MN{f:o_}{fd:YK}(hbn:∀x∈bsL,mg x=b_)(F:Fun K "_law_mixed" "_law_mixed" zJ f fd):m_ 1 f fd ["_law_cell","_law_k"] (spM (D_ 0) 2 mN):=
 dA (C:=D_ 0) (k:=0) (N:=["_law_cell","_law_k","_law_number"]) (body:=CW) (λ_ _ _ h=>h) hbn F Fc λcdv A outer s H E=>
 (aF (bF (i:=2) Fc.nd (aP mF (aP Hh (aP bN (aP bN (aA 0) (aP Hh aG (aA 1))) aG) aG) aG))
 (aK (cD (aP mF (aP Hh (aA 2) (aP bN (aP A9 (aA 2) aG) aG)) aG))))
theorem Pb{f:o_}{fd:YK}(hbn:∀x∈bsL,mg x=b_)(F:Fun K "_law_deed" "_law_deed" Dd f fd):m_ 1 f fd ["_law_hand_here","_law_n","_law_act"] (spM (D_ 0) 3 iX):=
 dA (C:=D_ 0) (k:=0) (N:=["_law_hand_here","_law_n","_law_act","_law_seen"]) (body:=GB) (λ_ _ _ h=>h) hbn F De λcdv A outer s H E=>
 (aF (bF (i:=3) De.nd (cL aH))
 (aF (iT (cK O2 (aA 1) aG)
  (aK (bF (i:=3) De.nd (cL (aC (cL (aC (aA 0) (aC (aP sC (aA 1) aG) aH))) aH))))
  dO)
 (aK (cD (cL (aC (cL (aC (aA 0) (aC (aA 1) aH))) (aC (aA 3) (aC (aA 2) aH))))))))
theorem Jz{f:o_}{fd:YK}(hbn:∀x∈bsL,mg x=b_)(F:Fun K "before" "before" vG f fd)(fU:pM P w K mg base cl):m_ 2 f fd ["one","other"] (spM (D_ 0) 2 nT):=
 let ⟨_,_,kM,kN⟩:=fU;dA (C:=D_ 0) (k:=1) (N:=["one","other"]) (body:=AF) (λ_ _ _ h=>h) hbn F Jw λcdv A outer s H E=>
 (aK (cD (Tg CF (s_call kM kN (aC (aA 0) aH)) (s_call kM kN (aC (aA 1) aH)))))
theorem Pc{f:o_}{fd:YK}(hbn:∀x∈bsL,mg x=b_)(F:Fun K "_law_side" "_law_side" Df f fd)(oB:wU P w K mg base cl):m_ 3 f fd ["_law_row","_law_due_here","_law_word","_law_first"] (spM (D_ 0) 4 pA):=
 let ⟨_,_,AX,AY⟩:=oB;dA (C:=D_ 0) (k:=2) (N:=["_law_row","_law_due_here","_law_word","_law_first","_law_place","_law_sign","_law_words","_law_side_here"]) (body:=GC) (λ_ _ _ h=>h) hbn F pL λcdv A outer s H E=>
 (aF (xW (aA 0) (lI (bI (aT pL.nd) (bI (aT pL.nd) (bI (aT pL.nd) lH)))))
 (aF (iT (cK yO (aA 6) (mG (aC (aA 2) aH)))
  (aK (bF (i:=7) pL.nd aG))
  (aK (iT (SW.t (w_and (cK yO (aA 6) (mG aH)) (Af (KC (s_call AX AY (aC (aA 4) (aC (aA 3) aH)))))))
   (aK (bF (i:=7) pL.nd (Kv En aG)))
   (aK (iT (cK yO (aA 6) (mG aH))
    (aK (bF (i:=7) pL.nd aG))
    (aK (cD qF)))))))
 (aF (iT (SW.t (w_and (cK O4 (aA 1) qF) (Af (cK KA (aA 1) (aA 7)))))
  (aK (cD qF))
  dO)
 (aK (cD (aA 7))))))
theorem S8{f:o_}{fd:YK}(hbn:∀x∈bsL,mg x=b_)(F:Fun K "_law_due" "_law_due" HP f fd):m_ 1 f fd ["_law_flags","_law_at","_law_rows","_law_ends"] (spM (D_ 0) 4 Hv):=
 dA (C:=D_ 0) (k:=0) (N:=["_law_flags","_law_at","_law_rows","_law_ends","_law_ahead_of","_law_behind"]) (body:=LL) (λ_ _ _ h=>h) hbn F AM λcdv A outer s H E=>
 (aF (bF (i:=4) AM.nd (Kv En aG))
 (aF (bF (i:=5) AM.nd aG)
 (aF (iT (cK O2 (aA 1) aG)
  (aK (bF (i:=4) AM.nd (bW (aA 0) (aP sC (aA 1) aG))))
  dO)
 (aF (iT (cK CF (aA 1) (cY kZ PyProof.Rows.Boot.«len» (aC (aA 2) aH) (hb:=gP)))
  (aK (bF (i:=5) AM.nd (bW (aA 0) (aA 1))))
  dO)
 (aF (iT (SW.t (w_and (cK O2 (aA 1) aG) (Af (cK yO (bW (bW (aA 2) (aP sC (aA 1) aG)) aG) (bW (aA 3) aG)))))
  (aK (cD aG))
  dO)
 (aF (iT (SW.t (w_and (cK CF (aA 1) (cY kZ PyProof.Rows.Boot.«len» (aC (aA 2) aH) (hb:=gP))) (Af (cK yO (bW (bW (aA 2) (aA 1)) aG) (bW (aA 3) aG)))))
  (aK (cD (Kv En aG)))
  dO)
 (aF (iT (cK yO (aA 4) (aA 5))
  (aK (cD (aA 5)))
  dO)
 (aK (cD qF)))))))))
theorem GM{f:o_}{fd:YK}(hbn:∀x∈bsL,mg x=b_)(F:Fun K "_law_goes_on" "_law_goes_on" rR f fd)(xF:Dg P w K mg base cl)(MP:MG P w K mg base cl){fK:o_}(dG:cl "Text" = a_ fK)(cG:Cls K fK)(gY:q0f 6 fK "hear" ["self","deed"] 2 bK)(gZ:q0f 7 fK "told" ["self"] 1 dX):m_ 8 f fd ["_law_text","_law_rows","_law_flags","_law_deed_here","_law_at","_law_state"] (spM (D_ 0) 6 nW):=
 let ⟨_,_,GN,GO⟩:=xF;let ⟨_,_,Uh,Ui⟩:=MP;let ⟨_,_,iI,jQ,jR⟩:=gY;let ⟨_,_,fW,hU,hV⟩:=gZ;dA (C:=D_ 0) (k:=7) (N:=["_law_text","_law_rows","_law_flags","_law_deed_here","_law_at","_law_state","_law_due_here","_law_found","_law_many","_law_sides"]) (body:=wI) (λ_ _ _ h=>h) hbn F lZ λcdv A outer s H E=>
 (aF (bF (i:=6) lZ.nd (s_call Uh Ui (aC (aA 2) (aC (aA 4) (aC (aA 1) (aC (aA 5) aH))))))
 (aF (mH (oT (tb:=fR) (dB dG cG iI nofun jQ jR eN) (aA 0) (aC (aA 3) aH)))
 (aF (bF (i:=7) lZ.nd (kK (tb:=dF) (q1m 0) (aA 0)))
 (aF (bF (i:=8) lZ.nd (cY kZ PyProof.Rows.Boot.«len» (aC (bW (bW (aA 3) aG) aG) aH) (hb:=gP)))
 (aF (iT (SW.t (w_or (cK KA (cY kZ PyProof.Rows.Boot.«len» (aC (aA 7) aH) (hb:=gP)) (aP bN (cY kZ PyProof.Rows.Boot.«len» (aC (aA 1) aH) (hb:=gP)) (aA 8))) (w_or (cK CP (oP (aA 7) gM (cR (aA 4))) (oP (aA 1) gM (cR (aA 4)))) (PK (cK CP (oP (aA 7) (cR (aP bN (aA 4) (aA 8))) gM) (oP (aA 1) (cR (aA 4)) gM))))))
  (aK (cD qF))
  dO)
 (aF (iT (cK KA (Rp PySem.F.plainAttrs_str PySem.F.slot_str_join PySem.F.type_str_join Rx jJ (aC (qG (js:=[b_]) (N:=vH) rfl rfl (by rfl) (lJ (oP (aA 7) (cR (aA 4)) (cR (aP bN (aA 4) (aA 8))))) (λ_ _ _ _=>(aT Bd)) (λ_ _ _ _=>oQ) (λ_ _ _ _=>(bW (aA 0) aG))) aH)) (bW (bW (aA 3) aG) aG))
  (aK (cD qF))
  dO)
 (aF (BQ (i:=9) lZ.nd rfl rfl (js:=[b_,a_ 6,a_ 5]) (N:=vI) rfl rfl (by rfl) (lJ (oP (aA 7) (cR (aA 4)) (cR (aP bN (aA 4) (aA 8))))) (λ_ _ _ _=>(aT Be)) (λ_ _ _ _=>oQ) (λ_ _ _ _=>(s_call GN GO (aC (aA 0) (aC (aA 1) (aC (bW (aA 2) aG) (aC (bW (aA 2) aG) aH)))))))
 (aK (cD (aP bN (aP bN (oP (aA 2) gM (cR (aA 4))) (aA 9)) (oP (aA 2) (cR (aA 4)) gM)))))))))))
theorem S9{f:o_}{fd:YK}(hbn:∀x∈bsL,mg x=b_)(F:Fun K "gap" "gap" HQ f fd)(oB:wU P w K mg base cl):m_ 3 f fd ["left","right"] (spM (D_ 0) 2 C5):=
 let ⟨_,_,AX,AY⟩:=oB;dA (C:=D_ 0) (k:=2) (N:=["left","right"]) (body:=LM) (λ_ _ _ h=>h) hbn F S6 λcdv A outer s H E=>
 (aF (iT (cK Tj (aA 1) qF)
  (aK (cD (cL (aC (aA 0) (aC aG aH)))))
  dO)
 (aF (iT (To (KC (s_call AX AY (aC (aA 0) (aC (aA 1) aH)))))
  (aK U3)
  dO)
 (aF (iT (cK yO (oP (aA 1) gM (cR (cY kZ PyProof.Rows.Boot.«len» (aC (aA 0) aH) (hb:=gP)))) (aA 0))
  (aK (cD (cL (aC (aA 1) (aC (Kv En aG) aH)))))
  dO)
 (aK (cD (cL (aC (aA 0) (aC aG aH))))))))
theorem MQ{f:o_}{fd:YK}(hbn:∀x∈bsL,mg x=b_)(F:Fun K "_law_write" "_law_write" zK f fd)(MR:MJ P w K mg base cl):m_ 4 f fd ["_law_rows","_law_at","_law_number"] (spM (D_ 0) 3 uV):=
 let ⟨_,_,Uj,Uk⟩:=MR;dA (C:=D_ 0) (k:=3) (N:=["_law_rows","_law_at","_law_number","_law_left","_law_right","_law_under","_law_side_here","_law_signs"]) (body:=CY) (λ_ _ _ h=>h) hbn F jP λcdv A outer s H E=>
 (aF (bF (i:=3) jP.nd (cL aH))
 (aF (bF (i:=4) jP.nd qF)
 (aF (iT (cK O2 (aA 1) aG)
  (aK (bF (i:=3) jP.nd (bW (bW (aA 0) (aP sC (aA 1) aG)) aG)))
  dO)
 (aF (iT (cK CF (aA 1) (cY kZ PyProof.Rows.Boot.«len» (aC (aA 0) aH) (hb:=gP)))
  (aK (bF (i:=4) jP.nd (bW (bW (aA 0) (aA 1)) aG)))
  dO)
 (aF (xW (s_call Uj Uk (aC (aA 3) (aC (aA 4) aH))) (lI (bI (aT jP.nd) (bI (aT jP.nd) lH))))
 (aF (bF (i:=7) jP.nd (oP jJ (cR (aP mF (aA 2) aG)) (cR (aP bN (aP bN (aP mF (aA 2) aG) aG) (aP mF (aP A9 (aA 2) aG) aG)))))
 (aK (cD (cL (aC jJ (aC (cL (aC jJ (aC aG aH))) (aC (aA 5) (aC (aA 6) (aC (aA 7) aH))))))))))))))
theorem Sa{f:o_}{fd:YK}(hbn:∀x∈bsL,mg x=b_)(F:Fun K "law" "law" vJ f fd)(GP:HU P w K mg base cl)(Ds:Fg P w K mg base cl)(GQ:HV P w K mg base cl)(xF:Dg P w K mg base cl)(xH:AO P w K mg base cl)(Dt:Fh P w K mg base cl){fK:o_}(dG:cl "Text" = a_ fK)(cG:Cls K fK)(jZ:tMk P w K mg base cl 3 fK "__init__" ["self"] 1 cH)(gY:q0f 6 fK "hear" ["self","deed"] 2 bK)(gZ:q0f 7 fK "told" ["self"] 1 dX)(Du:mg "Text" = cu fK):m_ 9 f fd ["_law_script"] (spM (D_ 0) 1 LP):=
 let ⟨_,_,MS,MT⟩:=GP;let ⟨_,_,Dw,Dx⟩:=Ds;let ⟨_,_,Dy,Dz⟩:=GQ;let ⟨_,_,GN,GO⟩:=xF;let ⟨_,_,JA,JC⟩:=xH;let ⟨_,_,Pd,Pe⟩:=Dt;let ⟨_,_,JD,yU,yV,Pf⟩:=jZ;let ⟨_,_,iI,jQ,jR⟩:=gY;let ⟨_,_,fW,hU,hV⟩:=gZ;dA (C:=D_ 0) (k:=8) (N:=["_law_script","_law_cells","_law_hand_here","_law_text","_law_size","_law_rows","_law_start","_law_stop","_law_word","_law_state","_law_flags","_law_k","_law_number","_law_at","_law_gone","_law_deed_here"]) (body:=LO) (λ_ _ _ h=>h) hbn F dI λcdv A outer s H E=>
 (aF (bF (i:=1) dI.nd (aP bN (oP (aA 0) gM (cR aG)) (aP CM (mG (aC aG aH)) (aP sC aG (cY kZ PyProof.Rows.Boot.«len» (aC (oP (aA 0) gM (cR aG)) aH) (hb:=gP))))))
 (aF (bF (i:=2) dI.nd (s_call MS MT (aC (s_call Dw Dx (aC (bW (aA 1) aG) (aC aG aH))) aH)))
 (aF (bF (i:=3) dI.nd (CK dG Pf yU Du yV))
 (aF (bF (i:=4) dI.nd (aP bN aG (aP mF (bW (aA 1) aG) aG)))
 (aF (mH (oT (tb:=fR) (dB dG cG iI nofun jQ jR eN) (aA 3) (aC (s_call Dy Dz (aC (aA 2) (aC aG (aC (cL (aC jJ (aC (cL (aC jJ (aC aG aH))) (aC (cL aH) (aC aG (aC (oP jJ gM (cR (aA 4))) aH)))))) aH)))) aH)))
 (aF (bF (i:=5) dI.nd (kK (tb:=dF) (q1m 0) (aA 3)))
 (aF (bF (i:=6) dI.nd (aP mF (bW (aA 1) aG) (aA 4)))
 (aF (bF (i:=7) dI.nd (aP bN (aA 6) (aP mF (aP A9 (bW (aA 1) aG) aG) (aP sC (aA 4) (aA 6)))))
 (aF (bF (i:=8) dI.nd (s_call MS MT (aC (s_call Dw Dx (aC (bW (aA 1) aG) (aC aG aH))) aH)))
 (aF (mH (oT (tb:=fR) (dB dG cG iI nofun jQ jR eN) (aA 3) (aC (s_call Dy Dz (aC (aA 2) (aC aG (aC (cL (aC jJ (aC (cL (aC jJ (aC aG aH))) (aC (bW (bW (aA 5) (aA 6)) aG) (aC (bW (bW (aA 5) (aA 7)) aG) (aC (aA 8) aH)))))) aH)))) aH)))
 (aF (bF (i:=9) dI.nd (cL (aC (bW (bW (aA 5) (aA 6)) aG) (aC (bW (bW (aA 5) (aA 7)) aG) (aC (aA 8) aH)))))
 (aF (bF (i:=5) dI.nd (kK (tb:=dF) (q1m 0) (aA 3)))
 (aF (bF (i:=10) dI.nd (aP bN (aP bN (aP CM (mG (aC (Kv En aG) aH)) (aA 6)) (aP CM (mG (aC aG aH)) (aP sC (aP bN (aA 7) aG) (aA 6)))) (aP CM (mG (aC aG aH)) (aP sC (aP sC (aA 4) aG) (aA 7)))))
 (aF (iT (cK KA (qG (js:=[b_,a_ 8,a_ 9]) (N:=Fd) rfl rfl (by rfl) (lJ (aA 5)) (λ_ _ _ _=>(aT Jx)) (λ_ _ _ _=>oQ) (λ_ _ _ _=>(s_call GN GO (aC (aA 0) (aC qF (aC (aA 1) (aC (bW (aA 2) aG) aH))))))) (aA 10))
  (aK (cD IR))
  dO)
 (aF (sD (KL (aC aG (aC (cY Tv PyProof.Rows.Boot.«min» (aC (cY kZ PyProof.Rows.Boot.«len» (aC (aA 0) aH) (hb:=gP)) (aC aG aH)) (hb:=(.tail _ (.tail _ (.tail _ (.tail _ (.tail _ (.tail _ (.tail _ (.tail _ (.head _))))))))))) aH)) (hb:=AN)) (aT dI.nd)
  (aF (bF (i:=12) dI.nd (s_call Dw Dx (aC (bW (aA 0) (aA 11)) (aC aG aH))))
  (aF (iT (SW.t (w_and (cK yO (aP mF (bW (aA 0) (aA 11)) aG) aG) (Af (cK CP (aA 5) (mG aH)))))
   (aF (bF (i:=13) dI.nd (aP mF (aA 12) (cY kZ PyProof.Rows.Boot.«len» (aC (aA 5) aH) (hb:=gP))))
   (aF (bF (i:=14) dI.nd (oP (aA 5) (cR (aA 13)) (cR (aP bN (aP bN (aA 13) aG) (aP mF (aP A9 (aA 12) aG) aG)))))
   (aF (mH (oT (tb:=fR) (dB dG cG iI nofun jQ jR eN) (aA 3) (aC (s_call Dy Dz (aC (aA 2) (aC (aP bN (aA 11) aG) (aC (cL (aC jJ (aC (cL (aC jJ (aC aG aH))) (aC (Ah O5 PyProof.Rows.Boot.«tuple» (aC (qG (js:=[b_]) (N:=Fe) rfl rfl (by rfl) (lJ (aA 14)) (λ_ _ _ _=>(aT Jy)) (λ_ _ _ _=>oQ) (λ_ _ _ _=>(bW (aA 0) aG))) aH) (hb:=(.tail _ (.tail _ (.tail _ (.tail _ (.tail _ (.tail _ (.tail _ (.tail _ (.tail _ (.head _)))))))))))) aH)))) aH)))) aH)))
   (aF (iT (cK CP (kK (tb:=dF) (q1m 0) (aA 3)) (aP bN (oP (aA 5) gM (cR (aA 13))) (oP (aA 5) (cR (aP bN (aA 13) (cY kZ PyProof.Rows.Boot.«len» (aC (aA 14) aH) (hb:=gP)))) gM)))
    (aK (cD IR))
    dO)
   (aK (bF (i:=10) dI.nd (aP bN (oP (aA 10) gM (cR (aA 13))) (oP (aA 10) (cR (aP bN (aA 13) (cY kZ PyProof.Rows.Boot.«len» (aC (aA 14) aH) (hb:=gP)))) gM))))))))
   (aF (bF (i:=13) dI.nd (aP mF (aA 12) (aP bN (cY kZ PyProof.Rows.Boot.«len» (aC (aA 5) aH) (hb:=gP)) aG)))
   (aF (bF (i:=15) dI.nd (s_call Dy Dz (aC (aA 2) (aC (aP bN (aA 11) aG) (aC (s_call Pd Pe (aC (aA 5) (aC (aA 13) (aC (aP A9 (aA 12) aG) aH)))) aH)))))
   (aF (bF (i:=10) dI.nd (s_call JA JC (aC (aA 3) (aC (aA 5) (aC (aA 10) (aC (aA 15) (aC (aA 13) (aC (aA 9) aH))))))))
   (aK (iT (SW.t (w_or (cK Tj (aA 10) qF) (PK (cK PP qF (aA 10)))))
    (aK (cD IR))
    dO))))))
  (aK (bF (i:=5) dI.nd (kK (tb:=dF) (q1m 0) (aA 3)))))))
 (aK (cD IR)))))))))))))))))
end
def spL(K:XQ):Sp:=λvs H Q _=>∃(a:o_)(ns:ve Int),vs=[.ref a]/\K3 H/\q0S a (ns.map V.int)/\ns.length<=63/\∀H',Q (.bl true) H'
@[elab_as_elim]theorem xI{P:ve n_->Prop}(us:ve n_)(hl:us.length=1)(h:∀a0,P [a0]):P us:=by
 cases us with
 |nil=>cases hl
 |cons a0 us=>
  cases us with
  |nil=>exact h a0
  |cons b us=>simp only[YM]at hl;omega
@[elab_as_elim]theorem Bo{P:ve n_->Prop}(us:ve n_)(hl:us.length=2)(h:∀a0 a1,P [a0,a1]):P us:=by
 cases us with
 |nil=>cases hl
 |cons a0 us=>
  cases us with
  |nil=>cases hl
  |cons a1 us=>
   cases us with
   |nil=>exact h a0 a1
   |cons b us=>simp only[YM]at hl;omega
@[elab_as_elim]theorem Ul{P:ve n_->Prop}(us:ve n_)(hl:us.length=3)(h:∀a0 a1 a2,P [a0,a1,a2]):P us:=by
 cases us with
 |nil=>cases hl
 |cons a0 us=>
  cases us with
  |nil=>cases hl
  |cons a1 us=>
   cases us with
   |nil=>cases hl
   |cons a2 us=>
    cases us with
    |nil=>exact h a0 a1 a2
    |cons b us=>simp only[YM]at hl;omega
@[elab_as_elim]theorem Um{P:ve n_->Prop}(us:ve n_)(hl:us.length=4)(h:∀a0 a1 a2 a3,P [a0,a1,a2,a3]):P us:=by
 cases us with
 |nil=>cases hl
 |cons a0 us=>
  cases us with
  |nil=>cases hl
  |cons a1 us=>
   cases us with
   |nil=>cases hl
   |cons a2 us=>
    cases us with
    |nil=>cases hl
    |cons a3 us=>
     cases us with
     |nil=>exact h a0 a1 a2 a3
     |cons b us=>simp only[YM]at hl;omega
@[elab_as_elim]theorem VF{P:ve n_->Prop}(us:ve n_)(hl:us.length=6)(h:∀a0 a1 a2 a3 a4 a5,P [a0,a1,a2,a3,a4,a5]):P us:=by
 cases us with
 |nil=>cases hl
 |cons a0 us=>
  cases us with
  |nil=>cases hl
  |cons a1 us=>
   cases us with
   |nil=>cases hl
   |cons a2 us=>
    cases us with
    |nil=>cases hl
    |cons a3 us=>
     cases us with
     |nil=>cases hl
     |cons a4 us=>
      cases us with
      |nil=>cases hl
      |cons a5 us=>
       cases us with
       |nil=>exact h a0 a1 a2 a3 a4 a5
       |cons b us=>simp only[YM]at hl;omega
theorem all_mk{l:PySem.W.OpenLaw}{w:s_}{K:XQ}{h:r_}{mg:ke 0}{fa aI aJ aN MU:o_}(X:K.In h)(G:h.Ns Zt mg)(Wq:mg "law" = cu fa)(hbn:∀x∈bsL,mg x=b_)
  (Pg:y2a K Zt "Marks" = a_ (cu aI))
  (MV:y0M K aI Str.empty=true)
  (MW:y02 K aI=true)
  (MX:y1H K aI=true)
  (MY:YI K (.ref aI) "__setattr__" = a_ (a_ (.builtin "object.__setattr__")))
  (MZ:y1t K aI=true)
  (N0:ZH K (.ref aI)=true)
  (Bp:YI K (.ref aI) "kept" = a_ b_)
  (AZ:YI K (.ref aI) "marks" = a_ b_)
  (B0:YI K (.ref aI) "signs" = a_ b_)
  (vN:YI K (.ref aI) "standing" = a_ b_)
  (Ph:y2a K Zt "Signs" = a_ (cu aJ))
  (N1:y0M K aJ Str.empty=true)
  (N2:y02 K aJ=true)
  (N3:y1H K aJ=true)
  (N4:YI K (.ref aJ) "__setattr__" = a_ (a_ (.builtin "object.__setattr__")))
  (N5:y1t K aJ=true)
  (N6:ZH K (.ref aJ)=true)
  (Bq:YI K (.ref aJ) "kept" = a_ b_)
  (B1:YI K (.ref aJ) "marks" = a_ b_)
  (B2:YI K (.ref aJ) "signs" = a_ b_)
  (vO:YI K (.ref aJ) "standing" = a_ b_)
  (Sb:y2a K Zt "Text" = a_ (cu aN))
  (Pi:y0M K aN Str.empty=true)
  (Pj:y02 K aN=true)
  (Pk:y1H K aN=true)
  (Pl:YI K (.ref aN) "__setattr__" = a_ (a_ (.builtin "object.__setattr__")))
  (Pm:y1t K aN=true)
  (Pn:ZH K (.ref aN)=true)
  (DA:YI K (.ref aN) "kept" = a_ b_)
  (Br:YI K (.ref aN) "marks" = a_ b_)
  (Bs:YI K (.ref aN) "signs" = a_ b_)
  (xJ:YI K (.ref aN) "standing" = a_ b_)
  (xK:MtX K aI "__init__" "Marks.__init__" iZ)
  (DB:MtX K aI "ends" "Marks.ends" pJ)
  (DC:MtX K aI "mark" "Marks.mark" pG)
  (rZ:MtX K aI "words_along" "Marks.words_along" fY)
  (xM:MtX K aJ "__init__" "Signs.__init__" iY)
  (Ft:MtX K aJ "cut" "Signs.cut" qQ)
  (DD:MtX K aJ "rows" "Signs.rows" pK)
  (Bt:MtX K aJ "write" "Signs.write" mZ)
  (yW:MtX K aN "__init__" "Text.__init__" jY)
  (Fu:MtX K aN "hear" "Text.hear" qR)
  (Bu:MtX K aN "places" "Text.places" nA)
  (Fv:MtX K aN "told" "Text.told" qT)
  (Sd:DfX K "_law_hand" Dc)
  (GR:DfX K "place_of" pC)
  (Fw:DfX K "places_of" mO)
  (JE:DfX K "rank_of" rQ)
  (GS:DfX K "row_rank" pD)
  (GT:DfX K "numbered" pH)
  (GU:DfX K "spans_of" pI)
  (Po:DfX K "bears" zI)
  (Pp:DfX K "_law_mixed" zJ)
  (Se:DfX K "_law_deed" Dd)
  (N7:DfX K "before" vG)
  (Sf:DfX K "_law_side" Df)
  (Uo:DfX K "_law_due" HP)
  (JF:DfX K "_law_goes_on" rR)
  (Up:DfX K "gap" HQ)
  (Pq:DfX K "_law_write" zK)
  (Uq:y2a K Zt "law" = a_ (cu MU))
  {Sh N8 HY N9 DE N':n_} {Si Na:v_ o_} {Pr:j_ 0}
  (Ur:K.lookup MU=a_ ⟨Sh,Si,.func (ZX "law" "law" (hZ vJ) (fL vJ) (aL vJ) .none N8 HY N9 Na DE N'),Pr⟩)
  (Us:y1Q K DE "law" = true)
  (Ut:ZH K (.ref MU)=true)
  : ∃fd:YK,(∀(s:oa)(v:n_),BindsTo s fd ⟨[v],[]⟩ [("_law_script",v)])/\∀base:r_,K.In base->base.Ns Zt mg->bD l.prog w K mg base CX0 9 fa fd ["_law_script"] (spL K):=by
 let e:=Wq.symm.trans (PySem.W.mg_of X G Uq);cases e
 let eJ:(K_ 0) "Marks" = a_ aI:=(q0s 0);let cT:Cls K aI:=⟨MV,MW,MX,MY⟩;let AQ:mg "Marks" = cu aI:=PySem.W.mg_of X G Pg;let dQ:(K_ 0) "Signs" = a_ aJ:=((q0a 0).trans (q0s 0));let cM:Cls K aJ:=⟨N1,N2,N3,N4⟩;let AR:mg "Signs" = cu aJ:=PySem.W.mg_of X G Ph;let dG:(K_ 0) "Text" = a_ aN:=((q0a 0).trans ((q0a 0).trans (q0s 0)));let cG:Cls K aN:=⟨Pi,Pj,Pk,Pl⟩;let Du:mg "Text" = cu aN:=PySem.W.mg_of X G Sb;let fT:mE (cC w K (K_ 0)) "kept" := λc a hc=>by
  let af:(K_ 0) c=a_ a:=hc;dsimp only[clF]at af;by_cases iJ:c="Marks"
  ·rw[if_pos iJ]at af;cases af
   show⟨cT,Bp⟩
  rw[if_neg iJ]at af;by_cases iK:c="Signs"
  ·rw[if_pos iK]at af;cases af
   show⟨cM,Bq⟩
  rw[if_neg iK]at af;by_cases mD:c="Text"
  ·rw[if_pos mD]at af;cases af
   show⟨cG,DA⟩
  rw[if_neg mD]at af;cases af
 let gI:mE (cC w K (K_ 0)) "marks" := λc a hc=>by
  let af:(K_ 0) c=a_ a:=hc;dsimp only[clF]at af;by_cases iJ:c="Marks"
  ·rw[if_pos iJ]at af;cases af
   show⟨cT,AZ⟩
  rw[if_neg iJ]at af;by_cases iK:c="Signs"
  ·rw[if_pos iK]at af;cases af
   show⟨cM,B1⟩
  rw[if_neg iK]at af;by_cases mD:c="Text"
  ·rw[if_pos mD]at af;cases af
   show⟨cG,Br⟩
  rw[if_neg mD]at af;cases af
 let dR:mE (cC w K (K_ 0)) "signs" := λc a hc=>by
  let af:(K_ 0) c=a_ a:=hc;dsimp only[clF]at af;by_cases iJ:c="Marks"
  ·rw[if_pos iJ]at af;cases af
   show⟨cT,B0⟩
  rw[if_neg iJ]at af;by_cases iK:c="Signs"
  ·rw[if_pos iK]at af;cases af
   show⟨cM,B2⟩
  rw[if_neg iK]at af;by_cases mD:c="Text"
  ·rw[if_pos mD]at af;cases af
   show⟨cG,Bs⟩
  rw[if_neg mD]at af;cases af
 let bV:mE (cC w K (K_ 0)) "standing" := λc a hc=>by
  let af:(K_ 0) c=a_ a:=hc;dsimp only[clF]at af;by_cases iJ:c="Marks"
  ·rw[if_pos iJ]at af;cases af
   show⟨cT,vN⟩
  rw[if_neg iJ]at af;by_cases iK:c="Signs"
  ·rw[if_pos iK]at af;cases af
   show⟨cM,vO⟩
  rw[if_neg iK]at af;by_cases mD:c="Text"
  ·rw[if_pos mD]at af;cases af
   show⟨cG,xJ⟩
  rw[if_neg mD]at af;cases af
 refine⟨ZX "law" "law" (hZ vJ) (fL vJ) (aL vJ) .none N8 HY N9 Na DE N',λs v=>.of_eq rfl,λbase _ _=>?_⟩;let GP:HU l.prog w K mg base (K_ 0):=rW X G Sd (λ_ _ _ _ _ _ us hl=>xI us hl λ_=>rfl) λF=>P9 hbn F;let jB:tMk l.prog w K mg base (K_ 0) 1 aJ "__init__" ["self"] 1 bT:=S7 xM N5 N6 (λ_ _ _ _ _ _ us hl=>xI us hl λ_=>rfl) λF=>vL hbn F fT;let jA:tMk l.prog w K mg base (K_ 0) 1 aI "__init__" ["self"] 1 bU:=S7 xK MZ N0 (λ_ _ _ _ _ _ us hl=>xI us hl λ_=>rfl) λF=>vM hbn F bV;let jZ:tMk l.prog w K mg base (K_ 0) 3 aN "__init__" ["self"] 1 cH:=S7 yW Pm Pn (λ_ _ _ _ _ _ us hl=>xI us hl λ_=>rfl) λF=>wV hbn F eJ cT dQ cM jA jB AQ AR gI dR;let tK:yG l.prog w K mg base (K_ 0):=rW X G GR (λ_ _ _ _ _ _ us hl=>Bo us hl λ_ _=>rfl) λF=>Fi hbn F;let qX:vK l.prog w K mg base (K_ 0):=rW X G Fw (λ_ _ _ _ _ _ us hl=>xI us hl λ_=>rfl) λF=>Di hbn F tK;let nB:q0o (K_ 0) 3 aJ "write" ["self","deed"] 2 eK:=Dh Bt (λ_ _ _ _ _ _ us hl=>Bo us hl λ_ _=>rfl) λF=>AS hbn F qX fT;let fU:pM l.prog w K mg base (K_ 0):=rW X G JE (λ_ _ _ _ _ _ us hl=>xI us hl λ_=>rfl) λF=>GJ hbn F;let jC:qV l.prog w K mg base (K_ 0):=rW X G GS (λ_ _ _ _ _ _ us hl=>xI us hl λ_=>rfl) λF=>Fm hbn F fU;let qY:q0o (K_ 0) 5 aJ "cut" ["self","places"] 2 gU:=Dh Ft (λ_ _ _ _ _ _ us hl=>Bo us hl λ_ _=>rfl) λF=>Dj hbn F jC fT;let pN:q0o (K_ 0) 1 aI "mark" ["self","deed"] 2 fP:=Dh DC (λ_ _ _ _ _ _ us hl=>Bo us hl λ_ _=>rfl) λF=>Bf hbn F bV;let gY:q0o (K_ 0) 6 aN "hear" ["self","deed"] 2 bK:=Dh Fu (λ_ _ _ _ _ _ us hl=>Bo us hl λ_ _=>rfl) λF=>Dk hbn F eJ cT dQ cM pN qY nB gI dR;let tP:yH l.prog w K mg base (K_ 0):=rW X G GT (λ_ _ _ _ _ _ us hl=>xI us hl λ_=>rfl) λF=>Fq hbn F fU;let jD:qW l.prog w K mg base (K_ 0):=rW X G GU (λ_ _ _ _ _ _ us hl=>xI us hl λ_=>rfl) λF=>Fs hbn F;let pO:q0o (K_ 0) 2 aI "ends" ["self"] 1 fQ:=Dh DB (λ_ _ _ _ _ _ us hl=>xI us hl λ_=>rfl) λF=>Bj hbn F jD bV;let Do:Ff l.prog w K mg base (K_ 0):=rW X G Po (λ_ _ _ _ _ _ us hl=>Bo us hl λ_ _=>rfl) λF=>MM hbn F;let fZ:q0o (K_ 0) 5 aI "words_along" ["self","places"] 2 bQ:=Dh rZ (λ_ _ _ _ _ _ us hl=>Bo us hl λ_ _=>rfl) λF=>qZ hbn F tP jD Do eJ cT pO bV;let fV:q0o (K_ 0) 5 aJ "rows" ["self"] 1 dE:=Dh DD (λ_ _ _ _ _ _ us hl=>xI us hl λ_=>rfl) λF=>Bl hbn F jC fT;let nG:q0o (K_ 0) 6 aN "places" ["self"] 1 dH:=Dh Bu (λ_ _ _ _ _ _ us hl=>xI us hl λ_=>rfl) λF=>AV hbn F dQ cM fV dR;let gZ:q0o (K_ 0) 7 aN "told" ["self"] 1 dX:=Dh Fv (λ_ _ _ _ _ _ us hl=>xI us hl λ_=>rfl) λF=>Dr hbn F eJ cT dQ cM dG cG fZ fV nG gI dR;let Ds:Fg l.prog w K mg base (K_ 0):=rW X G Pp (λ_ _ _ _ _ _ us hl=>Bo us hl λ_ _=>rfl) λF=>MN hbn F;let GQ:HV l.prog w K mg base (K_ 0):=rW X G Se (λ_ _ _ _ _ _ us hl=>Ul us hl λ_ _ _=>rfl) λF=>Pb hbn F;let oB:wU l.prog w K mg base (K_ 0):=rW X G N7 (λ_ _ _ _ _ _ us hl=>Bo us hl λ_ _=>rfl) λF=>Jz hbn F fU;let xF:Dg l.prog w K mg base (K_ 0):=rW X G Sf (λ_ _ _ _ _ _ us hl=>Um us hl λ_ _ _ _=>rfl) λF=>Pc hbn F oB;let MP:MG l.prog w K mg base (K_ 0):=rW X G Uo (λ_ _ _ _ _ _ us hl=>Um us hl λ_ _ _ _=>rfl) λF=>S8 hbn F;let xH:AO l.prog w K mg base (K_ 0):=rW X G JF (λ_ _ _ _ _ _ us hl=>VF us hl λ_ _ _ _ _ _=>rfl) λF=>GM hbn F xF MP dG cG gY gZ;let MR:MJ l.prog w K mg base (K_ 0):=rW X G Up (λ_ _ _ _ _ _ us hl=>Bo us hl λ_ _=>rfl) λF=>S9 hbn F oB;let Dt:Fh l.prog w K mg base (K_ 0):=rW X G Pq (λ_ _ _ _ _ _ us hl=>Ul us hl λ_ _ _=>rfl) λF=>MQ hbn F MR;refine(Sa (cl:=K_ 0) hbn (zS (st:=vJ) Ur Us Ut) GP Ds GQ xF xH Dt dG cG jZ gY gZ Du).imp λvs H Q E hh=>?_;let⟨a,ns,rfl,hO,hS,hl,hq⟩:=hh;show R9 (C:=cC w K (K_ 0)) hO hS (main ns hl) hq
theorem walk{l:PySem.W.OpenLaw}{q:td}{loose:ve Str}{XP:(ke 0)->r_->Prop}{YP:s_->r_->Prop}{d:DefRec}{K:Params->XQ}(hn:l.most=a_ 63)(qi:d.params.defaults=[])
  (hY:∀(w:s_)(h:r_),YP w h->(K w.params).In h)
  (F:∀(w:s_)(mg:ke 0)(fa:o_)(h:r_),(K w.params).In h->h.Ns Zt mg->mg d.name=cu fa->
   ∃fd:YK,(∀(s:oa)(u:n_),BindsTo s fd ⟨[u],[]⟩ [("_law_script",u)])/\∀base:r_,(K w.params).In base->base.Ns Zt mg->bD l.prog w (K w.params) mg base CX0 9 fa fd ["_law_script"] (spL (K w.params))):
  PySem.W.WalkO q loose XP YP l.row.toRowW d [] (λf vs=>PySem.call f vs):=
 L2.walk_of (n:=63) (k:=9) (x:="_law_script") (CX:=λ_=>CX0) (sp:=λw=>spL (K w.params)) hn nofun qi ⟨rfl,nofun,nofun⟩ hY F (λw H a ns hl hO hS=>⟨a,ns,rfl,hO,hS,hl,λ_=>rfl⟩) λ_ _ _ _ _ z=>z
end K44
open PySem PySem.W PyProof.Rows
set_option maxRecDepth 100000 in
set_option maxHeartbeats 0 in
inductive PySem.W.Fast:Prop|tw13329817687484865293|tw13281816169850949837|tw993589478897829513|tw9126752557308774809|tw13752244860190581679|tw3437562481572662152|tw16230602587683272012|tw4727694286284227394|tw14606744359462449474|tw10767075758986718141|tw17355854034778677085|tw16032925703675329106|tw4663353878867534838|tw1422292942532042705|tw996047804336362018|tw12561870496185684346|tw8549040694003227092|tw2766658199972916182|tw4801622119577334407|tw14343954533038477343|tw9855742678670868526|tw16643878707458455005|tw9996346690953798217|tw6510485111633973875|tw12411646700574012333|tw6238924878963816346|tw16360620016915292464|tw8012305463772767884|tw4625574051067887436|tw11659740721594842138|tw17380213590371657161|tw4280931472527938582|tw3028888235661211299|tw14145024466227106847|tw16408938409379006455|tw9555370230847747659|tw11955623746385294170|tw15765295228872905516|tw10514554279816793657|tw13792130614111485805|tw11720841964110827027|tw16889336108993995296|tw27230403909737889|tw15625329324643861307|tw13455223992595781123|tw6190378945130137676|tw5781734522364426680|tw6336412106049623087|tw5154149020019350711|tw8921590909954170705|tw16790363782999640653|tw851525806549681212|tw6496665202532264248|tw6498805560213376326|tw1375197567706852574|tw15160383345871107597|tw2403272188090992713|tw13284889564796464611|tw16205243014146259147|tw4013530251384542528|tw3178483076435465793|tw4289330276314723770|tw14426027699986266449|tw12739765066896964984|tw4668677036136307168|tw6822993248147371228|tw15221799409124146328|tw9028732752864784393|tw2065573976504448133|tw8630567494789267239|tw9569319710079219878|tw1174527447817032671|tw7188355850746572488|tw7732792445915855420|tw15583984858352528416|tw12463005374806551753|tw2979001005869494070|tw16173977060679290391|tw676862260316112227|tw10191598381177937334|tw17809142356021227896|tw15520554847670519262|tw16428294310819265472|tw9647641065228136137|tw9314780029411661034|tw8764429597185397606|tw5678666587226819588|tw4353781095205172781|tw10855346540407119865|tw14200398022228368472|tw14414644984599792323|tw16400391872611635811|tw5160939013783833189|tw15121509375921355115|tw10036186931892332966|tw2335041543278755377|tw12484752884555060225|tw6806442501719368273|tw10647648464345150500|tw6169534271399046737|tw3118698846261549346|tw1829778002810463407|tw5850365784088697830|tw6356558251397123966|tw15723168390342842989|tw10346534948992195602|tw9409003346025351380|tw16856791754061797999|tw10817836400488285112|tw16172449540059081561|tw3592735488498317976|tw6812666134503021750|tw6091190727778869309|tw3507839213722621526|tw6513897585566192973|tw10244566161829375041|tw4035112475963523615|tw10562053587411874928|tw10433960744945090128|tw9835850670266774840|tw12086508495645872605|tw18402946359294969340|tw7432225970305274944|tw16230275427914828037|tw8385880143957105560|tw17596681172391379587|tw17500778926761988841|tw15947800643923197412|tw16469544918946145349|tw17116885435201266328|tw3043833605778357421
end
theorem PySem.Challenge.cw_copymeet_k44_written_into_a_mark_holds : PySem.Challenge.rw_copymeet_k44_written_into_a_mark.Holds := by
 w_on; o_law; k_head; (case hw=>w_witness2)
 k_fill
 refine K44.walk (l:=PySem.Challenge.rw_copymeet_k44_written_into_a_mark) rfl rfl (fun w h Y=>PySem.W.kIn_of Y) ?F
 case F=>
  intro w mg fa h KX G hmg
  have hbn:∀ x∈K44.bsL,mg x=none:=fun x hx=>by
   iterate 10(rcases List.mem_cons.mp hx with rfl|hx;·exact PySem.W.mg_none_of KX G (by k_is))
   cases hx
  refine' K44.all_mk KX G hmg hbn ?h0 ?h1 ?h2 ?h3 ?h4 ?h5 ?h6 ?h7 ?h8 ?h9 ?h10 ?h11 ?h12 ?h13 ?h14 ?h15 ?h16 ?h17 ?h18 ?h19 ?h20 ?h21 ?h22 ?h23 ?h24 ?h25 ?h26 ?h27 ?h28 ?h29 ?h30 ?h31 ?h32 ?h33 ?h34 ?h35 ?h36 ?h37 ?h38 ?h39 ?h40 ?h41 ?h42 ?h43 ?h44 ?h45 ?h46 ?h47 ?h48 ?h49 ?h50 ?h51 ?h52 ?h53 ?h54 ?h55 ?h56 ?h57 ?h58 ?h59 ?h60 ?h61 ?h62 ?h63 ?h64
  case h0|h1|h2|h3|h4|h5|h6|h7|h8|h9|h10|h11|h12|h13|h14|h15|h16|h17|h18|h19|h20|h21|h22|h23|h24|h25|h26|h27|h28|h29|h30|h31|h32=>k_is
  case h33|h34|h35|h36|h37|h38|h39|h40|h41|h42|h43|h44=>exact qb_ 0
  case h45|h46|h47|h48|h49|h50|h51|h52|h53|h54|h55|h56|h57|h58|h59|h60=>exact qc_ 0
  case h61|h62|h63|h64=>k_is
